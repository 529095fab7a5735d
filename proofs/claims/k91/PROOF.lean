import PyProof.Rows.All
import Wide.All
import Wide.FinOn
import KE.KSortTup
import KE.KNestM
import KE.KIsAll
import KE.KRevIter
import KE.KLam
import KE.KMinKey
import KE.KDictList
import KE.KIntText
import KE.KxAffix
import PySem.Challenge.RW_needplan_k91_whole_text_to_plan
noncomputable section
open PySem renaming wpAny_bind → GA
open PySem renaming wpAny_pure → GB
open List renaming length_map → Zzz, getElem?_map → Zzy, mem_map → Zzv, mem_of_getElem? → Zzu, mem_cons → Zzs, getElem?_eq_getElem → Zzr, getD_eq_getElem?_getD → Zzp, map_append → Zzo, size_toArray → Zzn, mem_cons_self → Zzm, mem_cons_of_mem → Zzl, not_mem_nil → Zzk, take_length → Zzf, getElem?_eq_some_iff → Zze, mem_singleton → Zzc, take_add_one → Zzb, map_cons → Zza, length_take → Zz7, append_nil → Zz6, mem_append → Zz4, map_map → Zz1, filter_append → Zyx, length_append → Zyv, mem_append_right → Zyu, getElem?_eq_none → Zyt, length_cons → Zys, map → Zyo, filter_cons → Zyk, nodup_cons → Zyj, range → Zyi, length_filter_le → Zyh, mem_filter → Zyf, toArray → Zy9, replicate → Zy8, all_eq_true → Zy5, getElem?_set_ne → Zy3, mem_iff_getElem → Zy2, lookup_cons → Zxz, flatten_cons → Zxv, length_drop → Zxr, replicate_succ → Zxp, map_congr_left → Zxo, map_nil → Zxn, nil_append → Zxk, getElem?_append_right → Zxi, ext_getElem? → Zxf, length_singleton → Zxe, getElem?_take → Zxd, lookup → Zxb, length → Zxa, mem_append_left → Zx9, length_nil → Zx6, cons_append → Zx2, mem_range → Zx1, nodup_nil → Zwy, getElem?_append_left → Zwx, pairwise_iff_getElem → Zww, take_of_length_le → Zwq, take_append_drop → Zwm, append_assoc → Zwk, getElem?_of_mem → Zwi, take_zero → Zwg, getElem_mem → Zwc, length_reverse → Zw9, flatten_append → Zw8, getElem?_cons_zero → Zw7, getElem?_cons_succ → Zw6, all_cons → Zw4, any_cons → Zw3, mem_filterMap → Zw2, find?_cons → Zw0, forIn_cons → Zvz, getElem?_set_self → Zvy, filter → Zvx, filter_eq_nil_iff → Zvw, length_range → Zvu, filterMap_cons → Zvm, replicate_zero → Zvk, getD_cons_zero → Zvj, getD_cons_succ → Zvi, drop_eq_getElem_cons → Zvg, set_cons_zero → Zvb, set_cons_succ → Zva, map_set → Zv9, getElem?_inj → Zv3, nodup_append → Zv1, zipIdx_cons → Zuv, flatten_nil → Zuu, mem_iff_getElem? → Zut, zipIdx_nil → Zum, range_succ → Zul, mem_of_mem_take → Zuh, length_pos_iff → Zuc, forIn_nil → Zu9, getElem?_drop → Zu5, pairwise_cons → Zu4, map_drop → Zu1, map_take → Zu0
open PySem.Heap renaming get?_push_of_some → Zzx, get?_push_size → Zzj, lt_size → Zzg, size_push → Zye, SameBut → Zy7, get?_update_other → Zy1, get?_update_self → Zwz
open PySem.W renaming Frag → Zzw, mg_of → Zyw, nsIn → Zyl, mg_none_of → Zyg, findIn → Zy0, kia_one → Zxl, fnOf → Zxh, emptyDict → Zxg, keepIn → Zx0, instObj → Zwv, plainGet → Zvr, hasDictIn → Zv5, isFn → Zuq, plainGet_of → Zue, lookIn → Zub, codeIn → Zua
open Or renaming inl → Zzt, inr → Zwd
open Nat renaming le_refl → Zzq, le_trans → Zzd, lt_of_lt_of_le → Zz3, ne_of_lt → Zz2, lt_of_le_of_lt → Zz0, zero_le → Zyz, ne_of_gt → Zxt, lt_succ_of_lt → Zx7, le_of_eq → Zwo, toDigits → Zwn, lt_irrefl → Zwl, toDigits_of_lt_base → Zw5, add_sub_cancel' → Zvl, sub_self → Zvc, lt_trichotomy → Zv2, succ_ne_self → Zux, le_add_right → Zuw, lt_trans → Zup, pow_le_pow_right → Zun, min_self → Zui, zero_add → Zug, le_succ → Zu6, reduceAdd → Zu3, reduceSub → Zu2
open Ne renaming symm → Zzi
open Option.some renaming inj → Zzh, injEq → Zvv
open Int renaming le_refl → Zz9, add_zero → Zxy, lt_of_le_of_lt → Zxs, le_trans → Zxm, mul_le_mul_of_nonneg_left → Zws, toNat_natCast → Zvt, emod_lt_of_pos → Zvd, zero_add → Zuk, emod_nonneg → Zuj, mul_nonneg → Zu8, add_le_add → Zu7
open Bool renaming false_ne_true → Zz8, and_eq_true → Zyy, and_true → Zvn, true_and → Zuy, eq_iff_iff → Zur, and_eq_true_iff → Zuo
open PySem.F renaming plainAttrs_list → Zz5, plainAttrs_str → Zyr, slot_list_append → Zyn, type_list_append → Zym, slot_str_join → Zxx, type_str_join → Zxw, slot_str_split → Zx4, type_str_split → Zx3, slot_list_extend → Zwb, type_list_extend → Zwa, args_tuple_add_2 → Zve, entry_tuple_add → Zv6, slot_tuple_add → Zv0
open PySem.Builtin.SmallTypes renaming nextOf → Zyq, ownedTupleIsFree → Zyd, ownedTupleHandOut → Zxc
open PySem.NameKind renaming free → Zyp, cell → Zvo
open Array renaming getElem?_eq_getElem → Zyc, getD_eq_getD_getElem? → Zya, length_toList → Zxq, toArray_toList → Zwu, getElem?_eq_none → Zwp, getElem?_toList → Zvs
open PyProof.Rows renaming callWith_type1 → Zyb, slot_tuple_getitem → Zxu
open PySem.Builtin.Str renaming strSliceIndices → Zy6, strKind → Zwr, occurrences → Zv7
open Sum renaming inr → Zy4
open PySem.Builtin.Builtins renaming bindParams → Zxj
open PySem.W.KAf renaming app_list → Zx8
open PySem renaming mem_of_lookup → Zx5, intText? → Zv8
open List.cons renaming inj → Zwt, injEq → Zuf
open PySem.Builtin.Slice renaming slicePlaces → Zwj, sliceAdjust → Zvh
open Sum.inr renaming inj → Zwh
open PySem.Builtin.Tuple renaming tupleExact → Zwf
open PySem.Builtin.List renaming listTooLong → Zwe
open Option renaming map_some → Zw1, getD_some → Zvq
open PySem.Around renaming under_plainId → Zvp
open PySem.Calls renaming spliced_cons → Zvf, spliced_nil → Zv4, callWith_builtin → Zuz
open PySem.StrLaws renaming glued_eq_join → Zus
open PySem.Heap.SameBut renaming update → Zud
set_option maxRecDepth 100000
set_option maxHeartbeats 4000000
set_option Elab.async false
set_option linter.all false
open PySem
variable {us its:List Value}{x name nm qual q:Str}{u oc:Value}{a b p f st dx Pt wl:Addr}{P prog:Program}{w:World}{h h' base:Heap}{e tg e2:Expr}{g kz:Str->Int}{pins:List (Addr×Obj)}{s s':Shared}{g':Array GenState}{t' i j c n m:Nat}{ch sts fp wr:List Addr}{N ys ps loose names Pn:List Str}{M:Model}{A:Around}{E Q:Value->Shared->Prop}{pos apos:Pos}{K:Zzw}{es ifs elts:List Expr}{body:List Stmt}{R:Result->Shared->Prop}{lo hi:Option Int}{pl:Sem Bool}{C:List Value->Prop}{mA mg:Str->Option Value}{ns row:List Int}{kw:List (Str×Value)}{env:Env}{outer:List Env}{fd:FuncData}{ds:List PyData}{kindOf:Str->Option NameKind}{sc scope:Scope}{params:Arguments}{od:Option Addr}{T:String}{sl:Array (Option Value)}{items:Array Value}{l:List (Str×Tok×Addr)}{XP:(Str->Option Value)->Heap->Prop}{YP:World->Heap->Prop}{cap:List Nat}{key:Nat->Int}{cmp:Nat->Nat->(Bool->Shared->Prop)->Shared->Prop}{plan plan':Str->List Int}{lag:Int}
theorem FV{p:Prop}[Decidable p]:decide p=true->p:=of_decide_eq_true
theorem FW{p:Prop}[h:Decidable p](x:p):decide p=true:=decide_eq_true x
theorem FX{p:Prop}[h:Decidable p](x:¬p):decide p=false:=decide_eq_false x
theorem FY{c:Prop}{h:Decidable c}(n:¬c){α:Sort u}{t e:α}:ite c t e=e:=if_neg n
theorem FZ{c:Prop}{h:Decidable c}(n:c){α:Sort u}{t e:α}:ite c t e=t:=if_pos n
namespace L2
open PySem PySem.Spec PyProof.Rows
abbrev Key:=Sum Int Str
noncomputable def V9:Key->Value->Bool
 |.inl k,v=>Value.isInt k v
 |.inr x,v=>Value.isStrOf x v
noncomputable def keyH(w:World):Key->Int
 |.inl k=>hashInt k
 |.inr x=>hashStr w x
theorem Cu:∀{k:Key} {v:Value},V9 k v=true->(∃i t,k=Sum.inl i/\v=Value.int i t)\/(∃x t,k=Zy4 x/\v=Value.str x t)
 |.inl i,v,h=>by
  obtain⟨t,e⟩:=Value.isInt_shape (k:=i) (v:=v) h;exact .inl ⟨i,t,rfl,e⟩
 |.inr x,v,h=>by
  obtain⟨t,e⟩:=Value.isStrOf_shape (x:=x) (v:=v) h;exact .inr ⟨x,t,rfl,e⟩
theorem kq(i:Int)(t:Tok):V9 (.inl i) (.int i t)=true:=by simp[V9,Value.isInt]
theorem ko(x:Str)(t:Tok):V9 (.inr x) (.str x t)=true:=by simp[V9,Value.isStrOf]
theorem A18(a b:Int):decide ((Sum.inl a:Key)=Sum.inl b)=(a == b):=by
 by_cases e:a=b
 ·subst e;simp
 ·have h:¬ (Sum.inl a:Key)=Sum.inl b:=λq=>e (Sum.inl.inj q)
  rw[FX h];exact(beq_eq_false_iff_ne.mpr e).symm
theorem A15(a b:Str):decide ((Zy4 a:Key)=Zy4 b)=decide (a=b):=by
 by_cases e:a=b
 ·subst e;simp
 ·have h:¬ (Zy4 a:Key)=Zy4 b:=λq=>e (Zwh q)
  rw[FX h,FX e]
theorem A17(a:Int)(b:Str):decide ((Sum.inl a:Key)=Zy4 b)=false:=FX (λq=>nomatch q)
theorem A16(a:Str)(b:Int):decide ((Zy4 a:Key)=Sum.inl b)=false:=FX (λq=>nomatch q)
noncomputable def Bm(prog:Program)(w:World):PySem.KeyKind prog w Key where
 is:=V9
 hash:=keyH w
 inj:=λv a b ha hb=>by
  rcases Cu ha with ⟨i,t,rfl,rfl⟩ | ⟨x,t,rfl,rfl⟩
  ·rcases Cu hb with ⟨j,u,rfl,e⟩ | ⟨y,u,rfl,e⟩
   ·injection e with e1 _;rw[e1]
   ·exact nomatch e
  ·rcases Cu hb with ⟨j,u,rfl,e⟩ | ⟨y,u,rfl,e⟩
   ·exact nomatch e
   ·injection e with e1 _;rw[e1]
 byValue:=λk v h=>by
  rcases Cu h with ⟨i,t,rfl,rfl⟩ | ⟨x,t,rfl,rfl⟩<;>rfl
 pyHash:=λhv h=>by
  rcases Cu hv with ⟨i,t,rfl,rfl⟩ | ⟨x,t,rfl,rfl⟩
  ·exact wpAny_pyHash_int h
  ·exact wpAny_pyHash_str h
 eqBool:=λhu hv h=>by
  rcases Cu hu with ⟨i,t,rfl,rfl⟩ | ⟨x,t,rfl,rfl⟩
  ·rcases Cu hv with ⟨j,u,rfl,rfl⟩ | ⟨y,u,rfl,rfl⟩
   ·rw[A18] at h;exact wpAny_eqBool_int h
   ·rw[A17] at h;exact SeqAt.EqAt.int_str i t y u _ _ _ _ h
  ·rcases Cu hv with ⟨j,u,rfl,rfl⟩ | ⟨y,u,rfl,rfl⟩
   ·rw[A16] at h;exact SeqAt.EqAt.str_int x t j u _ _ _ _ h
   ·rw[A15] at h;exact wpAny_eqBool_str h
 «strs»:=λk x t v h=>by
  rcases Cu h with ⟨i,u,rfl,e⟩ | ⟨y,u,rfl,e⟩
  ·exact nomatch e
  ·injection e with e1 _
   subst e1;cases v<;>rfl
theorem Zk(prog:Program)(w:World)(i:Int)(t:Tok):(Bm prog w).is (.inl i) (.int i t)=true:=kq i t
theorem Go(prog:Program)(w:World)(x:Str)(t:Tok):(Bm prog w).is (.inr x) (.str x t)=true:=ko x t
inductive V where
 |non | bl (b:Bool) | int (i:Int) | str (x:Str) | byt (b:Array UInt8) | flt (b:UInt64) | ref (a:Addr) | ty (n:String)
 deriving DecidableEq
variable {v:V}
def AD:V->Value->Prop
 |.non,u=>u=Value.none
 |.bl b,u=>u=Value.bool b
 |.int i,u=>∃t,u=Value.int i t
 |.str x,u=>∃t,u=Value.str x t
 |.byt b,u=>∃t,u=Value.bytes b t
 |.flt b,u=>∃t,u=Value.float b t
 |.ref a,u=>u=Value.ref a
 |.ty n,u=>u=Value.type n
abbrev AC:List V->List Value->Prop:=Paired AD
theorem AC.length{xs:List V}(r:AC xs us):xs.length=us.length:=Paired.length r
theorem AC.get:∀{xs:List V} {us:List Value} {i:Nat} {x:V},AC xs us->xs[i]?=some x->∃u,us[i]?=some u/\AD x u
 |_,_,_,_,.nil,e=>by simp at e
 |_,_,0,_,.cons r _,e=>by simp at e;subst e;exact⟨_,rfl,r⟩
 |_,_,i+1,x,.cons _ t,e=>by
  obtain⟨u,h1,h2⟩:=AC.get (i:=i) (x:=x) t (by simpa using e);exact⟨u,by simpa using h1,h2⟩
theorem AC.set{x:V}(r:AD x u):∀{xs:List V} {us:List Value} (i:Nat),AC xs us->AC (xs.set i x) (us.set i u)
 |_,_,_,.nil=>.nil
 |_,_,0,.cons _ t=>.cons r t
 |_,_,i+1,.cons q t=>.cons q (AC.set r i t)
theorem AC.append:∀{xs ys:List V} {us ws:List Value},AC xs us->AC ys ws->AC (xs++ys) (us++ws)
 |_,_,_,_,.nil,s=>s
 |_,_,_,_,.cons r t,s=>.cons r (AC.append t s)
theorem AC.take:∀{xs:List V} {us:List Value} (n:Nat),AC xs us->AC (xs.take n) (us.take n)
 |_,_,0,_=>.nil
 |_,_,_+1,.nil=>.nil
 |_,_,n+1,.cons r t=>.cons r (AC.take n t)
theorem AC.drop:∀{xs:List V} {us:List Value} (n:Nat),AC xs us->AC (xs.drop n) (us.drop n)
 |_,_,0,r=>r
 |_,_,_+1,.nil=>.nil
 |_,_,n+1,.cons _ t=>AC.drop n t
def AZ:Option V->Option Value->Prop
 |some v,some u=>AD v u
 |none,none=>True
 |_,_=>False
def KV{κ:Type}:List (κ×V)->List (κ×Value)->Prop:=Paired λ(p:κ×V) (q:κ×Value)=>p.1=q.1/\AD p.2 q.2
def kV:Key->V
 |.inl i=>.int i
 |.inr x=>.str x
inductive HO where
 |lst (xs:List V)
 |tup (xs:List V)
 |dK (kvs:List (Key×V)) | dT (kvs:List (List Key×V))
 |set (S:Int->Bool) (n:Nat)
 |ins (C dx:Addr) (fs:List (Str×V))
 |own (x:Addr)
 |xd (fs:List (Str×V))
 |met (f x:Addr)
 |rng (lo hi:Int)
 |frz (o:Obj) (u:HO)
 |tbl (ps:Array Value)
 |ext (φ:Heap->Prop)
variable {o:HO}
abbrev Hp:=Addr->Option HO
variable {H H':Hp}
noncomputable def upd(H:Hp)(a:Addr)(o:HO):Hp:=λb=>if b=a then some o else H b
theorem A0:upd H a o a=some o:=by unfold upd;rw[FZ rfl]
theorem Ab(h:b≠a):upd H a o b=H b:=by unfold upd;rw[FY h]
theorem si{u:HO}(h:H a=some o)(h':H b=some u)(d:o≠u):a≠b:=by
 intro e;subst e;rw[h] at h';exact d (Zzh h')
theorem A5(h:H a=some o)(h':H b=none):a≠b:=by
 intro e;subst e;rw[h] at h';cases h'
section
variable (P:Program)(w:World)
def AJ(H:Hp)(h:Heap)(a:Addr):HO->Prop
 |.lst xs=>xs.length<=sizeLine/\∃(its:List Value) (n:Nat),AC xs its/\h.get? a=some {cls:=.type "list",data:=.seq its.toArray n}
 |.tup xs=>xs.length<=sizeLine/\∃its:List Value,AC xs its/\IsTup h a its.toArray
 |.dK kvs=>kvs.length<=sizeLine/\(a == sysModules)=false/\∃vs,KV kvs vs/\h.DictOf (Bm P w) a vs
 |.dT kvs=>kvs.length<=sizeLine/\(a == sysModules)=false/\∃xs:List (List Key×Addr×Value),
   Paired (λ(p:List Key×V) (q:List Key×Addr×Value)=>p.1=q.1/\H q.2.1=some (.tup (p.1.map kV))/\AD p.2 q.2.2) kvs xs /\
   ∃o es ep,h.get? a=some o/\o.ExactDict/\o.data=.dict es ep/\es.toList=xs.map (entryOfKey (tupleKind (Bm P w)))/\(xs.map (·.1)).Nodup
 |.set S n=>h.SetOf (intKind P w) a S n
 |.ins C dx fs=>H dx=some (.own a)/\fs.length<=1000/\dx≠a/\h.get? a=some (Zwv C dx) /\
   ∃mA,h.Ns1 dx mA/\(∀f,AZ (fs.lookup f) (mA f))/\PySem.Within mA (fs.map (·.1))
 |.own _=>∃o,h.get? a=some o
 |.xd fs=>∃mA,h.Ns1 a mA/\∀f,AZ (fs.lookup f) (mA f)
 |.rng lo hi=>∃t u v,h.get? a=some {cls:=.type "range",data:=.fields #[.int lo t,.int hi u,.int 1 v]}
 |.frz o u=>h.get? a=some o/\AJ H h a u
 |.tbl ps=>h.get? a=some {cls:=.none,data:=.fields ps}
 |.met f x=>h.get? a=some (PySem.W.methodObj (.ref f) (.ref x))
 |.ext φ=>φ h/\(∃o,h.get? a=some o)/\∀h1 h2:Heap,φ h1->(∀o,h1.get? a=some o->h2.get? a=some o)->φ h2
def HOk(H:Hp)(h:Heap):Prop:=∀a o,H a=some o->AJ P w H h a o
end
theorem AJ.lt(x:AJ P w H h a o):a<h.objs.size:=by
 cases o with
 |lst xs=>obtain⟨_,_,_,_,e⟩:=x;exact Zzg e
 |tup xs=>obtain⟨_,_,_,p⟩:=x;exact p.lt
 |dK kvs=>obtain⟨_,_,_,_,o,_,_,e,_⟩:=x;exact Zzg e
 |dT kvs=>obtain⟨_,_,_,_,o,_,_,e,_⟩:=x;exact Zzg e
 |set S n=>obtain⟨o,_,_,_,e,_⟩:=x;exact Zzg e
 |ins C dx fs=>obtain⟨_,_,_,e,_⟩:=x;exact Zzg e
 |own y=>obtain⟨_,e⟩:=x;exact Zzg e
 |xd fs=>obtain⟨_,⟨_,_,_,e,_⟩,_⟩:=x;exact Zzg e
 |rng lo hi=>obtain⟨_,_,_,e⟩:=x;exact Zzg e
 |frz ob u=>obtain⟨e,_⟩:=x;exact Zzg e
 |tbl ps=>exact Zzg (show h.get? a=some _ from x)
 |met f y=>exact Zzg (show h.get? a=some _ from x)
 |ext φ=>obtain⟨_,⟨_,e⟩,_⟩:=x;exact Zzg e
theorem Paired.mapP{α β:Type}{F G:α->β->Prop}:∀{l₁:List α} {l₂:List β},Paired F l₁ l₂->(∀a b,F a b->G a b)->Paired G l₁ l₂
 |_,_,.nil,_=>.nil
 |_,_,.cons r t,f=>.cons (f _ _ r) (Paired.mapP t f)
theorem AJ.stay(x:AJ P w H h a o)(k:∀b u,(b=a\/H b=some (.own a))->h.get? b=some u->h'.get? b=some u)
  (ho:∀b,H b=some (.own a)->H' b=some (.own a)) (ht:∀b xs,H b=some (.tup xs)->H' b=some (.tup xs)):AJ P w H' h' a o:=by
 induction o with
 |lst xs=>obtain⟨z,its,n,r,e⟩:=x;exact⟨z,its,n,r,k _ _ (.inl rfl) e⟩
 |tup xs=>obtain⟨z,its,r,ob,e,c⟩:=x;exact⟨z,its,r,ob,k _ _ (.inl rfl) e,c⟩
 |dK kvs=>obtain⟨z,y,vs,r,ob,es,ep,e,c⟩:=x;exact⟨z,y,vs,r,ob,es,ep,k _ _ (.inl rfl) e,c⟩
 |dT kvs =>
  obtain⟨z,y,xs,r,ob,es,ep,e,c⟩:=x;exact⟨z,y,xs,Paired.mapP r λp q z=>⟨z.1,ht _ _ z.2.1,z.2.2⟩,ob,es,ep,k _ _ (.inl rfl) e,c⟩
 |set S n=>obtain⟨ob,es,ep,t,e,c⟩:=x;exact⟨ob,es,ep,t,k _ _ (.inl rfl) e,c⟩
 |ins C dx fs =>
  obtain⟨d,z,ne,e,mA,⟨od,es,ep,e2,c⟩,r⟩:=x;exact⟨ho _ d,z,ne,k _ _ (.inl rfl) e,mA,⟨od,es,ep,k _ _ (.inr d) e2,c⟩,r⟩
 |own y=>obtain⟨ob,e⟩:=x;exact⟨ob,k _ _ (.inl rfl) e⟩
 |xd fs=>obtain⟨mA,⟨od,es,ep,e,c⟩,r⟩:=x;exact⟨mA,⟨od,es,ep,k _ _ (.inl rfl) e,c⟩,r⟩
 |rng lo hi=>obtain⟨t,u,v,e⟩:=x;exact⟨t,u,v,k _ _ (.inl rfl) e⟩
 |frz ob u ih=>obtain⟨e,q⟩:=x;exact⟨k _ _ (.inl rfl) e,ih q⟩
 |tbl ps =>
  have e:h.get? a=some {cls:=.none,data:=.fields ps}:=x;show h'.get? a=some {cls:=.none,data:=.fields ps};exact k a _ (.inl rfl) e
 |met f y =>
  have e:h.get? a=some (PySem.W.methodObj (.ref f) (.ref y)):=x;show h'.get? a=some (PySem.W.methodObj (.ref f) (.ref y));exact k a _ (.inl rfl) e
 |ext φ=>obtain⟨p,⟨o,e⟩,st⟩:=x;exact⟨st _ _ p λo q=>k _ _ (.inl rfl) q,⟨o,k _ _ (.inl rfl) e⟩,st⟩
theorem HOk.lt(x:HOk P w H h)(e:H a=some o):a<h.objs.size:=(x a o e).lt
theorem HOk.fresh(x:HOk P w H h)(e:h.objs.size<=a):H a=none:=by
 cases q:H a with
 |none=>rfl
 |some u=>exact absurd (Zz3 (x.lt q) e) (Zwl _)
theorem HOk.kept(x:HOk P w H h)(k:∀b u,h.get? b=some u->h'.get? b=some u):HOk P w H h':=λa o e =>
 (x a o e).stay (λb u _ q=>k b u q) (λ_ q=>q) λ_ _ q=>q
theorem HOk.laid(x:HOk P w H h)(k:∀b u,h.get? b=some u->h'.get? b=some u)(hp:h.objs.size<=a)(new:AJ P w (upd H a o) h' a o):HOk P w (upd H a o) h':=λb u e=>by
 have hn:=x.fresh hp;by_cases hb:b=a
 ·subst hb;rw[A0] at e;cases e;exact new
 ·rw[Ab hb] at e;exact(x b u e).stay (λc v _ q=>k c v q) (λc q=>by rw[Ab (A5 q hn)];exact q) λc xs q=>by rw[Ab (A5 q hn)];exact q
def Rd(H:Hp)(a:Addr)(u:HO):Prop:=H a=some u\/∃o,H a=some (.frz o u)
theorem Rd.ok{u:HO}(r:Rd H a u)(x:HOk P w H h):AJ P w H h a u:=by
 rcases r with r | ⟨o,r⟩
 ·exact x a u r
 ·obtain⟨_,q⟩:=x a _ r;exact q
def Mut:Option HO->Prop
 |some (.lst _)=>True
 |some (.dK _)=>True
 |some (.dT _)=>True
 |some (.set _ _)=>True
 |some (.ins _ _ _)=>True
 |some (.ext _)=>True
 |_=>False
section
variable {x e:Addr}{o':HO}
theorem HOk.write(ok:HOk P w H h)(mu:Mut (H x))(he:e=x\/H e=some (.own x))(k:∀b u,b≠e->h.get? b=some u->h'.get? b=some u)(heo:∃u,h'.get? e=some u)
  (new:AJ P w (upd H x o') h' x o'):HOk P w (upd H x o') h':=λb u q=>by
 have nown:∀c y,H c=some (.own y)->c≠x:=λc y r z=>by subst z;rw[r] at mu;exact mu
 have ntup:∀c xs,H c=some (.tup xs)->c≠x:=λc xs r z=>by subst z;rw[r] at mu;exact mu
 by_cases hb:b=x
 ·subst hb;rw[A0] at q;cases q;exact new
 ·rw[Ab hb] at q;by_cases hbe:b=e
  ·have q':H b=some (.own x):=by
    rcases he with z | z
    ·exact absurd (hbe.trans z) hb
    ·rw[hbe];exact z
   rw[q] at q';cases q';obtain⟨v,hv⟩:=heo;exact⟨v,by rw[hbe];exact hv⟩
  ·refine(ok b u q).stay (λc v hc r=>k c v ?_ r) (λc r=>by rw[Ab (nown c b r)];exact r) λc xs r=>by rw[Ab (ntup c xs r)];exact r
   rcases hc with rfl | hc
   ·exact hbe
   ·rintro rfl;rcases he with z | z
    ·exact nown c b hc z
    ·rw[hc] at z;cases z;exact hb rfl
end
structure Un(fs ex:List Addr)(H H':Hp)(h h':Heap):Prop where
 keep:∀b o,h.get? b=some o->H b=none->b∉fs->b∉ex->h'.get? b=some o
 slot:∀b o,h.get? b=some o->H b=none->b∈fs->b∉ex->∃sl,h'.get? b=some {o with slots:=sl}
 free:∀b o,h.get? b=some o->H b=none->b∉ex->H' b=none
 there:∀b o,h.get? b=some o->b∉ex->∃o',h'.get? b=some o'
 tups:∀b xs,H b=some (.tup xs)->H' b=some (.tup xs)
 frzs:∀b o u,H b=some (.frz o u)->H' b=some (.frz o u)
 tbls:∀b ps,H b=some (.tbl ps)->∃more,H' b=some (.tbl (ps++more))
section
variable {fs fs' ex ex':List Addr}{H1 H2:Hp}{h1 h2:Heap}{x e:Addr}
theorem Un.any(u:Un fs ex H H1 h h1){ob:Obj}(q:h.get? b=some ob)(n:H b=none)(hx:b∉ex):∃sl,h1.get? b=some {ob with slots:=sl}:=by
 by_cases hb:b∈fs
 ·exact u.slot b ob q n hb hx
 ·exact⟨ob.slots,u.keep b ob q n hb hx⟩
theorem Un.kept(k:∀b u,h.get? b=some u->h'.get? b=some u):Un fs ex H H h h' :=
 ⟨λb ob q _ _ _=>k b ob q,λb ob q _ _ _=>⟨ob.slots,k b ob q⟩,λ_ _ _ n _=>n,λb ob q _=>⟨ob,k b ob q⟩,λ_ _ q=>q,λ_ _ _ q=>q,λ_ ps q=>⟨#[],by rw[q];simp⟩⟩
theorem Un.refl:Un fs ex H H h h:=Un.kept λ_ _ q=>q
theorem Un.laid(k:∀b u,h.get? b=some u->h'.get? b=some u)(hp:h.objs.size<=a)(hn:H a=none):Un fs ex H (upd H a o) h h' where
 keep:=λb u q _ _ _=>k b u q
 slot:=λb u q _ _ _=>⟨u.slots,k b u q⟩
 free:=λb u q n _=>by rw[Ab (Zz2 (Zz3 (Zzg q) hp))];exact n
 there:=λb u q _=>⟨u,k b u q⟩
 tups:=λb xs q=>by rw[Ab (A5 q hn)];exact q
 frzs:=λb u xs q=>by rw[Ab (A5 q hn)];exact q
 tbls:=λb ps q=>⟨#[],by rw[Ab (A5 q hn),q];simp⟩
theorem Un.write(mu:Mut (H x))(he:e=x\/H e=some (.own x))(k:∀b u,b≠e->h.get? b=some u->h'.get? b=some u)(heo:∃u,h'.get? e=some u):Un fs ex H (upd H x o) h h':=by
 have hx:∀b,H b=none->b≠x:=λb n z=>by subst z;rw[n] at mu;exact mu
 have hb:∀b,H b=none->b≠e:=λb n z=>by
  subst z;rcases he with r | r
  ·exact hx b n r
  ·rw[n] at r;cases r
 have hm:∀b u,H b=some u->¬ Mut (some u)->b≠x:=λb u q nm z=>by subst z;rw[q] at mu;exact nm mu
 refine⟨λb u q n _ _=>k b u (hb b n) q,λb u q n _ _=>⟨u.slots,k b u (hb b n) q⟩,λb u q n _=>by rw[Ab (hx b n)];exact n,λb u q _=>?_,
  λb xs q=>by rw[Ab (hm b _ q λz=>z)];exact q,λb u xs q=>by rw[Ab (hm b _ q λz=>z)];exact q,λb ps q=>⟨#[],by rw[Ab (hm b _ q λz=>z),q];simp⟩⟩
 by_cases hbe:b=e
 ·subst hbe;exact heo
 ·exact⟨u,k b u hbe q⟩
end
noncomputable def trk(h:Heap)(H:Hp):List Addr:=(Zyi h.objs.size).filter λa=>(H a).isSome
def U6(h:Heap)(H:Hp):Heap:=PySem.W.hideAll h (trk h H)
theorem l8(h:Heap)(H:Hp):(U6 h H).objs.size=h.objs.size:=PySem.W.hideAll_size _ _
theorem uy{o:Obj}(e:h.get? b=some o)(n:H b=none):(U6 h H).get? b=some o :=
 PySem.W.hideAll_get _ e λhm=>by
  have q:(H b).isSome=true:=(Zyf.mp hm).2;rw[n] at q;simp at q
theorem yh{o:Obj}(e:(U6 h H).get? b=some o):h.get? b=some o/\H b=none:=by
 have e':h.get? b=some o:=PySem.W.of_hideAll (trk h H) e;refine⟨e',?_⟩;cases q:H b with
 |none=>rfl
 |some x =>
  have hm:b∈trk h H:=Zyf.mpr ⟨Zx1.mpr (Zzg e'),by simp[q]⟩;have z:(U6 h H).get? b=none:=PySem.W.hideAll_none (trk h H) hm;rw[z] at e;cases e
noncomputable def Em(g h:Heap)(L:Addr):List (Addr×Obj):=(Zyi h.objs.size).filterMap λa=>if a=L\/(g.get? a).isSome=true then none else (h.get? a).map λo=>(a,o)
theorem Gp{g:Heap}{L:Addr}{o:Obj}(h1:a≠L)(h2:g.get? a=none)(h3:h.get? a=some o):(a,o)∈Em g h L :=
 Zw2.mpr ⟨a,Zx1.mpr (Zzg h3),by simp[h1,h2,h3]⟩
theorem Si{g:Heap}{L:Addr}{p:Addr×Obj}(hp:p∈Em g h L):p.1≠L/\g.get? p.1=none/\h.get? p.1=some p.2:=by
 obtain⟨b,_,e⟩:=Zw2.mp hp;split at e
 ·cases e
 ·rename_i hn;cases q:h.get? b with
  |none=>rw[q] at e;simp at e
  |some u =>
   rw[q] at e;simp only[Zw1,Zvv] at e;subst e;refine⟨λz=>hn (.inl z),?_,q⟩;show g.get? b=none;cases r:g.get? b with
   |none=>rfl
   |some v=>exact(hn (.inr (by simp[r]))).elim
noncomputable def AU(g h:Heap)(L d:Addr):List (Addr×Obj):=(Em g h L).filter λp=>decide (p.1≠d)
theorem Sn{g:Heap}{L:Addr}:News g L h (Em g h L):=λp hp=>by obtain⟨a,b,c⟩:=Si hp;exact⟨c,a,b⟩
structure Mod(K:Zzw)(mg:Str->Option Value)(base:Heap):Prop where
 kin:K.In base
 glob:base.Ns mainGlobals mg
 blt:∃mb,base.Ns builtinsNs mb/\∀x:Str,x ≠ "__name__" -> mb x=bootBuiltins x
 nolimit:base.NoLimit
structure Cx where
 prog:Program
 w:World
 K:Zzw
 mg:Str->Option Value
 base:Heap
 A:Around
 N:List Str
 s₀:Shared
 H₀:Hp
 env:Env
 outer:List Env
 stack:List Env
 ex:List Addr
 fn:Str->Bool
 calm:Bool
 pn:List (Addr×Obj)
 xe:Value->Shared->Prop
variable {X:Cx}
noncomputable def frs(l:List Env):List Addr:=l.filterMap (·.frame)
abbrev Cx.fs(X:Cx):List Addr:=frs X.outer
def Vis(sc:Scope)(x:Str):Prop:=sc.names.lookup x=some .local\/sc.names.lookup x=some .cell\/sc.names.lookup x=some .free
def Loc(sc:Scope)(x:Str):Prop:=sc.names.lookup x=some .local\/sc.names.lookup x=some .cell
def Look(env:Env)(h:Heap)(m:Str->Option Value)(x:Str)(u:Value):Prop :=
 (env.kindOf x=some .local/\m x=some u)\/((env.kindOf x=some .cell\/env.kindOf x=some .free)/\∃c,env.cells.lookup x=some c/\h.IsCell c (some u))
structure Cx.Ok(X:Cx):Prop where
 mod:Mod X.K X.mg X.base
 kind:X.env.scope.kind=.function
 glob:X.env.globals=mainGlobals
 blt:X.env.builtins=builtinsNs
 above:X.s₀.heap.objs.size<=X.env.locals
 inj:∀x y c,X.env.cells.lookup x=some c->X.env.cells.lookup y=some c->x=y
 has:∀x,(X.env.kindOf x=some .cell\/X.env.kindOf x=some .free)->∃c,X.env.cells.lookup x=some c
 cab:∀x c,X.fn x=true->X.env.cells.lookup x=some c->X.s₀.heap.objs.size<=c
 hd:X.calm=true->X.A.handled=none
 frames:X.A.frames=some X.stack
 stk:X.stack=X.outer\/(X.stack=X.env::X.outer/\X.env.frame=some X.env.locals)
 exf:∀b∈X.ex,b≠X.env.locals/\∀x c,X.env.cells.lookup x=some c->c≠b
 bs:∀b o,X.base.get? b=some o->X.s₀.heap.get? b=some o/\X.H₀ b=none
 bsz:X.base.objs.size<=X.s₀.heap.objs.size
 noex:∀b o,X.base.get? b=some o->b∉X.ex
 exfs:∀b∈X.ex,b∉X.fs
 funs:X.s₀.heap.FunFrames X.base X.outer
 frf:∀b∈X.fs,X.H₀ b=none
structure Inv(X:Cx)(pins:List (Addr×Obj))(Z:List (Option V))(H:Hp)(s:Shared):Prop where
 ok:X.Ok
 os:s.os=X.s₀.os
 bare:AllBare s.gens
 base:Un X.fs X.ex X.H₀ H X.s₀.heap s.heap
 loc:∃m,s.heap.Ns X.env.locals m/\∀(i:Nat) (x:Str) (v:V),X.N[i]?=some x->Z[i]?=some (some v)->Vis X.env.scope x->∃u,AD v u/\Look X.env s.heap m x u
 cell:∀x c,X.env.cells.lookup x=some c->∃v,s.heap.IsCell c v
 free:H X.env.locals=none
 freeC:∀x c,X.env.cells.lookup x=some c->H c=none
 pin:∀p∈X.pn++pins,s.heap.get? p.1=some p.2/\H p.1=none/\p.1≠X.env.locals/\p.1∉X.fs/\∀v,p.2.data≠.cell v
 hok:HOk X.prog X.w H s.heap
 len:Z.length=X.N.length
section
variable {Z:List (Option V)}
theorem Cx.Ok.nofr(ok:X.Ok){o:Obj}(e:X.base.get? b=some o):b∉X.fs:=λhb=>by
 have:=(ok.funs.mem hb).1;rw[e] at this;cases this
theorem Inv.bs(I:Inv X pins Z H s):∀b o,X.base.get? b=some o->s.heap.get? b=some o/\H b=none:=λb o e =>
 ⟨I.base.keep b o (I.ok.bs b o e).1 (I.ok.bs b o e).2 (I.ok.nofr e) (I.ok.noex b o e),I.base.free b o (I.ok.bs b o e).1 (I.ok.bs b o e).2 (I.ok.noex b o e)⟩
theorem Inv.bk(I:Inv X pins Z H s):∀b o,X.base.get? b=some o->s.heap.get? b=some o:=λb o e=>(I.bs b o e).1
theorem Inv.mod(I:Inv X pins Z H s):Mod X.K X.mg X.base:=I.ok.mod
theorem Inv.kIn(I:Inv X pins Z H s):X.K.In s.heap:=I.ok.mod.kin.keeps I.bk
theorem Inv.fr(I:Inv X pins Z H s):∃m,Fr X.base X.env.locals s.heap m :=
 let ⟨m,hn,_⟩:=I.loc
 ⟨m,hn,I.bk,Zzd I.ok.bsz I.ok.above⟩
theorem Inv.lt(I:Inv X pins Z H s):X.env.locals<s.heap.objs.size:=by obtain⟨_,hn,_⟩:=I.loc;exact hn.lt
theorem Inv.sz(I:Inv X pins Z H s):X.s₀.heap.objs.size<=s.heap.objs.size:=Zzd I.ok.above (Nat.le_of_lt I.lt)
theorem Inv.nofs(I:Inv X pins Z H s)(h:s.heap.objs.size<=a):a∉X.fs:=λhb=>by
 obtain⟨_,o,ho,_⟩:=I.ok.funs.mem hb;exact absurd (Zz3 (Zzg ho) (Zzd I.sz h)) (Zwl _)
theorem Inv.cne(I:Inv X pins Z H s):∀x c,X.env.cells.lookup x=some c->c≠X.env.locals:=λx c e z=>by
 obtain⟨v,o,ho,hd⟩:=I.cell x c e;obtain⟨m,⟨o',es,ep,ho',hd',_⟩,_⟩:=I.loc;rw[z,ho'] at ho;cases ho;rw[hd'] at hd;cases hd
theorem Inv.funs(I:Inv X pins Z H s):s.heap.FunFrames X.base X.outer:=by
 have all:∀(l:List Env),(∀b∈frs l,b∈X.fs)->X.s₀.heap.FunFrames X.base l->s.heap.FunFrames X.base l:=by
  intro l;induction l with
  |nil=>intro _ _;trivial
  |cons env r ih =>
   intro hs hl;obtain⟨hk,⟨L,o,hf,hn,ho,hd⟩,hr⟩:=hl;have hL:L∈X.fs:=hs L (by unfold frs;rw[Zvm,hf];exact Zzm);obtain⟨sl,e⟩:=I.base.slot L o ho (I.ok.frf L hL) hL λz=>I.ok.exfs L z hL;exact⟨hk,⟨L,_,hf,hn,e,hd⟩,ih (λb hb=>hs b (by unfold frs;rw[Zvm,hf];exact Zzl _ hb)) hr⟩
 exact all X.outer (λ_ hb=>hb) I.ok.funs
theorem Inv.stack(I:Inv X pins Z H s):s.heap.FunFrames X.base X.stack:=by
 rcases I.ok.stk with e | ⟨e,hf⟩
 ·rw[e];exact I.funs
 ·rw[e];obtain⟨m,hn,_⟩:=I.loc;refine .cons (by rw[I.ok.kind];decide) hf hn ?_ I.funs;exact Heap.get?_none_of_le (Zzd I.ok.bsz I.ok.above)
theorem Inv.stkSub(I:Inv X pins Z H s):∀b∈frs X.stack,b∈X.env.locals::X.fs:=λb hb=>by
 rcases I.ok.stk with e | ⟨e,hf⟩
 ·rw[e] at hb;exact Zzl _ hb
 ·rw[e] at hb;unfold frs at hb;rw[Zvm,hf] at hb;exact hb
theorem Inv.stkFree(I:Inv X pins Z H s):∀b∈frs X.stack,H b=none:=λb hb=>by
 rcases Zzs.mp (I.stkSub b hb) with e | hb
 ·rw[e];exact I.free
 ·obtain⟨_,o,ho,_⟩:=I.ok.funs.mem hb;exact I.base.free b o ho (I.ok.frf b hb) λz=>I.ok.exfs b z hb
theorem Inv.step{d':Drawn}(I:Inv X pins Z H s)
  (hch:∀b∈ch,(b∈X.ex\/X.s₀.heap.objs.size<=b)/\b≠X.env.locals/\(∀x c,X.env.cells.lookup x=some c->c≠b)/\∀p∈X.pn++pins,p.1≠b)
  (keep:∀b o,b≠X.env.locals->b∉X.fs->b∉ch->s.heap.get? b=some o->H b=none->h'.get? b=some o)
  (slot:∀b o,b≠X.env.locals->b∈X.fs->b∉ch->s.heap.get? b=some o->H b=none->∃sl,h'.get? b=some {o with slots:=sl}) (free:∀b o,b∉ch->s.heap.get? b=some o->H b=none->H' b=none)
  (there:∀b o,b∉ch->s.heap.get? b=some o->∃o',h'.get? b=some o')
  (tups:∀b xs,H b=some (.tup xs)->H' b=some (.tup xs)) (frzs:∀b o u,H b=some (.frz o u)->H' b=some (.frz o u)) (tbls:∀b ps,H b=some (.tbl ps)->∃more,H' b=some (.tbl (ps++more)))
  (ns:∀m,s.heap.Ns X.env.locals m->h'.Ns X.env.locals m) (hok:HOk X.prog X.w H' h') (hg:AllBare g') :
  Inv X pins Z H' {s with heap:=h',gens:=g',drawn:=d',toks:=t'}:=by
 have neL:∀b o,X.s₀.heap.get? b=some o->b≠X.env.locals:=λb o e=>Zz2 (Zz3 (Zzg e) I.ok.above);have neC:∀b o,X.s₀.heap.get? b=some o->b∉X.ex->b∉ch:=λb o e hx hb=>by
  rcases(hch b hb).1 with z | z
  ·exact hx z
  ·exact absurd (Zz3 (Zzg e) z) (Zwl _)
 have cellK:∀x c,X.env.cells.lookup x=some c->∀v,s.heap.IsCell c v->h'.IsCell c v:=λx c e v z0=>by
  obtain⟨o,ho,hd⟩:=z0;have nch:c∉ch:=λz=>(hch c z).2.2.1 x c e rfl;by_cases hc:c∈X.fs
  ·obtain⟨sl,q⟩:=slot c o (I.cne x c e) hc nch ho (I.freeC x c e);exact⟨_,q,hd⟩
  ·exact⟨o,keep c o (I.cne x c e) hc nch ho (I.freeC x c e),hd⟩
 refine⟨I.ok,I.os,hg,⟨λb o e n hb hx=>?_,λb o e n hb hx=>?_,λb o e n hx=>?_,λb o e hx=>?_,λb xs e=>tups b xs (I.base.tups b xs e),λb o xs e=>frzs b o xs (I.base.frzs b o xs e),λb ps e=>?_⟩,?_,λx c e=>?_,?_,λx c e=>?_,λp hp=>?_,hok,I.len⟩
 ·exact keep b o (neL b o e) hb (neC b o e hx) (I.base.keep b o e n hb hx) (I.base.free b o e n hx)
 ·obtain⟨sl,e1⟩:=I.base.slot b o e n hb hx;obtain⟨sl',e2⟩:=slot b _ (neL b o e) hb (neC b o e hx) e1 (I.base.free b o e n hx);exact⟨sl',e2⟩
 ·obtain⟨o',e1⟩:=I.base.there b o e hx;exact free b o' (neC b o e hx) e1 (I.base.free b o e n hx)
 ·obtain⟨o',e1⟩:=I.base.there b o e hx;exact there b o' (neC b o e hx) e1
 ·obtain⟨m1,e1⟩:=I.base.tbls b ps e;obtain⟨m2,e2⟩:=tbls b _ e1;exact⟨m1++m2,by rw[e2,Array.append_assoc]⟩
 ·obtain⟨m,hn,hl⟩:=I.loc;refine⟨m,ns m hn,λi x v e1 e2 e3=>?_⟩;obtain⟨u,r,l⟩:=hl i x v e1 e2 e3;refine⟨u,r,?_⟩;rcases l with l | ⟨k,c,e,z⟩
  ·exact .inl l
  ·exact .inr ⟨k,c,e,cellK x c e _ z⟩
 ·obtain⟨v,z⟩:=I.cell x c e;exact⟨v,cellK x c e v z⟩
 ·obtain⟨m,⟨o,_,_,ho,_⟩,_⟩:=I.loc;exact free _ o (λz=>(hch _ z).2.1 rfl) ho I.free
 ·obtain⟨v,o,ho,hd⟩:=I.cell x c e;exact free c o (λz=>(hch c z).2.2.1 x c e rfl) ho (I.freeC x c e)
 ·obtain⟨e,n,ne,nf,d⟩:=I.pin p hp;have nch:p.1∉ch:=λz=>(hch p.1 z).2.2.2 p hp rfl;exact⟨keep p.1 p.2 ne nf nch e n,free p.1 p.2 nch e n,ne,nf,d⟩
theorem Inv.un(I:Inv X pins Z H s)(u:Un X.fs [] H H' s.heap h')(hok:HOk X.prog X.w H' h'):Inv X pins Z H' {s with heap:=h',toks:=t'}:=by
 obtain⟨m,⟨o,es,ep,ho,r⟩,_⟩:=id I.loc;obtain⟨sl,hL⟩:=u.any ho I.free (by simp);exact I.step (g':=s.gens) (d':=s.drawn) (ch:=[]) (λ_ z=>nomatch z) (λb o _ hb _ e n=>u.keep b o e n hb (by simp)) (λb o _ hb _ e n=>u.slot b o e n hb (by simp)) (λb o _ e n=>u.free b o e n (by simp)) (λb o _ e=>u.there b o e (by simp)) u.tups u.frzs u.tbls (λm' hm=>by
  obtain⟨o',es',ep',ho',r'⟩:=hm
  rw[ho] at ho';cases ho'
  exact⟨_,es',ep',hL,r'⟩) hok I.bare
theorem Inv.call{d':Drawn}(I:Inv X pins Z H s)(u:Un (frs X.stack) ch H H' s.heap h')(hok:HOk X.prog X.w H' h')(hg:AllBare g')
  (hch:∀b∈ch,(b∈X.ex\/X.s₀.heap.objs.size<=b)/\b≠X.env.locals/\(∀x c,X.env.cells.lookup x=some c->c≠b)/\∀p∈X.pn++pins,p.1≠b) :
  Inv X pins Z H' {s with heap:=h',gens:=g',drawn:=d',toks:=t'}:=by
 obtain⟨m,⟨o,es,ep,ho,r⟩,_⟩:=id I.loc;obtain⟨sl,hL⟩:=u.any ho I.free λz=>(hch _ z).2.1 rfl;exact I.step (ch:=ch) hch (λb o hL hb hc e n=>u.keep b o e n (λz=>(Zzs.mp (I.stkSub b z)).elim hL hb) hc) (λb o _ _ hc e n=>u.any e n hc) (λb o hc e n=>u.free b o e n hc) (λb o hc e=>u.there b o e hc) u.tups u.frzs u.tbls (λm' hm=>by
  obtain⟨o',es',ep',ho',r'⟩:=hm
  rw[ho] at ho';cases ho'
  exact⟨_,es',ep',hL,r'⟩) hok hg
theorem Inv.turned{it:Addr}(I:Inv X pins Z H s)(k:∀b o,b≠it->s.heap.get? b=some o->h'.get? b=some o)(hn:H it=none)(hL:it≠X.env.locals)
  (h1:it∈X.ex\/X.s₀.heap.objs.size<=it) (h2:∀x c,X.env.cells.lookup x=some c->c≠it) (h3:∀p∈X.pn++pins,p.1≠it):Inv X pins Z H {s with heap:=h',toks:=t'}:=by
 have nit:∀b u,H b=some u->b≠it:=λb u e z=>by rw[z,hn] at e;cases e
 refine I.step (g':=s.gens) (d':=s.drawn) (ch:=[it]) (λb hb=>?_) (λb o _ _ hc e _=>k b o (λz=>hc (by simp[z])) e) (λb o _ _ hc e _=>⟨o.slots,k b o (λz=>hc (by simp[z])) e⟩) (λ_ _ _ _ n=>n)
  (λb o hc e=>⟨o,k b o (λz=>hc (by simp[z])) e⟩) (λ_ _ e=>e) (λ_ _ _ e=>e) (λb ps e=>⟨#[],by rw[e];simp⟩) (λm hm=>?_) (λb u e=>?_) I.bare
 ·have e:b=it:=by simpa using hb
  subst e;exact⟨h1,hL,h2,h3⟩
 ·obtain⟨o,es,ep,ho,r⟩:=hm;exact⟨o,es,ep,k _ o (Zzi hL) ho,r⟩
 ·refine(I.hok b u e).stay (λc v hc q=>k c v ?_ q) (λ_ q=>q) λ_ _ q=>q;rcases hc with z | z
  ·rw[z];exact nit b u e
  ·exact nit c _ z
theorem Inv.tok(I:Inv X pins Z H s)(t:Nat):Inv X pins Z H {s with toks:=t}:=I.un (h':=s.heap) (t':=t) Un.refl I.hok
theorem Inv.kept(I:Inv X pins Z H s)(k:∀b u,s.heap.get? b=some u->h'.get? b=some u):Inv X pins Z H {s with heap:=h',toks:=t'}:=I.un (Un.kept k) (I.hok.kept k)
theorem Inv.laid(I:Inv X pins Z H s)(k:∀b u,s.heap.get? b=some u->h'.get? b=some u)(hp:s.heap.objs.size<=a)(new:AJ X.prog X.w (upd H a o) h' a o) :
  Inv X pins Z (upd H a o) {s with heap:=h',toks:=t'}:=I.un (Un.laid k hp (I.hok.fresh hp)) (I.hok.laid k hp new)
theorem Inv.write{x e:Addr}(I:Inv X pins Z H s)(mu:Mut (H x))(he:e=x\/H e=some (.own x))(k:∀b u,b≠e->s.heap.get? b=some u->h'.get? b=some u)(heo:∃u,h'.get? e=some u)
  (new:AJ X.prog X.w (upd H x o) h' x o):Inv X pins Z (upd H x o) {s with heap:=h',toks:=t'}:=I.un (Un.write mu he k heo) (I.hok.write mu he k heo new)
theorem Inv.weak{Z':List (Option V)}(I:Inv X pins Z H s)(hl:Z'.length=Z.length)(w:∀(i:Nat) v,Z'[i]?=some (some v)->Z[i]?=some (some v)):Inv X pins Z' H s :=
 ⟨I.ok,I.os,I.bare,I.base,by obtain⟨m,hn,hl'⟩:=I.loc;exact⟨m,hn,λi x v e1 e2 e3=>hl' i x v e1 (w i v e2) e3⟩,I.cell,I.free,I.freeC,I.pin,I.hok,hl.trans I.len⟩
theorem Inv.pins_of{pins':List (Addr×Obj)}(I:Inv X pins Z H s)(h:∀p∈pins',s.heap.get? p.1=some p.2/\H p.1=none/\p.1≠X.env.locals/\p.1∉X.fs/\∀v,p.2.data≠.cell v):Inv X pins' Z H s :=
 ⟨I.ok,I.os,I.bare,I.base,I.loc,I.cell,I.free,I.freeC,λp hp=>(Zz4.mp hp).elim (λz=>I.pin p (Zx9 _ z)) (h p),I.hok,I.len⟩
theorem Zi(hN:N.Nodup)(a:N[i]?=some x)(b:N[j]?=some x):i=j:=by
 obtain⟨h1,e1⟩:=Zze.mp a;obtain⟨h2,e2⟩:=Zze.mp b;exact(List.getElem_inj hN).mp (e1.trans e2.symm)
theorem Ul{Q:Unit->Shared->Prop}(I:Inv X pins Z H s)(hN:X.N.Nodup)(hi:X.N[i]?=some x)(hx:Loc X.env.scope x)(r:AD v u)
  (h:∀s',Inv X pins (Z.set i (some v)) H s'->(∃a,Zy7 a s.heap s'.heap/\(a=X.env.locals\/X.env.cells.lookup x=some a))->Q () s') (hf:X.fn x=true\/X.env.scope.names.lookup x=some .local:=by first | exact .inl rfl | exact .inr rfl | assumption):wpAny M A (storeName X.env x u) Q E s:=by
 obtain⟨m,hn,hl⟩:=id I.loc;have hcls:(X.env.scope.kind == .class||(X.env.scope.kind == .module&&X.env.locals != X.env.globals))=false:=by rw[I.ok.kind];rfl
 have hiσ:i<Z.length:=by rw[I.len];exact(Zze.mp hi).1
 have cne:=I.cne;have tracked:∀{a:Addr} {h':Heap},(∃o,s.heap.get? a=some o/\H a=none)->Zy7 a s.heap h'->HOk X.prog X.w H h':=λ{a h'} ha hs b ob e=>by
  obtain⟨_,_,hfree⟩:=ha;refine(I.hok b ob e).stay (λc w' hc q=>(hs.2 c ?_).trans q) (λ_ q=>q) λ_ _ q=>q;rintro rfl;rcases hc with rfl | hc
  ·rw[hfree] at e;cases e
  ·rw[hfree] at hc;cases hc
 rcases hx with hk | hk
 ·refine wpAny_storeName_local hk hn (λh' hn' hs=>?_) hcls;obtain⟨oL,_,_,hoL,_⟩:=id hn;refine h _ ⟨I.ok,I.os,I.bare,⟨λb o e n hb hx=>?_,λb o e n hb hx=>?_,I.base.free,λb o e hx=>?_,I.base.tups,I.base.frzs,I.base.tbls⟩,⟨_,hn',λj y v' e1 e2 e3=>?_⟩,λy c e=>?_,I.free,I.freeC,λp hp=>?_,tracked ⟨oL,hoL,I.free⟩ hs,by simpa using I.len⟩ ⟨_,hs,.inl rfl⟩
  ·exact(hs.2 b (Zz2 (Zz3 (Zzg e) I.ok.above))).trans (I.base.keep b o e n hb hx)
  ·obtain⟨sl,e1⟩:=I.base.slot b o e n hb hx;exact⟨sl,(hs.2 b (Zz2 (Zz3 (Zzg e) I.ok.above))).trans e1⟩
  ·obtain⟨o',e1⟩:=I.base.there b o e hx;exact⟨o',(hs.2 b (Zz2 (Zz3 (Zzg e) I.ok.above))).trans e1⟩
  ·by_cases hj:j=i
   ·subst hj;rw[hi] at e1;cases e1;rw[Zvy hiσ] at e2;cases e2;exact⟨u,r,.inl ⟨hk,by simp⟩⟩
   ·rw[Zy3 (Zzi hj)] at e2;obtain⟨u',r',q⟩:=hl j y v' e1 e2 e3;refine⟨u',r',?_⟩;rcases q with ⟨k,e⟩ | ⟨k,c,e,z⟩
    ·refine .inl ⟨k,?_⟩;have:y≠x:=λe=>hj (Zi hN e1 (e▸hi));simp[this,e]
    ·exact .inr ⟨k,c,e,z.sameBut hs (cne y c e)⟩
  ·obtain⟨w',z⟩:=I.cell y c e;exact⟨w',z.sameBut hs (cne y c e)⟩
  ·obtain⟨e,n,ne,nf,d⟩:=I.pin p hp;exact⟨(hs.2 p.1 ne).trans e,n,ne,nf,d⟩
 ·have hfn:X.fn x=true:=by
   rcases hf with z | z
   ·exact z
   ·rw[z] at hk;cases hk
  obtain⟨c,hc⟩:=I.ok.has x (.inl hk);obtain⟨w',z⟩:=I.cell x c hc;refine wpAny_storeName_cell I.ok.kind hk hc z (λh' hc' hs=>?_);obtain⟨oc,hoc,hocd⟩:=id z;refine h {s with heap:=h'} ⟨I.ok,I.os,I.bare,⟨λb o e n hb hx=>?_,λb o e n hb hx=>?_,I.base.free,λb o e hx=>?_,I.base.tups,I.base.frzs,I.base.tbls⟩,⟨m,hn.sameBut hs (Zzi (cne x c hc)),λj y v' e1 e2 e3=>?_⟩,λy c' e=>?_,I.free,I.freeC,λp hp=>?_,tracked ⟨oc,hoc,I.freeC x c hc⟩ hs,by simpa using I.len⟩ ⟨c,hs,.inr hc⟩
  ·exact(hs.2 b (Zz2 (Zz3 (Zzg e) (I.ok.cab x c hfn hc)))).trans (I.base.keep b o e n hb hx)
  ·obtain⟨sl,e1⟩:=I.base.slot b o e n hb hx;exact⟨sl,(hs.2 b (Zz2 (Zz3 (Zzg e) (I.ok.cab x c hfn hc)))).trans e1⟩
  ·obtain⟨o',e1⟩:=I.base.there b o e hx;exact⟨o',(hs.2 b (Zz2 (Zz3 (Zzg e) (I.ok.cab x c hfn hc)))).trans e1⟩
  ·by_cases hj:j=i
   ·subst hj;rw[hi] at e1;cases e1;rw[Zvy hiσ] at e2;cases e2;exact⟨u,r,.inr ⟨.inl hk,c,hc,hc'⟩⟩
   ·rw[Zy3 (Zzi hj)] at e2;obtain⟨u',r',q⟩:=hl j y v' e1 e2 e3;refine⟨u',r',?_⟩;rcases q with q | ⟨k,c',e,z'⟩
    ·exact .inl q
    ·refine .inr ⟨k,c',e,z'.sameBut hs ?_⟩;rintro rfl;exact hj (Zi hN e1 (I.ok.inj _ _ _ e hc▸hi))
  ·by_cases hcc:c'=c
   ·subst hcc;exact⟨_,hc'⟩
   ·obtain⟨w2,z2⟩:=I.cell y c' e;exact⟨w2,z2.sameBut hs hcc⟩
  ·obtain⟨e,n,ne,nf,d⟩:=I.pin p hp;refine⟨(hs.2 p.1 ?_).trans e,n,ne,nf,d⟩;intro q;rw[q,hoc] at e;have q':oc=p.2:=Zzh e;exact d w' (by rw[<- q'];exact hocd)
theorem Rg{Q:Unit->Shared->Prop}(I:Inv X pins Z H s)(hN:X.N.Nodup)(hi:X.N[i]?=some x)(hx:Loc X.env.scope x)(r:AD v u)
  (h:∀s',Inv X pins (Z.set i (some v)) H s'->Q () s') (hf:X.fn x=true\/X.env.scope.names.lookup x=some .local:=by first | exact .inl rfl | exact .inr rfl | assumption):wpAny M A (storeName X.env x u) Q E s :=
 Ul I hN hi hx r (λs' I' _=>h s' I') hf
theorem Inv.call'(I:Inv X pins Z H s)(ho:s'.os=s.os)(u:Un (frs X.stack) ch H H' s.heap s'.heap)(hok:HOk X.prog X.w H' s'.heap)(hg:AllBare s'.gens)
  (hch:∀b∈ch,(b∈X.ex\/X.s₀.heap.objs.size<=b)/\b≠X.env.locals/\(∀x c,X.env.cells.lookup x=some c->c≠b)/\∀p∈X.pn++pins,p.1≠b):Inv X pins Z H' s':=by
 obtain⟨h',g',d',t',o'⟩:=s';have e:o'=s.os:=ho;subst e;exact I.call (g':=g') (t':=t') (d':=d') u hok hg hch
end
abbrev XK:=Value->Option Addr->Hp->Prop
abbrev St:=List (Option V)
variable {Z:St}
abbrev VK:=V->Hp->Prop
abbrev TE:=St->Hp->VK->Prop
variable {ta te:TE}
abbrev TT:=St->Hp->(Bool->Hp->Prop)->Prop
abbrev TA:=St->Hp->(List V->Hp->Prop)->Prop
variable {t:TA}
structure P4 where
 nx:St->Hp->Prop
 rt:VK
 bk:St->Hp->Prop:=λ_ _=>False
 ct:St->Hp->Prop:=λ_ _=>False
abbrev TS:=P4->St->Hp->Prop
def EP(X:Cx)(pins:List (Addr×Obj))(Z:St)(Q:VK)(u:Value)(s':Shared):Prop:=∃v H',Inv X pins Z H' s'/\AD v u/\Q v H'
def TP(X:Cx)(pins:List (Addr×Obj))(Z:St)(Q:Bool->Hp->Prop)(b:Bool)(s':Shared):Prop:=∃H',Inv X pins Z H' s'/\Q b H'
def AP(X:Cx)(pins:List (Addr×Obj))(Z:St)(Q:List V->Hp->Prop)(us:List Value)(s':Shared):Prop:=∃vs H',Inv X pins Z H' s'/\AC vs us/\Q vs H'
def SP(X:Cx)(pins:List (Addr×Obj))(D:P4)(f:Flow)(s':Shared):Prop :=
 match f with
 |.next=>∃Z' H',Inv X pins Z' H' s'/\D.nx Z' H'
 |.brk=>∃Z' H',Inv X pins Z' H' s'/\D.bk Z' H'
 |.cont=>∃Z' H',Inv X pins Z' H' s'/\D.ct Z' H'
 |.ret u=>∃v Z' H',Inv X pins Z' H' s'/\AD v u/\D.rt v H'
def PE(X:Cx)(e:Expr)(t:TE):Prop :=
 ∀(pins:List (Addr×Obj)) (s:Shared) (Z:St) (H:Hp) (Q:VK),Inv X pins Z H s->t Z H Q->wpAny (model X.prog X.w) X.A (eval e X.env) (EP X pins Z Q) X.xe s
def PT(X:Cx)(e:Expr)(t:TT):Prop :=
 ∀(pins:List (Addr×Obj)) (s:Shared) (Z:St) (H:Hp) (Q:Bool->Hp->Prop),Inv X pins Z H s->t Z H Q->wpAny (model X.prog X.w) X.A (isTrue e X.env (eval e X.env)) (TP X pins Z Q) X.xe s
def PW(X:Cx)(e:Expr)(t:TT):Prop :=
 ∀(whole:Sem Value) (pins:List (Addr×Obj)) (s:Shared) (Z:St) (H:Hp) (Q:Bool->Hp->Prop),Inv X pins Z H s->t Z H Q->wpAny (model X.prog X.w) X.A (isTrue e X.env whole) (TP X pins Z Q) X.xe s
theorem PW.pt{t:TT}(h:PW X e t):PT X e t:=h _
def PA(X:Cx)(es:List Expr)(t:TA):Prop :=
 ∀(pos:Pos) (pins:List (Addr×Obj)) (s:Shared) (Z:St) (H:Hp) (Q:List V->Hp->Prop),Inv X pins Z H s->t Z H Q->wpAny (model X.prog X.w) X.A (spliced (backTo pos (starEach es X.env))) (AP X pins Z Q) X.xe s
def PS(X:Cx)(st:Stmt)(t:TS):Prop :=
 ∀(pins:List (Addr×Obj)) (s:Shared) (Z:St) (H:Hp) (D:P4),Inv X pins Z H s->t D Z H->wpAny (model X.prog X.w) X.A (exec st X.env) (SP X pins D) X.xe s
def PSs(X:Cx)(st:List Stmt)(t:TS):Prop :=
 ∀(pins:List (Addr×Obj)) (s:Shared) (Z:St) (H:Hp) (D:P4),Inv X pins Z H s->t D Z H->wpAny (model X.prog X.w) X.A (execs st X.env) (SP X pins D) X.xe s
theorem thn{α:Type}{t:Sem α}{Q Q':α->Shared->Prop}(h:wpAny M A t Q E s)(hQ:∀a s,Q a s->Q' a s):wpAny M A t Q' E s:=wpAny_mono h hQ λ_ _ x=>x
section
def jg(i:Nat):TE:=λZ H Q=>∃v,Z[i]?=some (some v)/\Q v H
def tC(v:V):TE:=λ_ H Q=>Q v H
theorem A0v(hN:X.N[i]?=some x)(hv:Vis X.env.scope x)(hd:(x == ("__debug__" : Str))=false:=by decide)(hcd:(x == ("__classdict__" : Str))=false:=by decide):PE X (.Name x pos) (jg i):=by
 intro pins s Z H Q I h;obtain⟨v,e,h⟩:=h;obtain⟨m,hn,hl⟩:=I.loc;obtain⟨u,r,l⟩:=hl i x v hN e hv;have fin:EP X pins Z Q u s:=⟨v,H,I,r,h⟩;rcases l with ⟨hk,hm⟩ | ⟨hk,c,hc,hcell⟩
 ·exact wpAny_Name (wpAny_loadName_local I.ok.kind hk hn hm fin) hd
 ·rcases hk with hk | hk
  ·exact wpAny_Name (wpAny_loadName_cell I.ok.kind hk hc hcell fin) hd
  ·exact wpAny_Name (wpAny_loadName_free I.ok.kind hk hc hcell fin hcd) hd
theorem A6{i j pos}:PE X (.Constant (.int i) j pos) (tC (.int i)):=λ_ _ _ H _ I h=>wpAny_Constant_int ⟨.int i,H,I.tok _,⟨_,rfl⟩,h⟩
theorem Ft{b j pos}:PE X (.Constant (.bool b) j pos) (tC (.bl b)):=λ_ _ _ H _ I h=>Constant_bool ⟨.bl b,H,I,rfl,h⟩
theorem Fz{j pos}:PE X (.Constant .none j pos) (tC .non):=λ_ _ _ H _ I h=>Constant_none ⟨.non,H,I,rfl,h⟩
theorem Am{x j pos}:PE X (.Constant (.str x) j pos) (tC (.str x)):=λ_ _ _ H _ I h=>Calls.Constant_str ⟨.str x,H,I.tok _,⟨_,rfl⟩,h⟩
def Gl(X:Cx)(x:Str):Prop:=X.env.kindOf x=some .globalImplicit
theorem Xj(I:Inv X pins Z H s)(hg:Gl X x)(hm:X.mg x=some u)(h:Q u s)
  (hd:(x == ("__debug__" : Str))=false:=by decide):wpAny (model X.prog X.w) X.A (eval (.Name x pos) X.env) Q E s :=
 Calls.Name_function_global I.ok.kind hg (Calls.loadGlobal_global (by rw[I.ok.glob];exact I.mod.glob.keeps I.bk) hm h) hd
theorem Er(I:Inv X pins Z H s)(hg:Gl X x)(hm:X.mg x=none)(hv:bootBuiltins x=some u)(h:Q u s)
  (hn:x ≠ "__name__" := by decide) (hd:(x == ("__debug__" : Str))=false:=by decide):wpAny (model X.prog X.w) X.A (eval (.Name x pos) X.env) Q E s:=by
 obtain⟨mb,h1,h2⟩:=I.mod.blt;exact Calls.Name_function_global I.ok.kind hg (Calls.loadGlobal_builtin (by rw[I.ok.glob];exact I.mod.glob.keeps I.bk) hm (by rw[I.ok.blt];exact h1.keeps I.bk) ((h2 x hn).trans hv) h) hd
theorem Nb(hg:Gl X x)(hm:X.mg x=some u)(r:AD v u)(hd:(x == ("__debug__" : Str))=false:=by decide):PE X (.Name x pos) (tC v) :=
 λ_ _ _ H _ I h=>Xj I hg hm ⟨v,H,I,r,h⟩ hd
theorem Iu(hg:Gl X x)(hm:X.mg x=none)(hv:bootBuiltins x=some u)(r:AD v u)(hn:x ≠ "__name__" := by decide)(hd:(x == ("__debug__" : Str))=false:=by decide):PE X (.Name x pos) (tC v) :=
 λ_ _ _ H _ I h=>Er I hg hm hv ⟨v,H,I,r,h⟩ hn hd
variable {a b:Expr}{tb:TE}
def PC(X:Cx)(op:CmpOp)(a b:Expr)(t:TE):Prop :=
 ∀(pins:List (Addr×Obj)) (s:Shared) (Z:St) (H:Hp) (Q:VK),Inv X pins Z H s->t Z H Q ->
  wpAny (model X.prog X.w) X.A (eval a X.env) (λv s₁=>wpAny (model X.prog X.w) X.A (eval b X.env) (λu s₂=>wpAny (model X.prog X.w) X.A (compareOp op v u) (EP X pins Z Q) X.xe s₂) X.xe s₁) X.xe s
def tB(t:TE):TT:=λZ H Q=>t Z H λx H1=>∃c,x=.bl c/\Q c H1
theorem C9{t:TE}(h:PE X e t)(he:∀whole,isTrue e X.env whole=(do let v <- whole;standAt e.pos;holding [v] (truthy v)):=by intro _;rfl):PT X e (tB t):=by
 intro pins s Z H Q I hw;refine isTrue_plain (thn (h pins s Z H _ I hw) λv s1 ⟨x,H1,I1,r1,q1⟩=>?_) (he _);obtain⟨d,rfl,q⟩:=q1;cases r1;exact wpAny_truthy_bool ⟨H1,I1,q⟩
variable {tA tB':TT}{AU:List Expr}
def ox(t u:TT):TT:=λZ H Q=>t Z H λc H1=>if c=true then u Z H1 Q else Q false H1
def tOr(t u:TT):TT:=λZ H Q=>t Z H λc H1=>if c=true then Q true H1 else u Z H1 Q
def oj(t:TT):TT:=λZ H Q=>t Z H λc H1=>Q (!c) H1
theorem He(ha:PT X a tA):PW X (.BoolOp .And [a] pos) tA:=by
 intro wh pins s Z H Q I h;refine isTrue_and (thn (ha pins s Z H Q I h) λc s1 e=>?_);cases c with
 |true=>exact isTrue_and_nil e
 |false=>exact e
theorem En(ha:PT X a tA):PW X (.BoolOp .Or [a] pos) tA:=by
 intro wh pins s Z H Q I h;refine isTrue_or (thn (ha pins s Z H Q I h) λc s1 e=>?_);cases c with
 |false=>exact isTrue_or_nil e
 |true=>exact e
theorem J7(ha:PT X a tA)(hb:PW X (.BoolOp .And (b::AU) pos) tB'):PW X (.BoolOp .And (a::b::AU) pos) (ox tA tB'):=by
 intro wh pins s Z H Q I h;refine isTrue_and (thn (ha pins s Z H _ I h) λc s1 z0=>?_);obtain⟨H1,I1,q1⟩:=z0;cases c with
 |true=>exact hb wh pins s1 Z H1 Q I1 q1
 |false=>exact⟨H1,I1,q1⟩
theorem Fg(ha:PT X a tA)(hb:PW X (.BoolOp .Or (b::AU) pos) tB'):PW X (.BoolOp .Or (a::b::AU) pos) (tOr tA tB'):=by
 intro wh pins s Z H Q I h;refine isTrue_or (thn (ha pins s Z H _ I h) λc s1 z0=>?_);obtain⟨H1,I1,q1⟩:=z0;cases c with
 |true=>exact⟨H1,I1,q1⟩
 |false=>exact hb wh pins s1 Z H1 Q I1 q1
theorem C6(ha:PT X a tA):PT X (.UnaryOp .Not a pos) (oj tA):=by
 intro pins s Z H Q I h;exact isTrue_not (ha pins s Z H (λc H1=>Q (!c) H1) I h)
def Yq(ta tb:TE):TE:=λZ H Q=>ta Z H λx H1=>∃c,x=.bl c/\if c=true then tb Z H1 Q else Q (.bl false) H1
def oh(ta tb:TE):TE:=λZ H Q=>ta Z H λx H1=>∃c,x=.bl c/\if c=true then Q (.bl true) H1 else tb Z H1 Q
def Yh(ta:TE):TE:=λZ H Q=>ta Z H λx H1=>∃c,x=.bl c/\Q (.bl (!c)) H1
theorem Gy{op}{t:TE}(h:PE X a t):PE X (.BoolOp op [a] pos) t:=λpins s Z H Q I hw=>BoolOp_one (h pins s Z H Q I hw)
theorem Ep(ha:PE X a ta)(hb:PE X (.BoolOp .And (b::AU) pos) tb):PE X (.BoolOp .And (a::b::AU) pos) (Yq ta tb):=by
 intro pins s Z H Q I h;refine BoolOp_and (thn (ha pins s Z H _ I h) λv s1 z0=>?_);obtain⟨x,H1,I1,r1,q1⟩:=z0;obtain⟨c,rfl,q1⟩:=q1;cases r1;refine wpAny_truthy_bool ?_;cases c with
 |true=>exact hb pins s1 Z H1 Q I1 q1
 |false=>exact⟨.bl false,H1,I1,rfl,q1⟩
theorem A27(ha:PE X a ta)(hb:PE X (.BoolOp .Or (b::AU) pos) tb):PE X (.BoolOp .Or (a::b::AU) pos) (oh ta tb):=by
 intro pins s Z H Q I h;refine BoolOp_or (thn (ha pins s Z H _ I h) λv s1 z0=>?_);obtain⟨x,H1,I1,r1,q1⟩:=z0;obtain⟨c,rfl,q1⟩:=q1;cases r1;refine wpAny_truthy_bool ?_;cases c with
 |false=>exact hb pins s1 Z H1 Q I1 q1
 |true=>exact⟨.bl true,H1,I1,rfl,q1⟩
theorem A0x(ha:PE X a ta):PE X (.UnaryOp .Not a pos) (Yh ta):=by
 intro pins s Z H Q I h;refine UnaryOp_ (thn (ha pins s Z H _ I h) λv s1 z0=>?_);obtain⟨x,H1,I1,r1,q1⟩:=z0;obtain⟨c,rfl,q1⟩:=q1;cases r1;exact not_of (wpAny_truthy_bool ⟨.bl (!c),H1,I1,rfl,q1⟩)
def tIf(t:TT)(ta tb:TE):TE:=λZ H Q=>t Z H λc H1=>if c=true then ta Z H1 Q else tb Z H1 Q
theorem Z4{c:Expr}(hc:PT X c tA)(ha:PE X a ta)(hb:PE X b tb):PE X (.IfExp c a b pos) (tIf tA ta tb):=by
 intro pins s Z H Q I h;refine wpAny_IfExp (thn (hc pins s Z H _ I h) λd s1 z0=>?_);obtain⟨H1,I1,q1⟩:=z0;cases d with
 |true=>exact ha pins s1 Z H1 Q I1 q1
 |false=>exact hb pins s1 Z H1 Q I1 q1
end
def SqL(K:Zzw)(H:Hp)(a:Addr)(xs:List V):Prop :=
 Rd H a (.lst xs) \/
  ∃(o:Obj) (its:Array Value) (n:Nat),K.lookup a=some o/\o.cls=.type "list" /\ o.dict=none/\o.data=.seq its n/\its.size<=sizeLine/\AC xs its.toList
def SqT(K:Zzw)(H:Hp)(a:Addr)(xs:List V):Prop :=
 Rd H a (.tup xs) \/
  ∃(o:Obj) (its:Array Value) (n:Nat),K.lookup a=some o/\o.cls=.type "tuple" /\ o.data=.seq its n/\its.size<=sizeLine/\AC xs its.toList
noncomputable def absV:Value->Option V
 |.none=>some .non
 |.bool b=>some (.bl b)
 |.int i _=>some (.int i)
 |.str x _=>some (.str x)
 |.bytes b _=>some (.byt b)
 |.float b _=>some (.flt b)
 |.ref a=>some (.ref a)
 |.type n=>some (.ty n)
 |_=>none
theorem AD.abs{x:V}(r:AD x u):absV u=some x:=by
 cases x with
 |non=>cases r;rfl
 |bl _=>cases r;rfl
 |int _=>obtain⟨t,rfl⟩:=r;rfl
 |str _=>obtain⟨t,rfl⟩:=r;rfl
 |byt _=>obtain⟨t,rfl⟩:=r;rfl
 |flt _=>obtain⟨t,rfl⟩:=r;rfl
 |ref _=>cases r;rfl
 |ty _=>cases r;rfl
theorem AD.inj{x y:V}(r:AD x u)(q:AD y u):x=y:=Zzh (r.abs.symm.trans q.abs)
theorem AC.inj:∀{xs ys:List V} {us:List Value},AC xs us->AC ys us->xs=ys
 |_,_,_,.nil,.nil=>rfl
 |_,_,_,.cons r t,.cons r' t'=>by rw[r.inj r',AC.inj t t']
section
variable {xs ys:List V}
theorem SqL.of(h:H a=some (.lst xs)):SqL K H a xs:=.inl (.inl h)
theorem SqT.of(h:H a=some (.tup xs)):SqT K H a xs:=.inl (.inl h)
theorem Inv.list(I:Inv X pins Z H s)(h:SqL X.K H a xs):∃its:List Value,AC xs its/\PlainL s.heap a its.toArray/\xs.length<=sizeLine:=by
 rcases h with h | ⟨o,its,n,hk,hc,hd,hs,hz,r⟩
 ·obtain⟨z,its,n,r,e⟩:=h.ok I.hok;exact⟨its,r,⟨_,n,e,rfl,rfl,rfl⟩,z⟩
 ·refine⟨its.toList,r,⟨o,n,I.kIn a o hk,hc,hd,by simpa using hs⟩,?_⟩;have e:=r.length;simp only[Zxq] at e;lia
theorem Inv.tuple(I:Inv X pins Z H s)(h:SqT X.K H a xs):∃its:List Value,AC xs its/\IsTup s.heap a its.toArray/\xs.length<=sizeLine:=by
 rcases h with h | ⟨o,its,n,hk,hc,hs,hz,r⟩
 ·obtain⟨z,its,r,p⟩:=h.ok I.hok;exact⟨its,r,p,z⟩
 ·refine⟨its.toList,r,⟨o,I.kIn a o hk,hc,n,by simpa using hs⟩,?_⟩;have e:=r.length;simp only[Zxq] at e;lia
theorem Inv.list_inj(I:Inv X pins Z H s)(h:SqL X.K H a xs)(h':SqL X.K H a ys):xs=ys:=by
 obtain⟨its,r,⟨o,n,e,_,_,d⟩,_⟩:=I.list h;obtain⟨its',r',⟨o',n',e',_,_,d'⟩,_⟩:=I.list h';rw[e] at e';cases e';rw[d] at d';injection d' with d1 _
 have:its=its':=by simpa using congrArg Array.toList d1
 subst this;exact r.inj r'
theorem Inv.tuple_inj(I:Inv X pins Z H s)(h:SqT X.K H a xs)(h':SqT X.K H a ys):xs=ys:=by
 obtain⟨its,r,⟨o,e,_,n,d⟩,_⟩:=I.tuple h;obtain⟨its',r',⟨o',e',_,n',d'⟩,_⟩:=I.tuple h';rw[e] at e';cases e';rw[d] at d';injection d' with d1 _
 have:its=its':=by simpa using congrArg Array.toList d1
 subst this;exact r.inj r'
end
abbrev Cx.wish(X:Cx)(E:Value->Shared->Prop):Cx:={X with xe:=E}
abbrev Cx.nox(X:Cx):Cx:=X.wish λ_ _=>False
theorem Cx.Ok.wish(ok:X.Ok)(E:Value->Shared->Prop):(X.wish E).Ok :=
 ⟨ok.mod,ok.kind,ok.glob,ok.blt,ok.above,ok.inj,ok.has,ok.cab,ok.hd,ok.frames,ok.stk,ok.exf,ok.bs,ok.bsz,ok.noex,ok.exfs,ok.funs,ok.frf⟩
theorem Cx.Ok.unwish(ok:(X.wish E).Ok):X.Ok :=
 ⟨ok.mod,ok.kind,ok.glob,ok.blt,ok.above,ok.inj,ok.has,ok.cab,ok.hd,ok.frames,ok.stk,ok.exf,ok.bs,ok.bsz,ok.noex,ok.exfs,ok.funs,ok.frf⟩
theorem Inv.wish(I:Inv X pins Z H s)(E:Value->Shared->Prop):Inv (X.wish E) pins Z H s:=⟨I.ok.wish E,I.os,I.bare,I.base,I.loc,I.cell,I.free,I.freeC,I.pin,I.hok,I.len⟩
theorem Inv.unwish(I:Inv (X.wish E) pins Z H s):Inv X pins Z H s:=⟨I.ok.unwish,I.os,I.bare,I.base,I.loc,I.cell,I.free,I.freeC,I.pin,I.hok,I.len⟩
theorem SP.unwish{D:P4}{f:Flow}(h:SP (X.wish E) pins D f s'):SP X pins D f s':=by
 cases f with
 |next=>obtain⟨Z',H',I,q⟩:=h;exact⟨Z',H',I.unwish,q⟩
 |brk=>obtain⟨Z',H',I,q⟩:=h;exact⟨Z',H',I.unwish,q⟩
 |cont=>obtain⟨Z',H',I,q⟩:=h;exact⟨Z',H',I.unwish,q⟩
 |ret u=>obtain⟨v,Z',H',I,r,q⟩:=h;exact⟨v,Z',H',I.unwish,r,q⟩
theorem PSs.nox{st:List Stmt}{t:TS}(h:PSs X.nox st t):PSs X st t:=λpins s Z H D I hw =>
 wpAny_mono (h pins s Z H D (I.wish _) hw) (λ_ _ q=>q.unwish) λ_ _ z=>False.elim z
section
variable {st:Stmt}{AU:List Stmt}{t u:TS}
def FJ:TS:=λD Z H=>D.nx Z H
def Rc(t u:TS):TS:=λD Z H=>t {D with nx:=u D} Z H
theorem Ak:PSs X [] FJ:=λ_ _ Z H _ I h=>wpAny_execs_nil ⟨Z,H,I,h⟩
theorem A2(h1:PS X st t)(h2:PSs X AU u):PSs X (st::AU) (Rc t u):=by
 intro pins s Z H D I h;refine wpAny_execs_cons (thn (h1 pins s Z H {D with nx:=u D} I h) λf s1 q=>?_);cases f with
 |next =>
  obtain⟨Z',H',I',q⟩:=q;exact h2 pins s1 Z' H' D I' q
 |ret v=>exact q
 |brk=>exact q
 |cont=>exact q
theorem Aa(h1:PS X st t):PSs X [st] t:=by
 intro pins s Z H D I h;refine wpAny_execs_cons (thn (h1 pins s Z H D I h) λf s1 q=>?_);cases f with
 |next=>exact wpAny_execs_nil q
 |ret v=>exact q
 |brk=>exact q
 |cont=>exact q
theorem Inv.quiet(I:Inv X pins Z H s):interactive X.env=false:=by simp[interactive,I.ok.kind]
def Yo(te:TE):TS:=λD Z H=>te Z H λ_ H1=>D.nx Z H1
theorem C5(he:PE X e te)(hs:swapsWith e none pos.line X.env=pure false:=by rfl):PS X (.Expr e pos) (Yo te):=by
 intro pins s Z H D I h;exact wpAny_Expr_any (thn (he pins s Z H _ I h) λv s1 z0=>by obtain⟨x,H1,I1,r1,q1⟩:=z0;exact ⟨Z,H1,I1,q1⟩) I.quiet hs
def ny(te:TE):TS:=λD Z H=>te Z H D.rt
theorem Ae(he:PE X e te):PS X (.Return (some e) pos) (ny te):=by
 intro pins s Z H D I h;exact wpAny_Return_some (thn (he pins s Z H _ I h) λv s1 z0=>by obtain⟨x,H1,I1,r1,q1⟩:=z0;exact ⟨x,Z,H1,I1,r1,q1⟩)
def f6:TS:=λD _ H=>D.rt .non H
def on(c:TT)(t u:TS):TS:=λD Z H=>c Z H λb H1=>if b=true then t D Z H1 else u D Z H1
theorem Ay{c:Expr}{a b:List Stmt}{tc:TT}(hc:PT X c tc)(ha:PSs X a t)(hb:PSs X b u):PS X (.If c a b pos) (on tc t u):=by
 intro pins s Z H D I h;refine wpAny_If (thn (hc pins s Z H _ I h) λd s1 z0=>?_);obtain⟨H1,I1,q1⟩:=z0;cases d with
 |true=>exact ha pins s1 Z H1 D I1 q1
 |false=>exact hb pins s1 Z H1 D I1 q1
def EM:TS:=λ_ _ _=>False
theorem qq:PS X st EM:=λ_ _ _ _ _ _ h=>h.elim
theorem C0{sts:List Stmt}:PSs X sts EM:=λ_ _ _ _ _ _ h=>h.elim
end
abbrev TG:=V->St->Hp->(St->Hp->Prop)->Prop
abbrev TGs:=List V->St->Hp->(St->Hp->Prop)->Prop
def PG(X:Cx)(target:Expr)(t:TG):Prop :=
 ∀(pins:List (Addr×Obj)) (s:Shared) (Z:St) (H:Hp) (v:V) (u:Value) (Q:St->Hp->Prop),Inv X pins Z H s->AD v u->t v Z H Q ->
  wpAny (model X.prog X.w) X.A (assign target X.env u) (λ_ s'=>∃Z' H',Inv X pins Z' H' s'/\Q Z' H') X.xe s
def PGs(X:Cx)(ts:List Expr)(t:TGs):Prop :=
 ∀(pins:List (Addr×Obj)) (s:Shared) (Z:St) (H:Hp) (vs:List V) (us:List Value) (Q:St->Hp->Prop),Inv X pins Z H s->AC vs us->t vs Z H Q ->
  wpAny (model X.prog X.w) X.A (assignInOrder ((assignEach ts X.env).map (·.2)) us) (λ_ s'=>∃Z' H',Inv X pins Z' H' s'/\Q Z' H') X.xe s
abbrev EH:=V->V->V->Hp->(Hp->Prop)->Prop
def wo(X:Cx)(t:EH):Prop :=
 ∀(pins:List (Addr×Obj)) (s:Shared) (Z:St) (H:Hp) (o i v:V) (ov iv u:Value) (Q:Hp->Prop),Inv X pins Z H s->AD o ov->AD i iv->AD v u->t o i v H Q ->
  wpAny (model X.prog X.w) X.A (setItem ov iv u) (λ_ s'=>∃H',Inv X pins Z H' s'/\Q H') X.xe s
abbrev TIp:=V->V->Hp->VK->Prop
def PIp(X:Cx)(op:Operator)(t:TIp):Prop :=
 ∀(pins:List (Addr×Obj)) (s:Shared) (Z:St) (H:Hp) (x y:V) (v u:Value) (Q:VK),Inv X pins Z H s->AD x v->AD y u->t x y H Q ->
  wpAny (model X.prog X.w) X.A (inplaceOp op v u) (EP X pins Z Q) X.xe s
def Cv(i:Nat):TG:=λv Z H Q=>Q (Z.set i (some v)) H
theorem Ac(hN:X.N.Nodup)(hi:X.N[i]?=some x)(hx:Loc X.env.scope x)(hf:X.fn x=true\/X.env.scope.names.lookup x=some .local:=by first | exact .inl rfl | exact .inr rfl | assumption):PG X (.Name x pos) (Cv i):=by
 intro pins s Z H v u Q I r h;exact wpAny_assign_Name (Rg I hN hi hx r (λs' I'=>⟨_,H,I',h⟩) hf)
def CZ:TGs:=λvs Z H Q=>vs=[]/\Q Z H
def Ea(t:TG)(u:TGs):TGs:=λvs Z H Q=>∃v r,vs=v::r/\t v Z H λZ' H'=>u r Z' H' Q
theorem Cj:PGs X [] CZ:=by
 intro pins s Z H vs us Q I r h;obtain⟨e,h⟩:=h;subst e;cases r;exact assignInOrder_nil ⟨Z,H,I,h⟩
theorem An{t:TG}{u:TGs}(h1:PG X e t)(h2:PGs X es u)
  (hs:(assignEach (e::es) X.env).map (·.2)=assign e X.env::(assignEach es X.env).map (·.2):=by rfl):PGs X (e::es) (Ea t u):=by
 intro pins s Z H vs us Q I r h;obtain⟨v,vr,e1,h⟩:=h;subst e1;cases r with
 |cons r rr =>
  rw[hs];refine assignInOrder_cons (thn (h1 pins s Z H _ _ _ I r h) λ_ s1 z0=>?_);obtain⟨σ1,H1,I1,q1⟩:=z0;exact h2 pins s1 σ1 H1 _ _ Q I1 rr q1
def Zy(K:Zzw)(n:Nat)(t:TGs):TG:=λv Z H Q=>∃a xs,v=.ref a/\SqT K H a xs/\xs.length=n/\t xs Z H Q
theorem Do{k:Nat}{t:TGs}(hc:X.calm=true)(h:PGs X es t)
  (hn:(assignEach es X.env).length=n:=by rfl) (hst:(assignEach es X.env).findIdx? (·.1)=none:=by rfl):PG X (.Tuple es k pos) (Zy X.K n t):=by
 intro pins s Z H v u Q I r hw;obtain⟨a,xs,e1,hq,hl,hw⟩:=hw;subst e1;cases r;obtain⟨its,rv,ht,hz⟩:=I.tuple hq;refine assign_Tuple_tuple (I.ok.hd hc) ht (by simp[hn,<- hl,rv.length]) hst λh' hx=>?_;have I1:Inv X pins Z H {s with heap:=h'}:=I.kept (t':=s.toks) λb o e=>hx b o (Zz2 (Zzg e)) e;exact h pins _ Z H xs _ Q I1 (by simpa using rv) hw
def v8(to ti:TE)(t:EH):TG:=λv Z H Q=>to Z H λo H1=>ti Z H1 λi H2=>t o i v H2 λH3=>Q Z H3
theorem Fy{o i:Expr}{to ti:TE}{t:EH}(ho:PE X o to)(hi:PE X i ti)(hs:wo X t)
  (ha:∀v,assign (.Subscript o i pos) X.env v=(do
   let ov <- holding [v] (eval o X.env)
   let iv <- holding [v,ov] (eval i X.env)
   standAt pos
   holding [v,ov,iv] (setItem ov iv v)
   release [v,ov,iv] []):=by intro _;rfl):PG X (.Subscript o i pos) (v8 to ti t):=by
 intro pins s Z H v u Q I r h;rw[ha];refine GA (wpAny_holding (thn (ho pins s Z H _ I h) λov s1 z0=>?_));obtain⟨x,H1,I1,r1,q1⟩:=z0;refine GA (wpAny_holding (thn (hi pins s1 Z H1 _ I1 q1) λiv s2 z0=>?_));obtain⟨y,H2,I2,r2,q2⟩:=z0;refine GA (wpAny_standAt (GA (wpAny_holding (thn (hs pins s2 Z H2 x y v ov iv u _ I2 r1 r2 r q2) λ_ s3 z0=>?_))));obtain⟨H3,I3,q3⟩:=z0;exact wpAny_release ⟨Z,H3,I3,q3⟩
def b9(te:TE)(g:TG):TS:=λD Z H=>te Z H λx H1=>g x Z H1 D.nx
theorem Eo{g:TG}(he:PE X e te)(hg:PG X tg g)(hs:swapsWithSole [tg] e pos.line X.env=pure false:=by rfl)(hw:swappedStores [tg] e X.env=pure none:=by rfl)
  (h1:(assignEach [tg] X.env).map (·.2)=[assign tg X.env]:=by rfl):PS X (.Assign [tg] e pos) (b9 te g):=by
 intro pins s Z H D I h;refine wpAny_Assign_stores (thn (he pins s Z H _ I h) λv s1 ⟨x,H1,I1,r1,q1⟩=>?_) hs hw;rw[h1];exact thn (hg pins s1 Z H1 x v _ I1 r1 q1) λ_ s2 q=>q
theorem Af{pos':Pos}(hN:X.N.Nodup)(hi:X.N[i]?=some x)(hx:Loc X.env.scope x)(he:PE X e te)(hs:swapsWith e (some (.Name x pos')) pos.line X.env=pure false:=by rfl)(hf:X.fn x=true\/X.env.scope.names.lookup x=some .local:=by first | exact .inl rfl | exact .inr rfl | assumption) :
  PS X (.Assign [.Name x pos'] e pos) (b9 te (Cv i)):=by
 intro pins s Z H D I h;refine wpAny_Assign_Name (thn (he pins s Z H _ I h) λv s1 ⟨y,H1,I1,r1,q1⟩=>?_) hs;exact Rg I1 hN hi hx r1 (λs2 I2=>⟨_,H1,I2,q1⟩) hf
def ou(i:Nat)(te:TE)(ti:TIp):TS:=λD Z H=>∃x,Z[i]?=some (some x)/\te Z H λy H1=>ti x y H1 λz H2=>D.nx (Z.set i (some z)) H2
theorem bh{op:Operator}{ti:TIp}{pos':Pos}(hN:X.N.Nodup)(hi:X.N[i]?=some x)(hx:Loc X.env.scope x)(he:PE X e te)(ho:PIp X op ti)(hf:X.fn x=true\/X.env.scope.names.lookup x=some .local:=by first | exact .inl rfl | exact .inr rfl | assumption) :
  PS X (.AugAssign (.Name x pos') op e pos) (ou i te ti):=by
 intro pins s Z H D I h;obtain⟨v,e1,h⟩:=h;obtain⟨m,hn,hl⟩:=I.loc;have vis:Vis X.env.scope x:=by rcases hx with k | k;exact .inl k;exact .inr (.inl k)
 obtain⟨u,r,l⟩:=hl i x v hi e1 vis;refine wpAny_AugAssign_Name ?_;have go:wpAny (model X.prog X.w) X.A (eval e X.env) (λw s₂=>wpAny (model X.prog X.w) X.A (inplaceOp op u w) (λr s₃=>wpAny (model X.prog X.w) X.A (storeName X.env x r) (λ_=>SP X pins D .next) X.xe s₃) X.xe s₂) X.xe s:=by
  refine thn (he pins s Z H _ I h) λw s1 z0=>?_;obtain⟨y,H1,I1,r1,q1⟩:=z0;refine thn (ho pins s1 Z H1 v y u w _ I1 r r1 q1) λz s2 z0=>?_;obtain⟨zv,H2,I2,r2,q2⟩:=z0;exact Rg I2 hN hi hx r2 (λs3 I3=>⟨_,H2,I3,q2⟩) hf
 rcases l with ⟨hk,hm⟩ | ⟨hk,c,hc,hcell⟩
 ·exact wpAny_loadName_local I.ok.kind hk hn hm go
 ·rcases hk with hk | hk
  ·exact wpAny_loadName_cell I.ok.kind hk hc hcell go
  ·rcases hx with k | k
   ·have:X.env.scope.names.lookup x=some .free:=hk
    rw[k] at this;cases this
   ·have:X.env.scope.names.lookup x=some .free:=hk
    rw[k] at this;cases this
def Yp(to ti te:TE)(tget:V->V->Hp->VK->Prop)(tip:TIp)(tset:EH):TS:=λD Z H=>to Z H λo H1=>ti Z H1 λi H2=>tget o i H2 λx H3=>te Z H3 λy H4=>tip x y H4 λz H5=>tset o i z H5 λH6=>D.nx Z H6
def A2z(X:Cx)(t:V->V->Hp->VK->Prop):Prop :=
 ∀(pins:List (Addr×Obj)) (s:Shared) (Z:St) (H:Hp) (o i:V) (ov iv:Value) (Q:VK),Inv X pins Z H s->AD o ov->AD i iv->t o i H Q ->
  wpAny (model X.prog X.w) X.A (getItem ov iv) (EP X pins Z Q) X.xe s
theorem gf{o i:Expr}{to ti:TE}{tget:V->V->Hp->VK->Prop}{tip:TIp}{tset:EH}{op:Operator}{tpos:Pos}(ho:PE X o to)(hi:PE X i ti)(hg:A2z X tget)(he:PE X e te)(hp:PIp X op tip)(hs:wo X tset)
  (ha:∀ov iv new,augStore i ov iv new=(do holding [new,ov,iv] (setItem ov iv new);release [new,ov,iv] [];pure .next):=by intros;rfl):PS X (.AugAssign (.Subscript o i tpos) op e pos) (Yp to ti te tget tip tset):=by
 intro pins s Z H D I h;refine wpAny_AugAssign_SubscriptAny (thn (ho pins s Z H _ I h) λov s1 ⟨x1,H1,I1,r1,q1⟩=>?_) ha;refine thn (hi pins s1 Z H1 _ I1 q1) λiv s2 z0=>?_;obtain⟨x2,H2,I2,r2,q2⟩:=z0;refine thn (hg pins s2 Z H2 x1 x2 ov iv _ I2 r1 r2 q2) λold s3 z0=>?_;obtain⟨x3,H3,I3,r3,q3⟩:=z0;refine thn (he pins s3 Z H3 _ I3 q3) λv s4 z0=>?_;obtain⟨x4,H4,I4,r4,q4⟩:=z0;refine thn (hp pins s4 Z H4 x3 x4 old v _ I4 r3 r4 q4) λnew s5 z0=>?_;obtain⟨x5,H5,I5,r5,q5⟩:=z0;exact thn (hs pins s5 Z H5 x1 x2 x5 ov iv new _ I5 r1 r2 r5 q5) λ_ s6 ⟨H6,I6,q6⟩=>⟨Z,H6,I6,q6⟩
def A0n(c:TT)(tb:TS):TS:=λD Z H=>∃W:Nat->St->Hp->Prop,(∃m,W m Z H)/\∀m Z H,W m Z H ->
 c Z H λb H1=>if b=true then ∃N:St->Hp->Prop,(∀Z' H',N Z' H'->∃m',m'<m/\W m' Z' H')/\tb {D with nx:=N,ct:=N,bk:=D.nx} Z H1 else D.nx Z H1
theorem qo{c:Expr}{tc:TT}{tb:TS}(hp:PassesOwn (model X.prog X.w) X.A X.env X.xe)(hc:PT X c tc)(hb:PSs X body tb):PS X (.While c body [] pos) (A0n tc tb):=by
 intro pins s Z H D I h;obtain⟨W,⟨m0,w0⟩,turn⟩:=h;refine wpAny_While (codeAny_whileLoop (λn s'=>∃Z' H',Inv X pins Z' H' s'/\W n Z' H') ?_ m0 ⟨Z,H,I,w0⟩);rintro n s1 ⟨σ1,H1,I1,w1⟩;refine wpAny_passesOwn hp (thn (hc pins s1 σ1 H1 _ I1 (turn n σ1 H1 w1)) λb s2 z0=>?_);obtain⟨H2,I2,q2⟩:=z0;cases b with
 |true =>
  obtain⟨N,hN,q2⟩:=q2;rw[FZ rfl];refine wpAny_passesOwn hp (thn (hb pins s2 σ1 H2 _ I2 q2) λf s3 q3=>?_);cases f with
  |next =>
   obtain⟨σ3,H3,I3,n3⟩:=q3;obtain⟨m',hm,w3⟩:=hN σ3 H3 n3;exact⟨m',hm,σ3,H3,I3,w3⟩
  |cont =>
   obtain⟨σ3,H3,I3,n3⟩:=q3;obtain⟨m',hm,w3⟩:=hN σ3 H3 n3;exact⟨m',hm,σ3,H3,I3,w3⟩
  |brk=>exact q3
  |ret v=>exact q3
 |false =>
  rw[FY Zz8];exact wpAny_execs_nil ⟨σ1,H2,I2,q2⟩
structure It where
 go:Nat->Hp->Prop
 yld:Nat->Hp->V->Hp->Prop
 stop:Nat->Hp->Prop
def Kf(X:Cx)(pins:List (Addr×Obj))(H:Hp)(b:Addr):Prop :=
 H b=none/\b≠X.env.locals/\b∉X.fs/\(b∈X.ex\/X.s₀.heap.objs.size<=b)/\(∀x c,X.env.cells.lookup x=some c->c≠b)/\∀p∈X.pn++pins,p.1≠b
theorem Inv.fpOk(I:Inv X pins Z H s)(hb:s.heap.objs.size<=b)(hn:H' b=none):Kf X pins H' b:=by
 refine⟨hn,Zxt (Zz3 I.lt hb),I.nofs hb,.inr (Zzd I.sz hb),λx c e z=>?_,λp hp z=>?_⟩
 ·obtain⟨v,q⟩:=I.cell x c e;exact absurd (Zz3 q.lt (by rw[z];exact hb)) (Zwl _)
 ·exact absurd (Zz3 (Zzg (I.pin p hp).1) (by rw[z];exact hb)) (Zwl _)
structure O5(P:Program)(w:World)(K:Zzw)(tg:Expr)(J:It)(fp:List Addr)(it:Addr)(tn:Nat->Heap->Prop):Prop where
 mem:it∈fp
 obj:∀i h,tn i h->∀b∈fp,∃o,h.get? b=some o/\∀v,o.data≠.cell v
 keep:∀i h h',tn i h->(∀b∈fp,∀o,h.get? b=some o->h'.get? b=some o)->tn i h'
 item:∀(X:Cx),X.prog=P->X.w=w->X.K=K->X.calm=true->∀(i:Nat) (pins:List (Addr×Obj)) (s:Shared) (Z:St) (H:Hp) (E:Value->Shared->Prop),Inv X pins Z H s->(∀b∈fp,Kf X pins H b)->tn i s.heap->J.go i H ->
  wpAny (model P w) X.A (pyNext (.ref it)) (λr s1=>∃u,r=some u /\
   wpAny (model P w) X.A (letOwnedTupleGo tg (.ref it) u) (λ_ s2=>∃x H',Inv X pins Z H' s2/\AD x u/\J.yld i H x H'/\tn (i+1) s2.heap/\∀b∈fp,H' b=none) E s1) E s
 done:∀(X:Cx),X.prog=P->X.w=w->X.K=K->X.calm=true->∀(i:Nat) (pins:List (Addr×Obj)) (s:Shared) (Z:St) (H:Hp) (E:Value->Shared->Prop),Inv X pins Z H s->(∀b∈fp,Kf X pins H b)->tn i s.heap->J.stop i H ->
  wpAny (model P w) X.A (pyNext (.ref it)) (λr s1=>r=none/\Inv X pins Z H s1) E s
 self:∀(A:Around) (i:Nat) (s:Shared) (Q:Value->Shared->Prop) (E:Value->Shared->Prop),tn i s.heap->Q (.ref it) s->wpAny (model P w) A (pyIter (.ref it)) Q E s
abbrev TI:=St->Hp->(It->Hp->Prop)->Prop
def PIE(X:Cx)(pins:List (Addr×Obj))(Z:St)(tg:Expr)(R:It->Hp->Prop)(itv:Value)(s2:Shared):Prop :=
 ∃(it:Addr) (fp:List Addr) (tn:Nat->Heap->Prop) (J:It) (H':Hp),itv=.ref it/\Inv X pins Z H' s2/\O5 X.prog X.w X.K tg J fp it tn/\tn 0 s2.heap/\(∀b∈fp,Kf X pins H' b)/\R J H'
def PI(X:Cx)(tg iter:Expr)(wi:TI):Prop :=
 ∀(pins:List (Addr×Obj)) (s:Shared) (Z:St) (H:Hp) (R:It->Hp->Prop),Inv X pins Z H s->wi Z H R ->
  wpAny (model X.prog X.w) X.A (eval iter X.env) (λv s1=>wpAny (model X.prog X.w) X.A (pyIter v) (PIE X pins Z tg R) X.xe s1) X.xe s
theorem Vg{it:Addr}{o:Obj}{n:String}{vs:Array Value}{Q:Unit->Shared->Prop}(ho:s.heap.get? it=some o)(hc:o.cls=.type n)(hd:o.data=.fields vs)
  (hn:["enumerate", "zip", "dict_itemiterator", "dict_reverseitemiterator", "odict_iterator", "itertools.zip_longest", "itertools.pairwise"].contains n=false) (hQ:Q () s):wpAny M A (letOwnedTupleGo tg (.ref it) u) Q E s:=by
 unfold letOwnedTupleGo;cases tg<;>first
  |exact GB hQ
  | (cases u<;>first
    |exact GB hQ
    | (refine GA (wpAny_load ho ?_)
       rw[hc,hd]
       show wpAny M A (if (["enumerate", "zip", "dict_itemiterator", "dict_reverseitemiterator", "odict_iterator", "itertools.zip_longest", "itertools.pairwise"].contains n&&vs[0]? == some (rawInt _))=true then _ else _) Q E s
       rw[FY (by intro h;rw[hn,Bool.false_and] at h;cases h)]
       exact GB hQ))
noncomputable def Itl(K:Zzw)(a:Addr):It :=
 ⟨λi H=>∃xs x,SqL K H a xs/\xs[i]?=some x,λi H x H'=>H'=H/\∀xs,SqL K H a xs->xs[i]?=some x,λi H=>∃xs,SqL K H a xs/\xs.length<=i⟩
noncomputable def Itt(K:Zzw)(a:Addr):It :=
 ⟨λi H=>∃xs x,SqT K H a xs/\xs[i]?=some x,λi H x H'=>H'=H/\∀xs,SqT K H a xs->xs[i]?=some x,λi H=>∃xs,SqT K H a xs/\xs.length<=i⟩
noncomputable def Itr(lo:Int)(n:Nat):It:=⟨λi _=>i<n,λi H x H'=>H'=H/\x=.int (lo+i),λi _=>n<=i⟩
theorem Hv(a it:Addr):O5 P w K tg (Itl K a) [it] it (λi h=>h.IsListIter it a i) where
 mem:=by simp
 obj:=λi h st b hb=>by
  have e:b=it:=by simpa using hb
  subst e;obtain⟨o,e,c,d⟩:=st;exact⟨o,e,λv z=>by rw[d] at z;cases z⟩
 keep:=λi h h' st k=>st.at λo e=>k it (by simp) o e;item:=by
  intro X hP hw hK hc i pins s Z H E I hf st hg;subst hP hw hK;obtain⟨xs,x,hq,hx⟩:=hg;obtain⟨its,rv,p,hz⟩:=I.list hq;obtain⟨u,hu,ru⟩:=rv.get hx;obtain⟨f0,f1,f2,f3,f4,f5⟩:=hf it (by simp);refine wpAny_pyNext_list_item st p.isList (x:=u) (by simpa using hu) λh' st' sb=>?_;have I1:Inv X pins Z H {s with heap:=h'}:=I.turned (t':=s.toks) (λb o hb e=>(sb.2 b hb).trans e) f0 f1 f3 f4 f5;obtain⟨o,e,c,d⟩:=id st';exact⟨u,rfl,Vg (s:={s with heap:=h'}) e c d (by decide) ⟨x,H,I1,ru,⟨rfl,λys hy=>by rw[I.list_inj hy hq];exact hx⟩,st',λb hb=>(hf b hb).1⟩⟩
 done:=by
  intro X hP hw hK hc i pins s Z H E I hf st hg;subst hP hw hK;obtain⟨xs,hq,hx⟩:=hg;obtain⟨its,rv,p,hz⟩:=I.list hq;obtain⟨f0,f1,f2,f3,f4,f5⟩:=hf it (by simp);have hl:=rv.length;exact wpAny_pyNext_list_end (I.ok.hd hc) st p.isList (by simp;lia) λh' eb=>⟨rfl,I.turned (t':=s.toks) (λb o hb e=>eb b o hb e) f0 f1 f3 f4 f5⟩
 self:=λ_ _ _ _ _ st h=>wpAny_pyIter_listiter st h
theorem Fu(a it:Addr):O5 P w K tg (Itt K a) [it] it (λi h=>h.IsTupleIter it a i) where
 mem:=by simp
 obj:=λi h st b hb=>by
  have e:b=it:=by simpa using hb
  subst e;obtain⟨o,e,c,d⟩:=st;exact⟨o,e,λv z=>by rw[d] at z;cases z⟩
 keep:=λi h h' st k=>st.at λo e=>k it (by simp) o e;item:=by
  intro X hP hw hK hc i pins s Z H E I hf st hg;subst hP hw hK;obtain⟨xs,x,hq,hx⟩:=hg;obtain⟨its,rv,p,hz⟩:=I.tuple hq;obtain⟨u,hu,ru⟩:=rv.get hx;obtain⟨f0,f1,f2,f3,f4,f5⟩:=hf it (by simp);refine wpAny_pyNext_tuple_item st (show s.heap.IsTuple a its.toArray from p) (x:=u) (by simpa using hu) λh' st' sb=>?_;have I1:Inv X pins Z H {s with heap:=h'}:=I.turned (t':=s.toks) (λb o hb e=>(sb.2 b hb).trans e) f0 f1 f3 f4 f5;obtain⟨o,e,c,d⟩:=id st';exact⟨u,rfl,Vg (s:={s with heap:=h'}) e c d (by decide) ⟨x,H,I1,ru,⟨rfl,λys hy=>by rw[I.tuple_inj hy hq];exact hx⟩,st',λb hb=>(hf b hb).1⟩⟩
 done:=by
  intro X hP hw hK hc i pins s Z H E I hf st hg;subst hP hw hK;obtain⟨xs,hq,hx⟩:=hg;obtain⟨its,rv,p,hz⟩:=I.tuple hq;obtain⟨f0,f1,f2,f3,f4,f5⟩:=hf it (by simp);have hl:=rv.length;exact wpAny_pyNext_tuple_end (I.ok.hd hc) st (show s.heap.IsTuple a its.toArray from p) (by simp;lia) λh' eb=>⟨rfl,I.turned (t':=s.toks) (λb o hb e=>eb b o hb e) f0 f1 f3 f4 f5⟩
 self:=λ_ _ _ _ _ st h=>wpAny_pyIter_tupleiter st h
theorem ar(it:Addr)(lo:Int)(n:Nat):O5 P w K tg (Itr lo n) [it] it (λi h=>IsRangeIter h it (lo+(i:Nat)*1) ((n:Int) - (i:Nat)) 1) where
 mem:=by simp
 obj:=λi h st b hb=>by
  have e:b=it:=by simpa using hb
  subst e;exact⟨_,st,λv z=>by
   have z':Data.fields _=Data.cell v:=z
   cases z'⟩
 keep:=λi h h' st k=>k it (by simp) _ st;item:=by
  intro X hP hw hK hc i pins s Z H E I hf st hg;subst hP hw hK;obtain⟨f0,f1,f2,f3,f4,f5⟩:=hf it (by simp);have W:=Walks.range (prog:=X.prog) (w:=X.w) (I.ok.hd hc) it lo 1 n;refine W.item i s _ _ hg st λv h' tk hv st' kk=>?_;obtain⟨t,rfl⟩:=hv;have I1:Inv X pins Z H {s with heap:=h',toks:=tk}:=I.turned (λb o hb e=>kk b o (by simpa using hb) e) f0 f1 f3 f4 f5;refine⟨_,rfl,Vg (s:={s with heap:=h',toks:=tk}) (n := "range_iterator") st' rfl rfl (by decide) ⟨.int (lo+i),H,I1,⟨t,?_⟩,⟨rfl,rfl⟩,st',λb hb=>(hf b hb).1⟩⟩;rw[Int.mul_one]
 done:=by
  intro X hP hw hK hc i pins s Z H E I hf st hg;subst hP hw hK;obtain⟨f0,f1,f2,f3,f4,f5⟩:=hf it (by simp);exact wpAny_pyNext_range_end (I.ok.hd hc) st (by have:n<=i:=hg;lia) λh' eb=>⟨rfl,I.turned (t':=s.toks) (λb o hb e=>eb b o hb e) f0 f1 f3 f4 f5⟩
 self:=λ_ _ _ _ _ st h=>wpAny_pyIter_rangeiter st h
theorem Z2{R:It->Hp->Prop}{lo hi:Int}{t u v:Tok}{tk:Nat}(I:Inv X pins Z H s)(h1:-(2^62)<=lo)(h2:lo<2^62)(h3:-(2^62)<=hi)(h4:hi<2^62)
  (q:R (Itr lo (hi - lo).toNat) H):wpAny (model X.prog X.w) X.A (pyIter (.ref s.heap.objs.size)) (PIE X pins Z tg R) E {s with heap:=s.heap.push {cls:=.type "range",data:=.fields #[.int lo t,.int hi u,.int 1 v]},toks:=tk}:=by
 refine wpAny_pyIter_range (IsRange.new ..) (small_one h1 h2 h3 h4) ?_;have I1:Inv X pins Z H {s with heap:=s.heap.push {cls:=.type "range",data:=.fields #[.int lo t,.int hi u,.int 1 v]},toks:=tk}:=I.kept λb o e=>Zzx _ e;refine⟨(s.heap.push {cls:=.type "range",data:=.fields #[.int lo t,.int hi u,.int 1 v]}).objs.size,[(s.heap.push {cls:=.type "range",data:=.fields #[.int lo t,.int hi u,.int 1 v]}).objs.size],_,_,H,rfl,
  I1.kept (t':=tk) λb o e=>Zzx _ e,ar _ lo (hi - lo).toNat,?_,λb hb=>?_,q⟩
 ·have e1:lo+((0:Nat):Int)*1=lo:=by simp
  have e2:(((hi - lo).toNat:Nat):Int) - ((0:Nat):Int)=Builtin.Range.rangeSize lo hi 1:=by rw[rangeSize_one];split<;>lia
  show IsRangeIter _ _ (lo+((0:Nat):Int)*1) ((((hi - lo).toNat:Nat):Int) - ((0:Nat):Int)) 1;rw[e1,e2];exact Zzj _ rfl
 ·have e:b=(s.heap.push {cls:=.type "range",data:=.fields #[.int lo t,.int hi u,.int 1 v]}).objs.size:=by simpa using hb
  subst e;exact I1.fpOk (Zzq _) (I1.hok.fresh (Zzq _))
def Ve(ta:TA):TI:=λZ H R=>ta Z H λvs H1=>∃j:Int,vs=[.int j]/\-(2^62)<=j/\j<2^62/\R (Itr 0 j.toNat) H1
def Vd(ta:TA):TI:=λZ H R=>ta Z H λvs H1=>∃i j:Int,vs=[.int i,.int j]/\(-(2^62)<=i/\i<2^62/\-(2^62)<=j/\j<2^62)/\R (Itr i (j - i).toNat) H1
theorem jo{a:Expr}{ta:TA}{p:Pos}(hg:Gl X "range")(hm:X.mg "range" = none)(ha:PA X [a] ta)(hs:starEach [a] X.env=[(false,eval a X.env)]:=by rfl):PI X tg (.Call (.Name "range" p) [a] [] pos) (Ve ta):=by
 intro pins s Z H R I h;refine Call_ (Er I hg hm boot_range (Zyb (thn (ha pos pins s Z H _ I h) λus s1 ⟨vs,H1,I1,r1,q1⟩=>?_) hs rfl));obtain⟨j,e,q1,q2,q⟩:=q1;subst e;cases r1 with
 |cons r rr =>
  cases rr;obtain⟨t,rfl⟩:=r;exact call_range_1 (Z2 I1 (by lia) (by lia) q1 q2 (by simpa using q))
theorem jn{a b:Expr}{ta:TA}{p:Pos}(hg:Gl X "range")(hm:X.mg "range" = none)(ha:PA X [a,b] ta)(hs:starEach [a,b] X.env=[(false,eval a X.env),(false,eval b X.env)]:=by rfl)(hs2:starEach [b] X.env=[(false,eval b X.env)]:=by rfl) :
  PI X tg (.Call (.Name "range" p) [a,b] [] pos) (Vd ta):=by
 intro pins s Z H R I h;refine Call_ (Er I hg hm boot_range (Zyb (thn (ha pos pins s Z H _ I h) λus s1 ⟨vs,H1,I1,r1,q1⟩=>?_) (by rw[hs,hs2]) (by rw[hs2];rfl)));obtain⟨i,j,e,⟨q1,q2,q3,q4⟩,q⟩:=q1;subst e;cases r1 with
 |cons r rr =>
  cases rr with
  |cons r' rr =>
   cases rr;obtain⟨t,rfl⟩:=r;obtain⟨t',rfl⟩:=r';exact call_range_2 (Z2 I1 q1 q2 q3 q4 q)
def A22(wi:TI)(g:TG)(tb:TS):TS:=λD Z H=>wi Z H λJ H1=>∃W:Nat->Nat->St->Hp->Prop,(∃m,W 0 m Z H1)/\∀i m Z H,W i m Z H ->
 (J.stop i H/\D.nx Z H)\/(J.go i H/\∃N:St->Hp->Prop,(∀Z' H',N Z' H'->∃m',m'<m/\W (i+1) m' Z' H')/\∀x H',J.yld i H x H'->g x Z H' λσ2 H2=>tb {D with nx:=N,ct:=N,bk:=D.nx} σ2 H2)
noncomputable def Oe(fp:List Addr)(h:Heap):List (Addr×Obj):=fp.filterMap λb=>(h.get? b).map λo=>(b,o)
theorem Js{o:Obj}(hb:b∈fp)(e:h.get? b=some o):(b,o)∈Oe fp h:=Zw2.mpr ⟨b,hb,by rw[e];rfl⟩
theorem k7{p:Addr×Obj}(hp:p∈Oe fp h):p.1∈fp/\h.get? p.1=some p.2:=by
 obtain⟨b,hb,e⟩:=Zw2.mp hp;cases q:h.get? b with
 |none=>rw[q] at e;cases e
 |some o =>
  rw[q] at e;have e':(b,o)=p:=Zzh e;subst e';exact⟨hb,q⟩
theorem Inv.pinned(I:Inv X pins Z H s)(hf:∀b∈fp,Kf X pins H b)(ho:∀b∈fp,∃o,s.heap.get? b=some o/\∀v,o.data≠.cell v):Inv X (pins++Oe fp s.heap) Z H s :=
 I.pins_of λp hp=>(Zz4.mp hp).elim (λz=>I.pin p (Zyu _ z)) λz=>by
  obtain⟨hb,e⟩:=k7 z;obtain⟨f0,f1,f2,_⟩:=hf p.1 hb;obtain⟨o,e',d⟩:=ho p.1 hb;rw[e] at e';cases e';exact⟨e,f0,f1,f2,d⟩
theorem Inv.unpinned{pl:List (Addr×Obj)}(I:Inv X (pins++pl) Z H s):Inv X pins Z H s:=I.pins_of λp hp=>I.pin p (Zyu _ (Zx9 _ hp))
theorem Bk{iter:Expr}{wi:TI}{g:TG}{tb:TS}(hp:PassesOwn (model X.prog X.w) X.A X.env X.xe)(hc:X.calm=true)(hi:PI X tg iter wi)(hg:PG X tg g)(hb:PSs X body tb)
  (hs:∀x,foldedSetIterable iter X.env x=pure x:=by intro _;rfl):PS X (.For tg iter body [] pos) (A22 wi g tb):=by
 intro pins s Z H D I h;refine wpAny_For (thn (hi pins s Z H _ I h) λv s1 h1=>thn h1 λitv s2 h2=>?_) hs;obtain⟨it,fp,tn,J,H2,e,I2,T,st2,f2,W,⟨m0,w0⟩,turn⟩:=h2;subst e;have stat:∀{H':Hp},(∀b∈fp,H' b=none)->∀b∈fp,Kf X pins H' b:=λhn b hb=>⟨hn b hb,(f2 b hb).2⟩;refine codeAny_forLoop_any (λn s'=>∃i Z' H',Inv X pins Z' H' s'/\tn i s'.heap/\(∀b∈fp,H' b=none)/\W i n Z' H') ?_ m0 ⟨0,Z,H2,I2,st2,λb hb=>(f2 b hb).1,w0⟩;rintro n s3 ⟨i,σ3,H3,I3,st3,fr3,w3⟩;rcases turn i n σ3 H3 w3 with ⟨stop,qn⟩ | ⟨go,N,hN,step⟩
 ·refine wpAny_passesOwn hp (thn (T.done X rfl rfl rfl hc i pins s3 σ3 H3 X.xe I3 (stat fr3) st3 stop) λr s4 z0=>?_);obtain⟨hr,I4⟩:=z0;subst hr;exact wpAny_execs_nil ⟨σ3,H3,I4,qn⟩
 ·refine wpAny_passesOwn hp (thn (T.item X rfl rfl rfl hc i pins s3 σ3 H3 X.xe I3 (stat fr3) st3 go) λr s4 z0=>?_);obtain⟨u,hr,h4⟩:=z0;subst hr;refine wpAny_passesOwn hp (thn h4 λ_ s5 z0=>?_);obtain⟨x,H5,I5,r5,y5,st5,fr5⟩:=z0;have I5':=I5.pinned (stat fr5) (T.obj _ _ st5);refine wpAny_passesOwn hp (thn (hg _ s5 σ3 H5 x u _ I5' r5 (step x H5 y5)) λ_ s6 z0=>?_);obtain⟨σ6,H6,I6,q6⟩:=z0;refine wpAny_passesOwn hp (thn (hb _ s6 σ6 H6 _ I6 q6) λf s7 q7=>?_);have again:∀{σ7:St} {H7:Hp},Inv X (pins++Oe fp s5.heap) σ7 H7 s7->N σ7 H7->∃m,m<n/\∃i Z' H',Inv X pins Z' H' s7/\tn i s7.heap/\(∀b∈fp,H' b=none)/\W i m Z' H':=λ{σ7 H7} I7 n7=>by
   obtain⟨m',hm,w7⟩:=hN σ7 H7 n7;refine⟨m',hm,i+1,σ7,H7,I7.unpinned,T.keep _ _ _ st5 λb hb o e=>(I7.pin (b,o) (Zyu _ (Zyu _ (Js hb e)))).1,λb hb=>?_,w7⟩;obtain⟨o,e,d⟩:=T.obj _ _ st5 b hb;exact(I7.pin (b,o) (Zyu _ (Zyu _ (Js hb e)))).2.1
  cases f with
  |next=>obtain⟨σ7,H7,I7,n7⟩:=q7;exact again I7 n7
  |cont=>obtain⟨σ7,H7,I7,n7⟩:=q7;exact again I7 n7
  |brk=>obtain⟨σ7,H7,I7,q7⟩:=q7;exact⟨σ7,H7,I7.unpinned,q7⟩
  |ret v=>obtain⟨x7,σ7,H7,I7,r7,q7⟩:=q7;exact⟨x7,σ7,H7,I7.unpinned,r7,q7⟩
abbrev R2:=V->V->Hp->VK->Prop
def OpR(X:Cx)(f:Value->Value->Sem Value)(r:R2):Prop :=
 ∀(pins:List (Addr×Obj)) (s:Shared) (Z:St) (H:Hp) (x y:V) (v u:Value) (Q:VK),Inv X pins Z H s->AD x v->AD y u->r x y H Q ->
  wpAny (model X.prog X.w) X.A (f v u) (EP X pins Z Q) X.xe s
def UnR(X:Cx)(f:Value->Sem Value)(r:V->Hp->VK->Prop):Prop :=
 ∀(pins:List (Addr×Obj)) (s:Shared) (Z:St) (H:Hp) (x:V) (v:Value) (Q:VK),Inv X pins Z H s->AD x v->r x H Q ->
  wpAny (model X.prog X.w) X.A (f v) (EP X pins Z Q) X.xe s
def AK(X:Cx)(f:Value)(r:List V->Hp->VK->Prop):Prop :=
 ∀(pins:List (Addr×Obj)) (s:Shared) (Z:St) (H:Hp) (xs:List V) (us:List Value) (Q:VK),Inv X pins Z H s->AC xs us->r xs H Q ->
  wpAny (model X.prog X.w) X.A (call f us) (EP X pins Z Q) X.xe s
def TruR(X:Cx)(r:V->Hp->(Bool->Hp->Prop)->Prop):Prop :=
 ∀(pins:List (Addr×Obj)) (s:Shared) (Z:St) (H:Hp) (x:V) (v:Value) (Q:Bool->Hp->Prop),Inv X pins Z H s->AD x v->r x H Q ->
  wpAny (model X.prog X.w) X.A (truthy v) (TP X pins Z Q) X.xe s
def tOp(r:R2)(ta tb:TE):TE:=λZ H Q=>ta Z H λx H1=>tb Z H1 λy H2=>r x y H2 Q
def tUn(r:V->Hp->VK->Prop)(ta:TE):TE:=λZ H Q=>ta Z H λx H1=>r x H1 Q
def rI(C:Int->Int->Prop)(g:Int->Int->V):R2:=λx y H Q=>∃i j,x=.int i/\y=.int j/\C i j/\Q (g i j) H
def rI0(g:Int->Int->V):R2:=λx y H Q=>∃i j,x=.int i/\y=.int j/\Q (g i j) H
def rU(g:Int->V):V->Hp->VK->Prop:=λx H Q=>∃i,x=.int i/\Q (g i) H
section
variable {a b c:Expr}{tb tc:TE}
theorem A1l(ha:PE X a ta)(hb:PE X b tb){R:V->V->Hp->Prop}(I:Inv X pins Z H s)
  (h:ta Z H λx H1=>tb Z H1 λy H2=>R x y H2) {Q:Value->Shared->Prop} {f:Value->Value->Sem Value}
  (hf:∀v u s2 x y H2,Inv X pins Z H2 s2->AD x v->AD y u->R x y H2->wpAny (model X.prog X.w) X.A (f v u) Q X.xe s2) :
  wpAny (model X.prog X.w) X.A (eval a X.env) (λv s₁=>wpAny (model X.prog X.w) X.A (eval b X.env) (λu s₂=>wpAny (model X.prog X.w) X.A (f v u) Q X.xe s₂) X.xe s₁) X.xe s:=by
 refine thn (ha pins s Z H _ I h) λv s1 z0=>?_;obtain⟨x,H1,I1,r1,q1⟩:=z0;refine thn (hb pins s1 Z H1 _ I1 q1) λu s2 z0=>?_;obtain⟨y,H2,I2,r2,q2⟩:=z0;exact hf v u s2 x y H2 I2 r1 r2 q2
theorem At{op:Operator}{r:R2}(ho:OpR X (binaryOp op) r)(ha:PE X a ta)(hb:PE X b tb):PE X (.BinOp a op b pos) (tOp r ta tb):=by
 intro pins s Z H Q I h;exact wpAny_BinOp (A1l ha hb I h λv u s2 x y H2 I2 rx ry q=>ho pins s2 Z H2 x y v u Q I2 rx ry q)
theorem V3{op:UnaryOp}{r:V->Hp->VK->Prop}(ho:UnR X (unaryOp op) r)(ha:PE X a ta):PE X (.UnaryOp op a pos) (tUn r ta):=by
 intro pins s Z H Q I h;exact UnaryOp_ (thn (ha pins s Z H _ I h) λv s1 z0=>by obtain⟨x,H1,I1,r1,q1⟩:=z0;exact ho pins s1 Z H1 x v Q I1 r1 q1)
theorem opI{f:Value->Value->Sem Value}{C:Int->Int->Prop}{g:Int->Int->Int}
  (rule:∀(i j:Int) (t u:Tok) (s:Shared) (Q:Value->Shared->Prop) (E:Value->Shared->Prop),C i j->Q (.int (g i j) s.toks) {s with toks:=s.toks+1}->wpAny (model X.prog X.w) X.A (f (.int i t) (.int j u)) Q E s) :
  OpR X f (rI C λi j=>.int (g i j)):=by
 intro pins s Z H x y v u Q I rx ry h;obtain⟨i,j,rfl,rfl,hc,q⟩:=h;obtain⟨t,rfl⟩:=rx;obtain⟨t',rfl⟩:=ry;exact rule i j t t' s _ _ hc ⟨.int (g i j),H,I.tok _,⟨_,rfl⟩,q⟩
theorem A11{f:Value->Value->Sem Value}{g:Int->Int->Int}
  (rule:∀(i j:Int) (t u:Tok) (s:Shared) (Q:Value->Shared->Prop) (E:Value->Shared->Prop),Q (.int (g i j) s.toks) {s with toks:=s.toks+1}->wpAny (model X.prog X.w) X.A (f (.int i t) (.int j u)) Q E s) :
  OpR X f (rI0 λi j=>.int (g i j)):=by
 intro pins s Z H x y v u Q I rx ry h;obtain⟨i,j,rfl,rfl,q⟩:=h;obtain⟨t,rfl⟩:=rx;obtain⟨t',rfl⟩:=ry;exact rule i j t t' s _ _ ⟨.int (g i j),H,I.tok _,⟨_,rfl⟩,q⟩
theorem ye{f:Value->Value->Sem Value}{g:Int->Int->Bool}
  (rule:∀(i j:Int) (t u:Tok) (s:Shared) (Q:Value->Shared->Prop) (E:Value->Shared->Prop),Q (.bool (g i j)) s->wpAny (model X.prog X.w) X.A (f (.int i t) (.int j u)) Q E s) :
  OpR X f (rI0 λi j=>.bl (g i j)):=by
 intro pins s Z H x y v u Q I rx ry h;obtain⟨i,j,rfl,rfl,q⟩:=h;obtain⟨t,rfl⟩:=rx;obtain⟨t',rfl⟩:=ry;exact rule i j t t' s _ _ ⟨.bl (g i j),H,I,rfl,q⟩
def CPow(i j:Int):Prop:=0<=j/\j<=1000000/\i.natAbs<2^64
def EI(i j:Int):Prop:=(-(2^64)<i/\i<2^64)\/(-(2^64)<j/\j<2^64)
theorem EI.ok{i j:Int}(h:EI i j):IntMulOk i j:=by
 rcases h with ⟨h1,h2⟩ | ⟨h1,h2⟩
 ·exact .of_left (intBits_le_64 h1 h2)
 ·exact .of_right (intBits_le_64 h1 h2)
theorem C7:OpR X (binaryOp .Add) (rI0 λi j=>.int (i+j)):=A11 λ_ _ _ _ _ _ _ q=>add_int q
theorem S7:OpR X (binaryOp .Sub) (rI0 λi j=>.int (i - j)):=A11 λ_ _ _ _ _ _ _ q=>sub_int q
theorem Kw:OpR X (binaryOp .Mod) (rI (λ_ j=>0<j) λi j=>.int (i % j)):=opI λi j _ _ _ _ _ hc q=>by
 have h1:(0:Int)<j:=hc;exact mod_int' (by lia) (by rw[Int.fmod_eq_emod_of_nonneg i (by lia)];exact q)
theorem rh:OpR X (binaryOp .Pow) (rI CPow λi j=>.int (i^j.toNat)):=opI λ_ _ _ _ _ _ _ hc q=>pow_int_small hc.1 hc.2.1 hc.2.2 q
theorem yz:OpR X (inplaceOp .Add) (rI0 λi j=>.int (i+j)):=A11 λ_ _ _ _ _ _ _ q=>iadd_int q
theorem unI{f:Value->Sem Value}{g:Int->Int}
  (rule:∀(i:Int) (t:Tok) (s:Shared) (Q:Value->Shared->Prop) (E:Value->Shared->Prop),Q (.int (g i) s.toks) {s with toks:=s.toks+1}->wpAny (model X.prog X.w) X.A (f (.int i t)) Q E s) :
  UnR X f (rU λi=>.int (g i)):=by
 intro pins s Z H x v Q I rx h;obtain⟨i,rfl,q⟩:=h;obtain⟨t,rfl⟩:=rx;exact rule i t s _ _ ⟨.int (g i),H,I.tok _,⟨_,rfl⟩,q⟩
theorem O9:UnR X (unaryOp .USub) (rU λi=>.int (-i)):=unI λ_ _ _ _ _ q=>neg_int q
end
noncomputable def A23:V->V->Bool
 |.non,.non=>true | .non,.int _=>true | .int _,.non=>true | .non,.bl _=>true | .bl _,.non=>true | .non,.str _=>true | .str _,.non=>true
 |.int _,.int _=>true | .bl _,.bl _=>true | .str _,.str _=>true | .byt _,.byt _=>true
 |.int _,.str _=>true | .str _,.int _=>true | .bl _,.str _=>true | .str _,.bl _=>true
 |_,_=>false
def rEq:R2:=λx y H Q=>A23 x y=true/\Q (.bl (decide (x=y))) H
def rNe:R2:=λx y H Q=>A23 x y=true/\Q (.bl (!decide (x=y))) H
theorem io{i j:Int}:decide (V.int i=V.int j)=(i == j):=by
 rw[Zur];simp
theorem vh{i j:Bool}:decide (V.bl i=V.bl j)=(i == j):=by
 rw[Zur];simp
theorem im{i j:Str}:decide (V.str i=V.str j)=(i == j):=by
 rw[Zur];simp
theorem ip{i j:Array UInt8}:decide (V.byt i=V.byt j)=(i.toList == j.toList):=by
 rw[Zur];cases i;cases j;simp
section
variable {a b c:Expr}{tb tc:TE}
theorem Bu{Q:VK}{k k':Bool}(I:Inv X pins Z H s)(q:Q (.bl k) H)(e:k=k'):EP X pins Z Q (.bool k') s:=by
 subst e;exact⟨.bl k,H,I,rfl,q⟩
theorem A2b:OpR X (compareOp .Eq) rEq:=by
 intro pins s Z H x y v u Q I rx ry h;obtain⟨hs,q⟩:=h;cases x with
 |non =>
  cases rx;cases y with
  |non=>cases ry;exact PySem.EqNone.eq_none_none (Bu I q (by simp))
  |bl j=>cases ry;exact PySem.EqNone.eq_none_bool (Bu I q (by simp))
  |int j=>obtain⟨t',rfl⟩:=ry;exact PySem.EqNone.eq_none_int (Bu I q (by simp))
  |str j=>obtain⟨t',rfl⟩:=ry;exact PySem.EqNone.eq_none_str (Bu I q (by simp))
  |_=>exact absurd (show false=true from hs) Zz8
 |bl i =>
  cases rx;cases y with
  |non=>cases ry;exact PySem.EqNone.eq_bool_none (Bu I q (by simp))
  |bl j=>cases ry;exact eq_bool (Bu I q vh)
  |str j=>obtain⟨t',rfl⟩:=ry;exact PySem.EqMixed.eq_bool_str (Bu I q (by simp))
  |_=>exact absurd (show false=true from hs) Zz8
 |int i =>
  obtain⟨t,rfl⟩:=rx;cases y with
  |non=>cases ry;exact PySem.EqNone.eq_int_none (Bu I q (by simp))
  |int j=>obtain⟨t',rfl⟩:=ry;exact eq_int (Bu I q io)
  |str j=>obtain⟨t',rfl⟩:=ry;exact PySem.EqMixed.eq_int_str (Bu I q (by simp))
  |_=>exact absurd (show false=true from hs) Zz8
 |str i =>
  obtain⟨t,rfl⟩:=rx;cases y with
  |non=>cases ry;exact PySem.EqNone.eq_str_none (Bu I q (by simp))
  |bl j=>cases ry;exact PySem.EqMixed.eq_str_bool (Bu I q (by simp))
  |int j=>obtain⟨t',rfl⟩:=ry;exact PySem.EqMixed.eq_str_int (Bu I q (by simp))
  |str j=>obtain⟨t',rfl⟩:=ry;exact eq_str (Bu I q im)
  |_=>exact absurd (show false=true from hs) Zz8
 |byt i =>
  obtain⟨t,rfl⟩:=rx;cases y with
  |byt j=>obtain⟨t',rfl⟩:=ry;exact PySem.W.eq_bytes (Bu I q ip)
  |_=>exact absurd (show false=true from hs) Zz8
 |_=>cases y<;>exact absurd (show false=true from hs) Zz8
theorem A29:OpR X (compareOp .NotEq) rNe:=by
 intro pins s Z H x y v u Q I rx ry h;obtain⟨hs,q⟩:=h;cases x with
 |non =>
  cases rx;cases y with
  |non=>cases ry;exact PySem.EqNone.ne_none_none (Bu I q (by simp))
  |bl j=>cases ry;exact PySem.EqNone.ne_none_bool (Bu I q (by simp))
  |int j=>obtain⟨t',rfl⟩:=ry;exact PySem.EqNone.ne_none_int (Bu I q (by simp))
  |str j=>obtain⟨t',rfl⟩:=ry;exact PySem.EqNone.ne_none_str (Bu I q (by simp))
  |_=>exact absurd (show false=true from hs) Zz8
 |bl i =>
  cases rx;cases y with
  |non=>cases ry;exact PySem.EqNone.ne_bool_none (Bu I q (by simp))
  |bl j=>cases ry;exact ne_bool (Bu I q (congrArg not vh))
  |str j=>obtain⟨t',rfl⟩:=ry;exact PySem.EqMixed.ne_bool_str (Bu I q (by simp))
  |_=>exact absurd (show false=true from hs) Zz8
 |int i =>
  obtain⟨t,rfl⟩:=rx;cases y with
  |non=>cases ry;exact PySem.EqNone.ne_int_none (Bu I q (by simp))
  |int j=>obtain⟨t',rfl⟩:=ry;exact ne_int (Bu I q (congrArg not io))
  |str j=>obtain⟨t',rfl⟩:=ry;exact PySem.EqMixed.ne_int_str (Bu I q (by simp))
  |_=>exact absurd (show false=true from hs) Zz8
 |str i =>
  obtain⟨t,rfl⟩:=rx;cases y with
  |non=>cases ry;exact PySem.EqNone.ne_str_none (Bu I q (by simp))
  |bl j=>cases ry;exact PySem.EqMixed.ne_str_bool (Bu I q (by simp))
  |int j=>obtain⟨t',rfl⟩:=ry;exact PySem.EqMixed.ne_str_int (Bu I q (by simp))
  |str j=>obtain⟨t',rfl⟩:=ry;exact ne_str (Bu I q (congrArg not im))
  |_=>exact absurd (show false=true from hs) Zz8
 |byt i =>
  obtain⟨t,rfl⟩:=rx;cases y with
  |byt j=>obtain⟨t',rfl⟩:=ry;exact PySem.W.ne_bytes (Bu I q (congrArg not ip))
  |_=>exact absurd (show false=true from hs) Zz8
 |_=>cases y<;>exact absurd (show false=true from hs) Zz8
theorem A2a:OpR X (compareOp .Lt) (rI0 λi j=>.bl (decide (i<j))):=ye λ_ _ _ _ _ _ _ q=>lt_int q
theorem S8:OpR X (compareOp .LtE) (rI0 λi j=>.bl (decide (i<=j))):=ye λ_ _ _ _ _ _ _ q=>le_int q
theorem S9:OpR X (compareOp .Gt) (rI0 λi j=>.bl (decide (j<i))):=ye λ_ _ _ _ _ _ _ q=>gt_int q
theorem gq:OpR X (compareOp .GtE) (rI0 λi j=>.bl (decide (j<=i))):=ye λ_ _ _ _ _ _ _ q=>ge_int q
theorem jt:OpR X (compareOp .In) (λx y H Q=>∃i j,x=.str i/\y=.str j/\Q (.bl (!(Zv7 j i 0 j.length 1).isEmpty)) H):=by
 intro pins s Z H x y v u Q I rx ry h;obtain⟨i,j,rfl,rfl,q⟩:=h;obtain⟨t,rfl⟩:=rx;obtain⟨t',rfl⟩:=ry;exact in_str (Bu I q rfl)
theorem A10:OpR X (compareOp .Is) (λx y H Q=>y=.non/\Q (.bl (decide (x=.non))) H):=by
 intro pins s Z H x y v u Q I rx ry h;obtain⟨rfl,q⟩:=h;cases ry;refine is_none_gen (Bu I q ?_);cases x<;>first
  | (cases rx;rfl)
  | (obtain⟨t,rfl⟩:=rx;rfl)
theorem yb:OpR X (compareOp .IsNot) (λx y H Q=>y=.non/\Q (.bl (!decide (x=.non))) H):=by
 intro pins s Z H x y v u Q I rx ry h;obtain⟨rfl,q⟩:=h;cases ry;refine isnot_none_gen (Bu I q ?_);cases x<;>first
  | (cases rx;rfl)
  | (obtain⟨t,rfl⟩:=rx;rfl)
theorem OpR.or{f:Value->Value->Sem Value}{r r':R2}(h:OpR X f r)(h':OpR X f r'):OpR X f (λx y H Q=>r x y H Q\/r' x y H Q):=by
 intro pins s Z H x y v u Q I rx ry q;rcases q with q | q
 ·exact h pins s Z H x y v u Q I rx ry q
 ·exact h' pins s Z H x y v u Q I rx ry q
theorem Aj(b:Expr){op:CmpOp}(h:op≠.In:=by decide)(h2:op≠.NotIn:=by decide):behindInMarks op b=false:=by
 have e1:(op == CmpOp.In)=false:=by cases op<;>first | rfl | exact absurd rfl h
 have e2:(op == CmpOp.NotIn)=false:=by cases op<;>first | rfl | exact absurd rfl h2
 cases b<;>simp[behindInMarks,e1,e2]
theorem Dj{op:CmpOp}{r:R2}(ho:OpR X (compareOp op) r)(ha:PE X a ta)(hb:PE X b tb)(hm:behindInMarks op b=false):PE X (.Compare a [op] [b] pos) (tOp r ta tb):=by
 intro pins s Z H Q I h;exact wpAny_Compare1 (A1l ha hb I h λv u s2 x y H2 I2 rx ry q=>ho pins s2 Z H2 x y v u Q I2 rx ry q) hm
def Uh(t:TE):TT:=λZ H Q=>t Z H λx H'=>∃k,x=.bl k/\Q k H'
theorem Ah{op:CmpOp}{r:R2}(ho:OpR X (compareOp op) r)(ha:PE X a ta)(hb:PE X b tb)(hm:behindInMarks op b=false):PT X (.Compare a [op] [b] pos) (Uh (tOp r ta tb)):=by
 intro pins s Z H Q I h;refine wpAny_isTrue_Compare1 (thn (ha pins s Z H _ I h) λv s1 ⟨x,H1,I1,r1,q1⟩=>thn (hb pins s1 Z H1 _ I1 q1) λu s2 ⟨y,H2,I2,r2,q2⟩ =>
  thn (ho pins s2 Z H2 x y v u _ I2 r1 r2 q2) λc s3 ⟨z,H3,I3,r3,k,e,q3⟩=>?_) hm
 subst e;cases r3;exact wpAny_truthy_bool ⟨H3,I3,q3⟩
def Oc(r r':R2)(ta tb tc:TE):TE:=λZ H Q=>ta Z H λx H1=>tb Z H1 λy H2=>r x y H2 λz H3=>∃k,z=.bl k /\
 (if k=true then tc Z H3 λw' H4=>r' y w' H4 Q else Q (.bl false) H3)
theorem qz{op op':CmpOp}{r r':R2}(ho:OpR X (compareOp op) r)(ho':OpR X (compareOp op') r')(ha:PE X a ta)(hb:PE X b tb)(hc:PE X c tc)
  (hm:lastMarks [op,op'] [b,c]=false:=by with_unfolding_all rfl):PE X (.Compare a [op,op'] [b,c] pos) (Oc r r' ta tb tc):=by
 intro pins s Z H Q I h;refine Compare_chain (thn (ha pins s Z H _ I h) λv s1 ⟨x,H1,I1,r1,q1⟩=>chain_link (thn (hb pins s1 Z H1 _ I1 q1) λu s2 ⟨y,H2,I2,r2,q2⟩ =>
  thn (ho pins s2 Z H2 x y v u _ I2 r1 r2 q2) λd s3 ⟨z,H3,I3,r3,k,e,q3⟩=>?_)) hm
 subst e;cases r3;refine wpAny_truthy_bool ?_;cases k with
 |false=>exact ite_ff ⟨.bl false,H3,I3,rfl,q3⟩
 |true=>exact ite_tt (chain_last (thn (hc pins s3 Z H3 _ I3 q3) λw' s4 z0=>by obtain⟨z',H4,I4,r4,q4⟩:=z0;exact ho' pins s4 Z H4 y z' u w' Q I4 r2 r4 q4))
theorem S0{op op':CmpOp}{r r':R2}(ho:OpR X (compareOp op) r)(ho':OpR X (compareOp op') r')(ha:PE X a ta)(hb:PE X b tb)(hc:PE X c tc)
  (hm:lastMarks [op,op'] [b,c]=false:=by with_unfolding_all rfl):PT X (.Compare a [op,op'] [b,c] pos) (Uh (Oc r r' ta tb tc)):=by
 intro pins s Z H Q I h;refine isTrue_chain (thn (ha pins s Z H _ I h) λv s1 ⟨x,H1,I1,r1,q1⟩=>test_link (thn (hb pins s1 Z H1 _ I1 q1) λu s2 ⟨y,H2,I2,r2,q2⟩ =>
  thn (ho pins s2 Z H2 x y v u _ I2 r1 r2 q2) λd s3 ⟨z,H3,I3,r3,k,e,q3⟩=>?_)) hm
 subst e;cases r3;refine wpAny_truthy_bool ?_;cases k with
 |false =>
  obtain⟨k',e',q'⟩:=q3;cases e';exact ite_ff ⟨H3,I3,q'⟩
 |true =>
  refine ite_tt (test_last (thn (hc pins s3 Z H3 _ I3 q3) λw' s4 ⟨z',H4,I4,r4,q4⟩=>thn (ho' pins s4 Z H4 y z' u w' _ I4 r2 r4 q4) λd' s5 z0=>?_));obtain⟨z2,H5,I5,r5,k2,e2,q5⟩:=z0;subst e2;cases r5;exact wpAny_truthy_bool ⟨H5,I5,q5⟩
def TruV(K:Zzw)(x:V)(H:Hp)(k:Bool):Prop :=
 match x with
 |.non=>k=false
 |.bl b=>k=b
 |.int i=>k=(i != 0)
 |.str y=>y.length<=sizeLine/\k=((y.length:Int) != 0)
 |.byt y=>y.size<=sizeLine/\k=((y.size:Int) != 0)
 |.ref p=>(∃xs,SqL K H p xs/\k=!xs.isEmpty)\/(∃xs,SqT K H p xs/\k=!xs.isEmpty)\/∃kvs,H p=some (.dK kvs)/\k=!kvs.isEmpty
 |_=>False
theorem cz{κ:Type}{kvs:List (κ×V)}{vs:List (κ×Value)}(r:KV kvs vs):(!vs.isEmpty)=!kvs.isEmpty:=by
 cases r<;>rfl
theorem Sx{xs:List V}(r:AC xs its):(!its.toArray.isEmpty)=!xs.isEmpty:=by
 cases r<;>simp
theorem L3:(sizeLine:Nat)<2^63:=by rw[sizeLine_eq];decide
theorem ni:TruR X (λx H Q=>∃k,TruV X.K x H k/\Q k H):=by
 intro pins s Z H x v Q I rx h;obtain⟨k,e,q⟩:=h;have hl:=L3;have hs:sizeLine=16777216:=sizeLine_eq;cases x with
 |non =>
  cases rx;have e':k=false:=e;subst e';exact truthy_none ⟨H,I,q⟩
 |bl b =>
  cases rx;have e':k=b:=e;subst e';exact wpAny_truthy_bool ⟨H,I,q⟩
 |int i =>
  obtain⟨t,rfl⟩:=rx;have e':k=(i != 0):=e;subst e';exact PySem.P.truthy_int ⟨H,I,q⟩
 |str y =>
  obtain⟨t,rfl⟩:=rx;obtain⟨hy,e'⟩:y.length<=sizeLine/\k=((y.length:Int) != 0):=e;subst e';exact PySem.P.truthy_str (by lia) ⟨H,I.tok _,q⟩
 |byt y =>
  obtain⟨t,rfl⟩:=rx;obtain⟨hy,e'⟩:y.size<=sizeLine/\k=((y.size:Int) != 0):=e;subst e';exact PySem.W.truthy_bytes (by lia) ⟨H,I.tok _,q⟩
 |ref p =>
  cases rx;have e':(∃xs,SqL X.K H p xs/\k=!xs.isEmpty)\/(∃xs,SqT X.K H p xs/\k=!xs.isEmpty)\/∃kvs,H p=some (.dK kvs)/\k=!kvs.isEmpty:=e;rcases e' with ⟨xs,hx,e'⟩ | ⟨xs,hx,e'⟩ | ⟨kvs,hx,e'⟩
  ·subst e';obtain⟨its,r,pl,hz⟩:=I.list hx;have hlen:=r.length;exact wpAny_truthy_list pl.isList (by simp only[Zzn];lia) ⟨H,I.tok _,by rw[Sx r];exact q⟩
  ·subst e';obtain⟨its,r,pl,hz⟩:=I.tuple hx;have hlen:=r.length;exact truthy_tuple pl (by simp only[Zzn];lia) ⟨H,I.tok _,by rw[Sx r];exact q⟩
  ·subst e';obtain⟨hz,hS,vs,r,m⟩:kvs.length<=sizeLine/\(p == sysModules)=false/\∃vs,KV kvs vs/\s.heap.DictOf (Bm X.prog X.w) p vs:=I.hok p _ hx;have hlen:kvs.length=vs.length:=Paired.length r;exact wpAny_truthy_dict hS m (by lia) ⟨H,I.tok _,by rw[cz r];exact q⟩
 |_=>exact(show False from e).elim
theorem Sa:OpR X (binaryOp .Add) (λx y H Q=>∃i j,x=.str i/\y=.str j/\i.length+j.length<=sizeLine/\Q (.str (i++j)) H):=by
 intro pins s Z H x y v u Q I rx ry h;obtain⟨i,j,rfl,rfl,hz,q⟩:=h;obtain⟨t,rfl⟩:=rx;obtain⟨t',rfl⟩:=ry;exact add_str (λt' tk=>⟨.str (i++j),H,I.tok _,⟨_,rfl⟩,q⟩) hz
theorem Fc{x:V}(r:AC [x] us):∃u,us=[u]/\AD x u:=by
 cases r with
 |cons r1 r2=>cases r2;exact⟨_,rfl,r1⟩
theorem R5{x y:V}(r:AC [x,y] us):∃u w',us=[u,w']/\AD x u/\AD y w':=by
 cases r with
 |cons r1 r2 =>
  cases r2 with
  |cons r3 r4=>cases r4;exact⟨_,_,rfl,r1,r3⟩
theorem mh(hc:X.calm=true):AK X (.builtin "max") (λxs H Q=>∃i j,xs=[.int i,.int j]/\Q (.int (if j > i then j else i)) H):=by
 intro pins s Z H xs us Q I r h;obtain⟨i,j,rfl,q⟩:=h;obtain⟨u,w',rfl,⟨t,rfl⟩,⟨t',rfl⟩⟩:=R5 r;refine max_two_ints (I.ok.hd hc) λh' tk k=>⟨_,H,I.kept k,?_,q⟩;by_cases hj:j > i
 ·rw[FZ hj,FZ hj];exact⟨_,rfl⟩
 ·rw[FY hj,FY hj];exact⟨_,rfl⟩
theorem mf(hc:X.calm=true):AK X (.builtin "min") (λxs H Q=>∃i j,xs=[.int i,.int j]/\Q (.int (if j<i then j else i)) H):=by
 intro pins s Z H xs us Q I r h;obtain⟨i,j,rfl,q⟩:=h;obtain⟨u,w',rfl,⟨t,rfl⟩,⟨t',rfl⟩⟩:=R5 r;refine min_two_ints (I.ok.hd hc) λh' tk k=>⟨_,H,I.kept k,?_,q⟩;by_cases hj:j<i
 ·rw[FZ hj,FZ hj];exact⟨_,rfl⟩
 ·rw[FY hj,FY hj];exact⟨_,rfl⟩
theorem Ov:AK X (.type "int") (λxs H Q=>(∃i,xs=[.int i]/\Q (.int i) H)\/∃k,xs=[.bl k]/\Q (.int (if k then 1 else 0)) H):=by
 intro pins s Z H xs us Q I r h;rcases h with ⟨i,rfl,q⟩ | ⟨k,rfl,q⟩
 ·obtain⟨u,rfl,t,rfl⟩:=Fc r;exact call_int_int ⟨.int i,H,I,⟨_,rfl⟩,q⟩
 ·obtain⟨u,rfl,r1⟩:=Fc r;cases r1;exact call_int_bool ⟨.int (if k then 1 else 0),H,I.tok _,⟨_,rfl⟩,q⟩
end
structure DS(h:Heap)(x dx C:Addr)(mA:Str->Option Value):Prop where
 obj:h.get? x=some (Zwv C dx)
 ns:h.Ns1 dx mA
 ne:dx≠x
theorem kl(n:h.Ns1 dx mA):∃od,h.get? dx=some od/\∀name,Zub name od=some (mA name):=by
 obtain⟨o,es,ep,ho,hd,hk,_,hm⟩:=n;refine⟨o,ho,λname=>?_⟩;have e:=hm name;unfold nsFind findBy at e;rw[<- Array.find?_toList] at e;unfold Zub;rw[hd];dsimp only;split
 ·rename_i y q;rw[q] at e;exact congrArg some e
 ·rename_i q;rw[q] at e;have a:es.toList.any (·.refKey)=false:=by
   rw[List.any_eq_false];intro y hy;obtain⟨z,t,hkey⟩:=hk y (Array.mem_toList_iff.mp hy);simp[DictEntry.refKey,hkey]
  have a':¬ es.toList.any (·.refKey)=true:=by rw[a];exact Zz8
  rw[FY a'];exact congrArg some e
theorem DS.look{x C:Addr}(I:DS h x dx C mA):∃od,PySem.W.InstAt h x (Zwv C dx) C (some od)/\∀name,Zub name od=some (mA name) :=
 let ⟨od,ho,hl⟩:=kl I.ns
 ⟨od,⟨I.obj,rfl,rfl,ho⟩,hl⟩
section
variable {x C:Addr}{v:Value}
theorem zb{expr:Bool}(X:K.In s.heap)(I:DS s.heap x dx C mA)(hg:Zvr K C name=true)(hh:Zv5 K C=true)
  (ha:Zy0 K (.ref C) name=some none) (hv:mA name=some v) (hv':PySem.W.handedIn v=true) (h:Q v {s with toks:=s.toks+1}) :
  wpAny (model prog w) A (getAttr (.ref x) name expr) Q E s:=by
 obtain⟨od,J,hl⟩:=I.look;exact PySem.W.get_value X J (Zue hg).1 (PySem.W.findObj_own hh ha rfl (by rw[hl,hv])) hv' h
theorem v7{Q:Value×List Value->Shared->Prop}(X:K.In s.heap)(I:DS s.heap x dx C mA)(hg:Zvr K C name=true)
  (hf:Zy0 K (.ref C) name=some (some (.ref f))) (ht:Zuq K (.ref f)=true) (hv:mA name=none) (h:Q (.ref f,[.ref x]) s) :
  wpAny (model prog w) A (getMethod (.ref x) name pl) Q E s:=by
 obtain⟨od,J,hl⟩:=I.look;exact PySem.W.method_fn X J (Zue hg).1 (Zue hg).2 hf (beq_iff_eq.mp ht) (by show (Zub name od).map (·.isSome)=some false;rw[hl,hv];rfl) h
theorem xh{ns:List Str}{Q:Unit->Shared->Prop}(X:K.In s.heap)(I:DS s.heap x dx C mA)
  (hs:Zy0 K (.ref C) "__setattr__" = some (some (.builtin "object.__setattr__"))) (hp:PySem.W.plainOver K C=true) (ht:PySem.W.takerIn K C name=some none) (hh:Zv5 K C=true)
  (hw:PySem.Within mA ns) (hsz:ns.length<=sizeLine)
  (h:∀h',DS h' x dx C (λy=>if y=name then some v else mA y)->Zy7 dx s.heap h'->Q () {s with heap:=h',toks:=s.toks+2}) :
  wpAny (model prog w) A (setAttr (.ref x) name v) Q E s:=by
 obtain⟨od,J,hl⟩:=I.look;refine PySem.W.set_plain X J hs (PySem.W.osa_open (s:={s with toks:=s.toks+1}) (r:=none) X J hp ht λb=>?_);obtain⟨cd,hc,hd'⟩:=PySem.W.any_some hh;have hx:s.heap.get? x=some ⟨.ref C,some dx,.plain,#[]⟩:=I.obj;refine GA (GB (GA (GA (wpAny_loadPart hx (GA (PySem.W.Looks.here (s:={s with toks:=s.toks+1}) (PySem.W.looks_clsIn X hc) ?_))))));rw[hd'];refine GB (a:=some dx) (GA (GB (GA ?_)));refine wpAny_nsSet1 (s:={s with toks:=s.toks+1}) I.ns λh' hn2 hs2=>?_;obtain⟨oD,esD,epD,hoD,hdD,hcD⟩:=hn2.count (PySem.Within.cons name v hw);refine GA (wpAny_lookBehind hoD (by rw[hdD];exact pastItsLine_dict (Zzd hcD (by rw[Zys];lia))) ?_);exact GB (h _ ⟨(hs2.2 _ (Zzi I.ne)).trans I.obj,hn2,I.ne⟩ hs2)
theorem su{vs:List Value}(X:K.In s.heap)(hm:PySem.W.makesIn K C=true)
  (hi:Zy0 K (.ref C) "__init__" = some (some (.ref f))) (hf:PySem.W.typeIn K (.ref f)=some (.type "function"))
  (h:codeAny (model prog w) (A.under (.builtin "type.__call__" ⟨.ref C::vs,kw⟩)) (.call (.ref f) ⟨.ref (s.heap.objs.size+1)::vs,kw⟩) (PySem.W.InitBack (s.heap.objs.size+1) R)
   {s with heap:=(s.heap.push Zxg).push (Zwv C s.heap.objs.size)}) :
  codeAny (model prog w) A (.call (.ref C) ⟨vs,kw⟩) R s:=by
 obtain⟨hh,g,d,t,os⟩:=s;exact PySem.W.make_core (PySem.W.makes_of X hm) (PySem.W.looks_findIn X hi) (λself=>PySem.W.bind_fn X self hf) (.inl rfl) h
end
noncomputable def Ku(f:Str)(v:V):List (Str×V)->List (Str×V)
 |[]=>[(f,v)]
 | (g,x)::r=>if g=f then (g,v)::r else (g,x)::Ku f v r
theorem Px(f g:Str)(v:V):∀fs:List (Str×V),(Ku f v fs).lookup g=if g=f then some v else fs.lookup g
 |[]=>by
  show Zxb g [(f,v)]=_;by_cases h:g=f
  ·have hb:(g == f)=true:=beq_iff_eq.mpr h
   simp only[Zxb,hb,FZ h]
  ·have hb:(g == f)=false:=beq_eq_false_iff_ne.mpr h
   simp only[Zxb,hb,FY h]
 | (k,x)::r=>by
  have ih:=Px f g v r;rw[show Ku f v ((k,x)::r)=(if k=f then (k,v)::r else (k,x)::Ku f v r) from rfl];by_cases hk:k=f
  ·rw[FZ hk];by_cases h:g=k
   ·have hb:(g == k)=true:=beq_iff_eq.mpr h
    simp only[Zxb,hb,FZ (h.trans hk)]
   ·have hb:(g == k)=false:=beq_eq_false_iff_ne.mpr h
    simp only[Zxb,hb,FY (λe:g=f=>h (e.trans hk.symm))]
  ·rw[FY hk];by_cases h:g=k
   ·have hb:(g == k)=true:=beq_iff_eq.mpr h
    simp only[Zxb,hb,FY (λe:g=f=>hk (h.symm.trans e))]
   ·have hb:(g == k)=false:=beq_eq_false_iff_ne.mpr h
    simp only[Zxb,hb];exact ih
theorem Om(f:Str)(v:V):∀fs:List (Str×V),f∈(Ku f v fs).map (·.1)/\∀g,g∈fs.map (·.1)->g∈(Ku f v fs).map (·.1)
 |[]=>⟨by simp[Ku],λg h=>by simp at h⟩
 | (k,x)::r=>by
  obtain⟨i1,i2⟩:=Om f v r;rw[show Ku f v ((k,x)::r)=(if k=f then (k,v)::r else (k,x)::Ku f v r) from rfl];by_cases hk:k=f
  ·rw[FZ hk];subst hk;exact⟨by simp,λg h=>by simpa using h⟩
  ·rw[FY hk];refine⟨?_,λg h=>?_⟩
   ·rw[Zza];exact Zzl _ i1
   ·rw[Zza] at h ⊢;rcases Zzs.mp h with e | e
    ·exact Zzs.mpr (.inl e)
    ·exact Zzl _ (i2 g e)
theorem Py(f:Str)(v:V):∀fs:List (Str×V),(Ku f v fs).length<=fs.length+1
 |[]=>by simp[Ku]
 | (k,x)::r=>by
  have ih:=Py f v r;rw[show Ku f v ((k,x)::r)=(if k=f then (k,v)::r else (k,x)::Ku f v r) from rfl];by_cases hk:k=f
  ·rw[FZ hk,Zys,Zys];lia
  ·rw[FY hk,Zys,Zys];lia
theorem AZ.some_of{o:Option Value}(r:AZ (some v) o):∃u,o=some u/\AD v u:=by
 cases o with
 |none=>exact(show False from r).elim
 |some u=>exact⟨u,rfl,r⟩
theorem AZ.none_of{o:Option Value}(r:AZ none o):o=none:=by
 cases o with
 |none=>rfl
 |some u=>exact(show False from r).elim
theorem l9(r:AD v u):PySem.W.handedIn u=true:=by
 cases v with
 |non=>cases (show u=Value.none from r);rfl
 |bl b=>cases (show u=Value.bool b from r);rfl
 |int i=>obtain⟨t,e⟩:=(show ∃t,u=Value.int i t from r);cases e;rfl
 |str x=>obtain⟨t,e⟩:=(show ∃t,u=Value.str x t from r);cases e;rfl
 |byt b=>obtain⟨t,e⟩:=(show ∃t,u=Value.bytes b t from r);cases e;rfl
 |flt b=>obtain⟨t,e⟩:=(show ∃t,u=Value.float b t from r);cases e;rfl
 |ref a=>cases (show u=Value.ref a from r);rfl
 |ty n=>cases (show u=Value.type n from r);rfl
section
variable {C:Addr}{fs fs':List (Str×V)}
theorem Qo(hok:HOk P w H h)(e:H a=some (.ins C dx fs)):∃mA,DS h a dx C mA/\(∀f,AZ (fs.lookup f) (mA f))/\PySem.Within mA (fs.map (·.1))/\fs.length<=1000/\H dx=some (.own a):=by
 obtain⟨d,z,ne,ob,mA,n,r,q⟩:=(show AJ P w H h a (.ins C dx fs) from hok a _ e);exact⟨mA,⟨ob,n,ne⟩,r,q,z,d⟩
end
structure Cls(K:Zzw)(C:Addr):Prop where
 pg:Zvr K C Str.empty=true
 hd:Zv5 K C=true
 po:PySem.W.plainOver K C=true
 sa:Zy0 K (.ref C) "__setattr__" = some (some (.builtin "object.__setattr__"))
theorem Cls.get{C:Addr}(c:Cls K C)(f:Str):Zvr K C f=true:=c.pg
def BX(K:Zzw)(C:Addr)(f:Str):Prop:=Zy0 K (.ref C) f=some none
theorem BX.taker{C:Addr}{f:Str}(n:BX K C f):PySem.W.takerIn K C f=some none:=by
 unfold PySem.W.takerIn;rw[show Zy0 K (.ref C) f=some none from n];rfl
structure zz(K:Zzw)(C:Addr)(m:Str)(f:Addr):Prop where
 at_:Zy0 K (.ref C) m=some (some (.ref f))
 fn:Zuq K (.ref f)=true
 kp:Zx0 K (.ref f)=true
section
variable {C:Addr}{fs:List (Str×V)}{f:Str}
theorem d7{b:Bool}(I:Inv X pins Z H s)(e:H a=some (.ins C dx fs))(c:Cls X.K C)(n:BX X.K C f)(l:fs.lookup f=some v)
  (h:∀u s',Inv X pins Z H s'->AD v u->Q u s'):wpAny (model X.prog X.w) A (getAttr (.ref a) f b) Q E s:=by
 obtain⟨mA,O,r,_,_,_⟩:=Qo I.hok e;obtain⟨u,hu,ru⟩:=AZ.some_of (v:=v) (o:=mA f) (by rw[<- l];exact r f);exact zb I.kIn O (c.get f) c.hd n hu (l9 ru) (h u _ (I.tok _) ru)
theorem d6{m:Str}{g:Addr}{Q:Value×List Value->Shared->Prop}(I:Inv X pins Z H s)(e:H a=some (.ins C dx fs))(c:Cls X.K C)(k:zz X.K C m g)(l:fs.lookup m=none)
  (h:Q (.ref g,[.ref a]) s):wpAny (model X.prog X.w) A (getMethod (.ref a) m pl) Q E s:=by
 obtain⟨mA,O,r,_,_,_⟩:=Qo I.hok e;have hn:mA m=none:=AZ.none_of (by rw[<- l];exact r m);exact v7 I.kIn O (c.get m) k.at_ k.fn hn h
theorem be{y:V}{Q:Unit->Shared->Prop}(I:Inv X pins Z H s)(e:H a=some (.ins C dx fs))(c:Cls X.K C)(n:BX X.K C f)(hl:fs.length<1000)(ry:AD y u)
  (h:∀s',Inv X pins Z (upd H a (.ins C dx (Ku f y fs))) s'->Q () s'):wpAny (model X.prog X.w) A (setAttr (.ref a) f u) Q E s:=by
 obtain⟨mA,O,r,wi,_,ho⟩:=Qo I.hok e;have hz:(fs.map (·.1)).length<=sizeLine:=by rw[Zzz,sizeLine_eq];lia
 refine xh I.kIn O c.sa c.po n.taker c.hd wi hz λh' O' sb=>h _ ?_;have hd:∃o,h'.get? dx=some o:=by obtain⟨o,_,_,e',_⟩:=O'.ns;exact⟨o,e'⟩
 refine I.write (x:=a) (e:=dx) (by rw[e];exact True.intro) (.inr ho) (λb q hb z=>(sb.2 b hb).trans z) hd ?_;refine⟨by rw[Ab O.ne];exact ho,?_,O.ne,O'.obj,_,O'.ns,λg=>?_,λg hg=>?_⟩
 ·have:=Py f y fs;lia
 ·show AZ ((Ku f y fs).lookup g) (if g=f then some u else mA g)
  rw[Px];by_cases q:g=f
  ·rw[FZ q,FZ q];exact ry
  ·rw[FY q,FY q];exact r g
 ·by_cases q:g=f
  ·rw[q];exact(Om f y fs).1
  ·refine(Om f y fs).2 g (wi g λz=>hg ?_);show (if g=f then some u else mA g)=none;rw[FY q];exact z
theorem Inv.made(I:Inv X pins Z H s):Inv X pins Z (upd (upd H s.heap.objs.size (.own (s.heap.objs.size+1))) (s.heap.objs.size+1) (.ins C s.heap.objs.size []))
  {s with heap:=(s.heap.push Zxg).push (Zwv C s.heap.objs.size)}:=by
 have e1:(s.heap.push Zxg).get? s.heap.objs.size=some Zxg:=Zzj s.heap rfl;have e2:((s.heap.push Zxg).push (Zwv C s.heap.objs.size)).get? (s.heap.objs.size+1)=some (Zwv C s.heap.objs.size):=by
  have:=Zzj (s.heap.push Zxg) (o:=Zwv C s.heap.objs.size) rfl;rwa [Zye] at this
 have e3:(s.heap.push Zxg).Ns s.heap.objs.size (λ_=>none):=⟨Zxg,#[],_,e1,rfl,(λe he=>absurd he (by simp)),λ_=>rfl⟩;have I1:=I.laid (a:=s.heap.objs.size) (o:=.own (s.heap.objs.size+1)) (h':=s.heap.push Zxg) (t':=s.toks) (λb u q=>Zzx _ q) (Zzq _) ⟨_,e1⟩;refine I1.laid (a:=s.heap.objs.size+1) (o:=.ins C s.heap.objs.size []) (t':=s.toks) (λb u q=>Zzx _ q) (Zwo (Zye _ _)) ?_;have ne:s.heap.objs.size≠s.heap.objs.size+1:=Zz2 (Nat.lt_succ_self _);refine⟨by rw[Ab ne,A0],Zyz _,ne,e2,λ_=>none,(Heap.Ns1.of_empty e3).at λo q=>Zzx _ q,λ_=>True.intro,λy hy=>absurd rfl hy⟩
theorem zn{f:Str}(hb:attributeBase e f env (eval e env)=eval e env)
  (h:wpAny (model prog w) A (eval e env) (λo s₁=>wpAny (model prog w) A (getAttr o f true) Q E s₁) E s):wpAny (model prog w) A (eval (.Attribute e f pos) env) Q E s :=
 Attribute_any_ h (by rw[arm_eval_Attribute,hb])
end
def oq(K:Zzw)(ta:TE)(f:Str):TE:=λZ H Q=>ta Z H λx H1=>∃a C dx fs v,x=.ref a/\H1 a=some (.ins C dx fs)/\Cls K C/\BX K C f/\fs.lookup f=some v/\Q v H1
def qd(K:Zzw)(ta tv:TE)(f:Str):TS:=λD Z H=>tv Z H λy H1=>ta Z H1 λx H2=>∃a C dx fs,x=.ref a/\H2 a=some (.ins C dx fs)/\Cls K C/\BX K C f/\fs.length<1000 /\
 D.nx Z (upd H2 a (.ins C dx (Ku f y fs)))
section
variable {o value:Expr}{f:Str}{pos' tpos:Pos}{tv:TE}
theorem qy(he:PE X e ta)(hb:attributeBase e f X.env (eval e X.env)=eval e X.env):PE X (.Attribute e f pos) (oq X.K ta f):=by
 intro pins s Z H Q I h;refine zn hb (thn (he pins s Z H _ I h) λu s1 z0=>?_);obtain⟨x,H1,I1,rx,a,C,dx,fs,v,ex,ea,c,n,l,q⟩:=z0;subst ex;obtain rfl:u=Value.ref a:=rx;exact d7 I1 ea c n l λu' s2 I2 ru=>⟨v,H1,I2,ru,q⟩
theorem qt(ha:PE X o ta)(hv:PE X value tv)(hs:swapsWith value (some (.Attribute o f pos')) pos.line X.env=pure false):PS X (.Assign [.Attribute o f pos'] value pos) (qd X.K ta tv f):=by
 intro pins s Z H D I h;refine plainObj_wpAny_Assign_Attribute (thn (hv pins s Z H _ I h) λu s1 ⟨y,H1,I1,ry,q⟩=>thn (ha pins s1 Z H1 _ I1 q) λov s2 ⟨x,H2,I2,rx,a,C,dx,fs,ex,ea,c,n,l,q2⟩=>?_) hs;subst ex;obtain rfl:ov=Value.ref a:=rx;exact be I2 ea c n l ry λs3 I3=>⟨Z,_,I3,q2⟩
end
section
variable {c:Value}{b:Bool}
inductive Oz (K:Zzw) (H:Hp):V->Value->Prop where
 |non:Oz K H .non (.type "NoneType")
 |bl (x:Bool):Oz K H (.bl x) (.type "bool")
 |int (i:Int):Oz K H (.int i) (.type "int")
 |str (x:Str):Oz K H (.str x) (.type "str")
 |flt (x:UInt64):Oz K H (.flt x) (.type "float")
 |lst {a:Addr} {xs:List V} (e:H a=some (.lst xs)):Oz K H (.ref a) (.type "list")
 |frz {a:Addr} {o:Obj} {xs:List V} (e:H a=some (.frz o (.lst xs))):Oz K H (.ref a) (.type "list")
 |tup {a:Addr} {xs:List V} (e:H a=some (.tup xs)):Oz K H (.ref a) (.type "tuple")
 |dK {a:Addr} {kvs:List (Key×V)} (e:H a=some (.dK kvs)):Oz K H (.ref a) (.type "dict")
 |dT {a:Addr} {kvs:List (List Key×V)} (e:H a=some (.dT kvs)):Oz K H (.ref a) (.type "dict")
 |ins {a C dx:Addr} {fs:List (Str×V)} (e:H a=some (.ins C dx fs)) (cl:Cls K C) (ha:Zy0 K (.ref C) "__class__" = some (some (.builtin "object.__class__")))
   (hn:PySem.W.specialIn K (.builtin "object.__class__") "__get__" = some (some (.builtin "getset_descriptor.__get__"))) (htk:PySem.W.takesIn K (.builtin "object.__class__")=some true)
   (hm:PySem.W.mroIn K C (.type "object")=some true):Oz K H (.ref a) (.ref C)
theorem kt{x:V}{t:Value}(I:Inv X pins Z H s)(rx:AD x u)(ty:Oz X.K H x t)(e:PySem.W.kitOne X.K t c=some b)(h:∀tk,Q (.bool b) {s with toks:=tk}) :
  wpAny (model X.prog X.w) A (call (.builtin "isinstance") [u,c]) Q E s:=by
 cases ty with
 |non=>cases (show u=Value.none from rx);exact Zxl PySem.W.kitx_none I.kIn True.intro e (λz=>nomatch z) h
 |bl y=>cases (show u=Value.bool y from rx);exact Zxl PySem.W.kitx_bool I.kIn True.intro e (λz=>nomatch z) h
 |int i=>obtain⟨t,q⟩:=(show ∃t,u=Value.int i t from rx);cases q;exact Zxl PySem.W.kitx_int I.kIn True.intro e (λz=>nomatch z) h
 |str y=>obtain⟨t,q⟩:=(show ∃t,u=Value.str y t from rx);cases q;exact Zxl PySem.W.kitx_str I.kIn True.intro e (λz=>nomatch z) h
 |flt y=>obtain⟨t,q⟩:=(show ∃t,u=Value.float y t from rx);cases q;exact Zxl PySem.W.kitx_float I.kIn True.intro e (λz=>nomatch z) h
 |@lst a xs ea =>
  cases (show u=Value.ref a from rx);obtain⟨_,_,n,_,h1⟩:=(show AJ X.prog X.w H s.heap a (.lst xs) from I.hok a _ ea);exact Zxl PySem.W.kitx_list I.kIn ⟨_,h1,rfl⟩ e (λz=>nomatch z) h
 |@frz a ob xs ea =>
  cases (show u=Value.ref a from rx);obtain⟨_,_,_,n,_,h1⟩:=(show AJ X.prog X.w H s.heap a (.frz ob (.lst xs)) from I.hok a _ ea);exact Zxl PySem.W.kitx_list I.kIn ⟨_,h1,rfl⟩ e (λz=>nomatch z) h
 |@tup a xs ea =>
  cases (show u=Value.ref a from rx);obtain⟨_,_,_,p⟩:=(show AJ X.prog X.w H s.heap a (.tup xs) from I.hok a _ ea);obtain⟨o,h1,h2,_⟩:=p;exact Zxl PySem.W.kitx_tuple I.kIn ⟨o,h1,h2⟩ e (λz=>nomatch z) h
 |@dK a kvs ea =>
  cases (show u=Value.ref a from rx);obtain⟨_,_,vs,_,p⟩:=(show AJ X.prog X.w H s.heap a (.dK kvs) from I.hok a _ ea);obtain⟨o,es,ep,h1,h2,_⟩:=p;exact Zxl PySem.W.kitx_dict I.kIn ⟨o,h1,h2.1⟩ e (λz=>nomatch z) h
 |@dT a kvs ea =>
  cases (show u=Value.ref a from rx);obtain⟨_,_,xs,_,o,es,ep,h1,h2,_⟩:=(show AJ X.prog X.w H s.heap a (.dT kvs) from I.hok a _ ea);exact Zxl PySem.W.kitx_dict I.kIn ⟨o,h1,h2.1⟩ e (λz=>nomatch z) h
 |@ins a C dx fs ea cl ha hn htk hm =>
  cases (show u=Value.ref a from rx);obtain⟨mA,O,_⟩:=Qo I.hok ea;obtain⟨od,J,_⟩:=O.look;exact Zxl (PySem.W.kitx_own (cl.get _) cl.hd ha hn htk hm) I.kIn J e (λz=>nomatch z) h
end
structure AM(k:Nat)(A:Around):Prop where
 hd:A.handled=none
 dp:A.depth+3*k+5<recursionLimit
 un:A.units+16*k+200<cLine
theorem AM.mono{k:Nat}(r:AM k A)(h:j<=k):AM j A:=⟨r.hd,by have:=r.dp;lia,by have:=r.un;lia⟩
theorem AM.deeper{k:Nat}(r:AM (k+1) A)(env:Env):AM k (A.deeper env) :=
 ⟨r.hd,by have:=r.dp;show A.depth+1+3*k+5<_;lia,by have:=r.un;show A.units+3+16*k+200<_;lia⟩
theorem cu{C:Addr}:(A.under (.builtin "type.__call__" ⟨.ref C::us,kw⟩)).depth=A.depth+1:=by
 first | rfl | simp[Around.under,Code.weight,Code.isCreation,Code.isGuard,Code.isCaller,Code.frames,Code.isFrame,guardIds]
theorem cq{C:Addr}:(A.under (.builtin "type.__call__" ⟨.ref C::us,kw⟩)).units=A.units+1:=by
 first | rfl | simp[Around.under,Code.cUnits,Code.frames,Code.isFrame]
theorem AM.make{k:Nat}(r:AM (k+1) A)(C:Addr)(us:List Value)(kw:List (Str×Value)):AM k (A.under (.builtin "type.__call__" ⟨.ref C::us,kw⟩)) :=
 ⟨r.hd,by have:=r.dp;rw[cu];lia,by have:=r.un;rw[cq];lia⟩
theorem AM.depth{k:Nat}(r:AM k A):A.depth<recursionLimit:=by have:=r.dp;lia
theorem AM.units{k:Nat}(r:AM k A):A.units+64<cLine:=by have:=r.un;lia
def ER:TA:=λ_ H Q=>Q [] H
def Uk(ta:TE)(tr:TA):TA:=λZ H Q=>ta Z H λx H1=>tr Z H1 λxs H2=>Q (x::xs) H2
theorem A1:PA X [] ER:=λ_ _ _ _ H Q I h=>Zv4 ⟨[],H,I,.nil,h⟩
theorem ya(ha:PE X e te)(hr:PA X es t)(hs:starEach (e::es) X.env=(false,eval e X.env)::starEach es X.env:=by rfl):PA X (e::es) (Uk te t):=by
 intro pos pins s Z H Q I h;rw[hs];show wpAny _ _ (spliced ((false,eval e X.env)::backTo pos (starEach es X.env))) _ _ s;refine Zvf (thn (ha pins s Z H _ I h) λu s1 z0=>?_);obtain⟨x,H1,I1,r1,q1⟩:=z0;exact thn (hr pos pins s1 Z H1 _ I1 q1) λus s2 ⟨xs,H2,I2,r2,q2⟩=>⟨x::xs,H2,I2,.cons r1 r2,q2⟩
def nv(t:TA):TE:=λZ H Q=>t Z H λxs H1=>xs.length<=sizeLine/\∀p,H1 p=none->Q (.ref p) (upd H1 p (.tup xs))
def om(t:TA):TE:=λZ H Q=>t Z H λxs H1=>xs.length<=sizeLine/\∀p,H1 p=none->Q (.ref p) (upd H1 p (.lst xs))
theorem Cz{x1}(h:PA X es t):PE X (.Tuple es x1 pos) (nv t):=by
 intro pins s Z H Q I hq;refine wpAny_Tuple_spliced (thn (h pos pins s Z H _ I hq) λus s1 ⟨xs,H1,I1,r,z,q⟩=>⟨by rw[<- r.length];exact z,?_⟩);have hf:H1 s1.heap.objs.size=none:=I1.hok.fresh (Zzq _);refine⟨.ref s1.heap.objs.size,upd H1 s1.heap.objs.size (.tup xs),I1.laid (t':=s1.toks) (λb u e=>Zzx _ e) (Zzq _) ?_,rfl,q _ hf⟩;exact⟨z,us,r,⟨_,Zzj _ rfl,rfl,_,rfl⟩⟩
theorem Bh(h:PA X es t):PE X (.List es pos) (om t):=by
 intro pins s Z H Q I hq;refine wpAny_List_spliced (thn (h pos pins s Z H _ I hq) λus s1 ⟨xs,H1,I1,r,z,q⟩=>⟨by rw[<- r.length];exact z,?_⟩);have hf:H1 s1.heap.objs.size=none:=I1.hok.fresh (Zzq _);refine⟨.ref s1.heap.objs.size,upd H1 s1.heap.objs.size (.lst xs),I1.laid (t':=s1.toks) (λb u e=>Zzx _ e) (Zzq _) ?_,rfl,q _ hf⟩;exact⟨z,us,0,r,Zzj _ rfl⟩
abbrev Sp:=List V->Hp->VK->XK->Prop
abbrev CXT:=List Env->Hp->Shared->XK->Value->Shared->Prop
variable {CX:CXT}
structure DT(P:Program)(w:World)(K:Zzw)(mg:Str->Option Value)(base:Heap)(A:Around)(outer:List Env)(s:Shared)(H:Hp):Prop where
 frames:A.frames=some outer
 mod:Mod K mg base
 bs:∀b o,base.get? b=some o->s.heap.get? b=some o/\H b=none
 bsz:base.objs.size<=s.heap.objs.size
 funs:s.heap.FunFrames base outer
 frf:∀b∈frs outer,H b=none
 hok:HOk P w H s.heap
 bare:AllBare s.gens
def CE(outer:List Env)(P:Program)(w:World)(H:Hp)(s:Shared)(Q:VK)(u:Value)(s':Shared):Prop :=
 ∃v H',s'.os=s.os/\AllBare s'.gens/\Un (frs outer) [] H H' s.heap s'.heap/\HOk P w H' s'.heap/\AD v u/\Q v H'
def CR(CX:CXT)(outer:List Env)(P:Program)(w:World)(H:Hp)(s:Shared)(Q:VK)(E:XK)(r:Result)(s':Shared):Prop :=
 match r with
 |.ok (.ret u)=>CE outer P w H s Q u s'
 |.ok _=>False
 |.error e=>CX outer H s E e s'
structure B2(P:Program)(w:World)(K:Zzw)(mg:Str->Option Value)(base:Heap)(CX:CXT)(k:Nat)(f:Addr)(fd:FuncData)(ps:List Str)(sp:Sp):Prop where
 len:∀vs H Q E,sp vs H Q E->vs.length=ps.length
 run:∀(A:Around) (outer:List Env) (s:Shared) (H:Hp) (args:Args) (us:List Value) (vs:List V) (Q:VK) (E:XK),AM k A->DT P w K mg base A outer s H->BindsTo s fd args (ps.zip us)->AC vs us->sp vs H Q E ->
  codeAny (model P w) A (.call (.ref f) args) (CR CX outer P w H s Q E) s
theorem DT.make(e:DT P w K mg base A outer s H)(C:Addr)(us:List Value)(kw:List (Str×Value)) :
  DT P w K mg base (A.under (.builtin "type.__call__" ⟨.ref C::us,kw⟩)) outer s H:=⟨by first | exact e.frames | (simpa [Around.under,Code.envs,Code.isFrame,pushEnvs] using e.frames),e.mod,e.bs,e.bsz,e.funs,e.frf,e.hok,e.bare⟩
theorem Inv.env0(I:Inv X pins Z H s):DT X.prog X.w X.K X.mg X.base X.A X.stack s H :=
 ⟨I.ok.frames,I.ok.mod,I.bs,Zzd I.ok.bsz I.sz,I.stack,I.stkFree,I.hok,I.bare⟩
theorem Inv.after{Q:VK}(I:Inv X pins Z H s)(h:CE X.stack X.prog X.w H s Q u s'):EP X pins Z Q u s':=by
 obtain⟨v,H',os,bare,un,hok,r,q⟩:=h;obtain⟨hh,g,d,t,os'⟩:=s';obtain rfl:os'=s.os:=os;exact⟨v,H',I.call (h':=hh) (g':=g) (d':=d) (t':=t) (ch:=[]) un hok bare (λb z=>absurd z (by simp)),r,q⟩
def Rf(sp:Sp)(dvs:List V)(E:XK)(t:TA):TE:=λZ H Q=>t Z H λvs H1=>sp (vs++dvs) H1 Q E
def Ui(C:Addr)(m:Str)(sp:Sp)(dvs:List V)(E:XK)(ta:TE)(t:TA):TE:=λZ H Q=>ta Z H λx H1=>∃a dx fs,x=.ref a/\H1 a=some (.ins C dx fs)/\fs.lookup m=none /\
 t Z H1 λvs H2=>sp (x::(vs++dvs)) H2 Q E
def Uj(C:Addr)(sp:Sp)(dvs:List V)(E:XK)(t:TA):TE:=λZ H Q=>t Z H λvs H1=>∀x dx,H1 x=none->H1 dx=none->dx≠x ->
 sp (.ref x::(vs++dvs)) (upd (upd H1 dx (.own x)) x (.ins C dx [])) (λv H2=>v=.non/\Q (.ref x) H2) E
def BJ(K:Zzw)(fd:FuncData)(ps:List Str)(ds:List Value):Prop :=
 ∀(s:Shared) (us:List Value),K.In s.heap->(us++ds).length=ps.length->BindsTo s fd ⟨us,[]⟩ (ps.zip (us++ds))
theorem BJ.all(h:∀us:List Value,us.length=ps.length->bindArgs fd ⟨us,[]⟩=pure (ps.zip us)):BJ K fd ps []:=λs us _ hl=>by
 rw[Zz6] at hl ⊢;exact .of_eq (h us hl)
def P3(CX:CXT)(X:Cx)(E:XK):Prop:=∀(pins:List (Addr×Obj)) (Z:St) (H:Hp) (s:Shared) (e:Value) (s':Shared),Inv X pins Z H s->CX X.stack H s E e s'->X.xe e s'
section
variable {k:Nat}{C:Addr}{sp:Sp}{dvs:List V}{ds:List Value}{E:XK}{m:Str}{p:Pos}{o:Expr}
theorem qf{Q:VK}{vs:List V}(F:B2 X.prog X.w X.K X.mg X.base CX k f fd ps sp)(hr:AM k X.A)(hb:BJ X.K fd ps ds)(hd:AC dvs ds)(hx:P3 CX X E)
  (I:Inv X pins Z H s) (r:AC vs us) (h:sp (vs++dvs) H Q E):wpAny (model X.prog X.w) X.A (call (.ref f) us) (EP X pins Z Q) X.xe s:=by
 have r2:AC (vs++dvs) (us++ds):=r.append hd;have hl:(us++ds).length=ps.length:=by rw[<- r2.length];exact F.len _ _ _ _ h
 refine wpAny_call (codeAny_mono (F.run X.A X.stack s H ⟨us,[]⟩ (us++ds) (vs++dvs) Q E hr I.env0 (hb s us I.kIn hl) r2 h) λr s' hq=>?_);cases r with
 |error e=>exact hx pins Z H s e s' I hq
 |ok fl =>
  cases fl with
  |ret u=>exact I.after hq
  |next=>exact False.elim hq
  |brk=>exact False.elim hq
  |cont=>exact False.elim hq
theorem y7(F:B2 X.prog X.w X.K X.mg X.base CX k f fd ps sp)(hr:AM k X.A)(hg:Gl X x)(hm:X.mg x=some (.ref f))(hk:Zx0 X.K (.ref f)=true)(hb:BJ X.K fd ps ds)(hd:AC dvs ds)(hx:P3 CX X E)
  (ha:PA X (e::es) t) (hdb:(x == ("__debug__" : Str))=false:=by decide) (he:starEach (e::es) X.env=(false,eval e X.env)::starEach es X.env:=by rfl) (hpl:(backTo pos (starEach es X.env)).any (·.1)=false:=by rfl) :
  PE X (.Call (.Name x p) (e::es) [] pos) (Rf sp dvs E t):=by
 intro pins s Z H Q I h;refine wpAny_Call_Name_kw (Xj I hg hm ?_ hdb);refine PySem.W.callWith_K (h₀:=X.base) I.ok.mod.kin hk (thn (ha pos pins s Z H _ I h) λus s1 ⟨vs,H1,I1,r,q⟩=>⟨I1.kIn,?_⟩) he hpl;exact qf F hr hb hd hx I1 r q
theorem xz(he:PE X o ta)(c:Cls X.K C)(hm:zz X.K C m f)(F:B2 X.prog X.w X.K X.mg X.base CX k f fd ps sp)(hr:AM k X.A)(hb:BJ X.K fd ps ds)(hd:AC dvs ds)(hx:P3 CX X E)(ha:PA X (e::es) t)
  (hst:starEach (e::es) X.env=(false,eval e X.env)::starEach es X.env:=by rfl) (hpl:(backTo pos (starEach es X.env)).any (·.1)=false:=by rfl)
  (ht:eval (.Call (.Attribute o m apos) (e::es) [] pos) X.env=(do
   let ov <- eval o X.env
   standAt apos.atName
   let (f,first) <- holding [ov] (getMethod ov m pl)
   callWith pos f first (backTo pos (starEach (e::es) X.env)) (backToKw pos (keywordEach [] X.env))):=by rfl) :
  PE X (.Call (.Attribute o m apos) (e::es) [] pos) (Ui C m sp dvs E ta t):=by
 intro pins s Z H Q I h;refine PySem.W.methodCall_KW (pl:=pl) (thn (he pins s Z H _ I h) λu s1 ⟨x,H1,I1,rx,a,dx,fs,ex,ea,l,q⟩=>?_) ht;subst ex;obtain rfl:u=Value.ref a:=rx;refine d6 I1 ea c hm l ?_;refine PySem.W.callWith_K (first:=[.ref a]) (h₀:=X.base) I.ok.mod.kin hm.kp (thn (ha pos pins s1 Z H1 _ I1 q) λus s2 ⟨vs,H2,I2,r,q2⟩=>⟨I2.kIn,?_⟩) hst hpl;exact qf (us:=.ref a::us) (vs:=.ref a::vs) F hr hb hd hx I2 (.cons rfl r) q2
structure Mk(K:Zzw)(C f:Addr):Prop where
 makes:PySem.W.makesIn K C=true
 init:Zy0 K (.ref C) "__init__" = some (some (.ref f))
 fn:Zuq K (.ref f)=true
 kp:Zx0 K (.ref C)=true
theorem qe{Q:VK}{vs:List V}(M:Mk X.K C f)(F:B2 X.prog X.w X.K X.mg X.base CX k f fd ps sp)(hr:AM (k+1) X.A)(hb:BJ X.K fd ps ds)(hd:AC dvs ds)
  (hx:P3 CX X E) (I:Inv X pins Z H s) (r:AC vs us)
  (h:∀x dx,H x=none->H dx=none->dx≠x->sp (.ref x::(vs++dvs)) (upd (upd H dx (.own x)) x (.ins C dx [])) (λv H2=>v=.non/\Q (.ref x) H2) E) :
  wpAny (model X.prog X.w) X.A (call (.ref C) us) (EP X pins Z Q) X.xe s:=by
 have hq:=h (s.heap.objs.size+1) s.heap.objs.size (I.hok.fresh (Zu6 _)) (I.hok.fresh (Zzq _)) (Zz2 (Nat.lt_succ_self _));have I2:=Inv.made (C:=C) I;have r2:AC (V.ref (s.heap.objs.size+1)::(vs++dvs)) (Value.ref (s.heap.objs.size+1)::(us++ds)):=.cons rfl (r.append hd);have hl:(Value.ref (s.heap.objs.size+1)::us++ds).length=ps.length:=by
  have e:=r2.length;rw[F.len _ _ _ _ hq] at e;exact e.symm
 refine wpAny_call (su (f:=f) I.kIn M.makes M.init (beq_iff_eq.mp M.fn) (codeAny_mono (F.run _ X.stack _ _ ⟨Value.ref (s.heap.objs.size+1)::us,[]⟩ (Value.ref (s.heap.objs.size+1)::(us++ds)) _ _ E (hr.make C us [])
  (I2.env0.make C us []) (hb _ (Value.ref (s.heap.objs.size+1)::us) I2.kIn hl) r2 hq) λr s' hq'=>?_))
 cases r with
 |error e=>exact hx pins Z _ _ e s' I2 hq'
 |ok fl =>
  cases fl with
  |ret u =>
   obtain⟨v,H',I3,rv,ev,q3⟩:=I2.after hq';subst ev;exact⟨rv,⟨V.ref (s.heap.objs.size+1),H',I3,rfl,q3⟩⟩
  |next=>exact False.elim hq'
  |brk=>exact False.elim hq'
  |cont=>exact False.elim hq'
theorem qw(M:Mk X.K C f)(F:B2 X.prog X.w X.K X.mg X.base CX k f fd ps sp)(hr:AM (k+1) X.A)(hg:Gl X x)(hm:X.mg x=some (.ref C))(hb:BJ X.K fd ps ds)(hd:AC dvs ds)(hx:P3 CX X E)
  (hdb:(x == ("__debug__" : Str))=false:=by decide):PE X (.Call (.Name x p) [] [] pos) (Uj C sp dvs E ER):=by
 intro pins s Z H Q I h;refine wpAny_Call_Name_kw (Xj I hg hm ?_ hdb);exact PySem.W.callWith_K0 I.kIn M.kp (qe (us:=[]) M F hr hb hd hx I .nil h)
end
section
variable {k:Nat}{C:Addr}{ks:List Str}{sp:Sp}{E:XK}{m:Str}{p kpos:Pos}{o:Expr}{kws:List Keyword}{tk:TA}{nm:Option Str}
variable {g:List Value->List Value->List Value}{gV:List V->List V->List V}
end
structure Lr(N P:List Str)(sc:Scope):Prop where
 kind:sc.kind=.function
 co:sc.isCoroutine=false
 gen:sc.isGenerator=false
 nd:N.Nodup
 pre:N.take P.length=P
 par:∀x∈P,sc.names.lookup x=some .local\/sc.names.lookup x=some .cell
 nofree:∀y∈sc.names,y.2≠.free
theorem Vy:∀{binds:List (Str×Value)} {m:Str->Option Value},(∀v,(x,v)∉binds)->bindL kindOf binds m x=m x
 |[],_,_=>rfl
 | (n,v)::r,m,h=>by
  unfold bindL;rw[Vy λw hw=>h w (Zzl _ hw)];split
  ·have:x≠n:=by rintro rfl;exact h v Zzm
   simp[this]
  ·rfl
theorem W0:∀{binds:List (Str×Value)} {m:Str->Option Value},(∀v,(x,v)∉binds)->bindC kindOf binds m x=m x
 |[],_,_=>rfl
 | (n,v)::r,m,h=>by
  unfold bindC;rw[W0 λw hw=>h w (Zzl _ hw)];split
  ·rfl
  ·have:x≠n:=by rintro rfl;exact h v Zzm
   simp[this]
theorem Vz{kindOf:Str->Option NameKind}{x:Str}{v:Value}:∀{P:List Str} {vs:List Value} {i:Nat} {m:Str->Option Value},P.Nodup->P[i]?=some x->vs[i]?=some v->kindOf x=some .local ->
  bindL kindOf (P.zip vs) m x=some v
 |[],_,_,_,_,h,_,_=>by simp at h
 |_::_,[],_,_,_,_,h,_=>by simp at h
 |p::P,w::vs,0,m,nd,h1,h2,hk=>by
  simp at h1 h2;subst h1;subst h2;show bindL kindOf ((p,w)::P.zip vs) m p=_;unfold bindL;rw[Vy λv hv=>(Zyj.mp nd).1 (List.of_mem_zip hv).1,FZ hk];simp
 |p::P,w::vs,i+1,m,nd,h1,h2,hk=>by
  show bindL kindOf ((p,w)::P.zip vs) m x=_;unfold bindL;exact Vz (i:=i) (Zyj.mp nd).2 (by simpa using h1) (by simpa using h2) hk
theorem W1{kindOf:Str->Option NameKind}{x:Str}{v:Value}:∀{P:List Str} {vs:List Value} {i:Nat} {m:Str->Option Value},P.Nodup->P[i]?=some x->vs[i]?=some v->kindOf x≠some .local ->
  bindC kindOf (P.zip vs) m x=some v
 |[],_,_,_,_,h,_,_=>by simp at h
 |_::_,[],_,_,_,_,h,_=>by simp at h
 |p::P,w::vs,0,m,nd,h1,h2,hk=>by
  simp at h1 h2;subst h1;subst h2;show bindC kindOf ((p,w)::P.zip vs) m p=_;unfold bindC;rw[W0 λv hv=>(Zyj.mp nd).1 (List.of_mem_zip hv).1,FY hk];simp
 |p::P,w::vs,i+1,m,nd,h1,h2,hk=>by
  show bindC kindOf ((p,w)::P.zip vs) m x=_;unfold bindC;exact W1 (i:=i) (Zyj.mp nd).2 (by simpa using h1) (by simpa using h2) hk
noncomputable def Ir(N:List Str)(vs:List V):St:=vs.map some++Zy8 (N.length - vs.length) none
noncomputable def Xr(CX:CXT)(P:Program)(w:World)(K:Zzw)(mg:Str->Option Value)(base:Heap)(N:List Str)(qual:Str)(scope:Scope)(f:Addr)(cd:Value)(A:Around)(outer:List Env)(s:Shared)(H:Hp)(E:XK):Cx where
 prog:=P
 w:=w
 K:=K
 mg:=mg
 base:=base
 A:=A.deeper (envOfC qual scope s.heap.objs.size f cd)
 N:=N
 s₀:=s
 H₀:=H
 env:=envOfC qual scope s.heap.objs.size f cd
 outer:=outer
 stack:=envOfC qual scope s.heap.objs.size f cd::outer
 ex:=[]
 calm:=true
 fn:=λ_=>true
 pn:=[]
 xe:=λe s'=>wpAny (model P w) (A.deeper (envOfC qual scope s.heap.objs.size f cd)) (leaving (envOfC qual scope s.heap.objs.size f cd) e) (λ_ s''=>CX outer H s E e s'') (λe' s''=>CX outer H s E e' s'') s'
theorem ah(h:sc.names.lookup x=some .cell):∃c,(cellsFrom n sc.names []).lookup x=some c:=by
 have q:=PySem.W.cellsFrom_some sc.names n [] (.inl h);exact Option.isSome_iff_exists.mp q
theorem l5{cd:Value}{s1:Shared}{E:XK}{vs:List V}
  (S:Lr N ps scope) (hd:A.handled=none) (e0:DT P w K mg base A outer s H) (hl:vs.length=ps.length) (r:AC vs us)
  (x:InCallC s s.heap.objs.size (bindL (envOfC qual scope s.heap.objs.size f cd).kindOf (ps.zip us) λ_=>none) (cellsFrom (s.heap.objs.size+1) scope.names []) (bindC (envOfC qual scope s.heap.objs.size f cd).kindOf (ps.zip us) λ_=>none) s1) :
  Inv (Xr CX P w K mg base N qual scope f cd A outer s H E) [] (Ir N vs) H s1:=by
 have hpl:ps.length<=N.length:=by have:=congrArg Zxa S.pre;rw[Zz7] at this;lia
 obtain⟨h1,tk,rfl,hk⟩:=x.done;have noA:∀b:Addr,b∉(Xr CX P w K mg base N qual scope f cd A outer s H E).ex:=λb z=>absurd (show b∈([]:List Addr) from z) (by simp);refine⟨⟨e0.mod,S.kind,rfl,rfl,Zzq _,λy z c h1 h2=>?_,λy hy=>?_,λy c _ h=>?_,λ_=>hd,Around.frames_deeper e0.frames,.inr ⟨rfl,rfl⟩,λb z=>absurd z (noA b),e0.bs,e0.bsz,λb _ _=>noA b,λb z=>absurd z (noA b),e0.funs,e0.frf⟩,
  rfl,e0.bare,Un.kept hk,⟨_,x.toInCall.ns,λi y v h1 h2 h3=>?_⟩,λy c h=>⟨_,x.cell y c h⟩,e0.hok.fresh (Zzq _),λy c h=>?_,λp hp=>absurd (show p∈([]:List (Addr×Obj)) from hp) (by simp),e0.hok.kept hk,?_⟩
 ·exact name_of_addr x.apart (Zx5 h1) (Zx5 h2)
 ·have hy:scope.names.lookup y=some .cell\/scope.names.lookup y=some .free:=hy
  rcases hy with hy | hy
  ·exact ah hy
  ·exact absurd rfl (S.nofree _ (Zx5 hy))
 ·exact Nat.le_of_lt (x.above y c (Zx5 h))
 ·have hi:i<vs.length:=by
   unfold Ir at h2;by_cases hi:i<vs.length
   ·exact hi
   ·rw[Zxi (by simpa using hi)] at h2;rw[List.getElem?_replicate] at h2;split at h2<;>cases h2
  have ha:vs[i]?=some v:=by
   unfold Ir at h2;rw[Zwx (by simpa using hi),Zzy] at h2;cases e:vs[i]? with
   |none=>rw[e] at h2;cases h2
   |some a=>rw[e] at h2;cases h2;rfl
  obtain⟨u,hu,rv⟩:=r.get ha;have hp:ps[i]?=some y:=by
   rw[<- S.pre,List.getElem?_take_of_lt (by lia)];exact h1
  have ndP:ps.Nodup:=by rw[<- S.pre];exact S.nd.sublist (List.take_sublist _ _)
  refine⟨u,rv,?_⟩;rcases S.par y (Zzu hp) with k | k
  ·exact .inl ⟨k,Vz ndP hp hu k⟩
  ·obtain⟨c,e⟩:=ah (n:=s.heap.objs.size+1) k;refine .inr ⟨.inl k,c,e,?_⟩;have q:=x.cell y c e;rw[W1 ndP hp hu (by show scope.names.lookup y≠_;rw[k];decide)] at q;exact q
 ·exact e0.hok.fresh (Nat.le_of_lt (x.above y c (Zx5 h)))
 ·unfold Ir;show _=N.length;rw[Zyv,Zzz,List.length_replicate];lia
theorem A09{k:Nat}{dV kV doc pm cdv ct:Value}{an:Option Addr}
  {osl:Array (Option Value)} {N ps:List Str} {sp:Sp} (lk:K.lookup f=some ⟨oc,od,.func (Zxh name qual params body scope dV kV doc pm an cdv ct),osl⟩) (hcd:Zua K cdv qual=true) (S:Lr N ps scope)
  (len:∀vs H Q E,sp vs H Q E->vs.length=ps.length)
  (hbody:∀(A:Around) (outer:List Env) (s:Shared) (H:Hp) (vs:List V) (Q:VK) (E:XK),AM k (A.deeper (envOfC qual scope s.heap.objs.size f cdv))->sp vs H Q E ->
   ∃t,PSs (Xr CX P w K mg base N qual scope f cdv A outer s H E) body t/\t {nx:=λ_ H'=>Q .non H',rt:=Q} (Ir N vs) H) :
  B2 P w K mg base CX (k+1) f (Zxh name qual params body scope dV kV doc pm an cdv ct) ps sp:=by
 refine⟨len,λA outer s H args us vs Q E hr e0 hb r hsp=>?_⟩;have hl:=len _ _ _ _ hsp;have KX:K.In s.heap:=e0.mod.kin.keeps λb o e=>(e0.bs b o e).1;have lim:s.heap.NoLimit:=e0.mod.nolimit.keeps λb o e=>(e0.bs b o e).1;have hkind:∀y∈ps.zip us,scope.names.lookup y.1=some .local\/(scope.names.lookup y.1=some .cell/\((cellsFrom (s.heap.objs.size+1) scope.names []).lookup y.1).isSome=true):=λ⟨n,v⟩ hy=>by
  rcases S.par n (List.of_mem_zip hy).1 with q | q
  ·exact .inl q
  ·exact .inr ⟨q,PySem.W.cellsFrom_some _ _ _ (.inl q)⟩
 refine codeAny_call_function hr.depth (KX _ _ lk) rfl S.co S.gen rfl (PySem.W.codeRec_of KX hcd) (hb _ _ _ _ ?_);refine wpAny_newFunctionEnv_cells S.kind hkind λenv he s1 x=>?_;subst he;refine⟨lim.keeps x.toInCall.keep,codeAny_func ?_⟩;obtain⟨t,ht,hq⟩:=hbody A outer s H vs Q E (hr.deeper _) hsp;have I:Inv (Xr CX P w K mg base N qual scope f cdv A outer s H E) [] (Ir N vs) H s1:=l5 S hr.hd e0 hl r x;refine wpAny_mono (ht [] s1 (Ir N vs) H _ I hq) (λfl s' hs=>?_) λe s' hs=>hs;have fin:∀{Z':St} {H':Hp} {v:V} {u:Value},Inv (Xr CX P w K mg base N qual scope f cdv A outer s H E) [] Z' H' s'->AD v u->Q v H'->CE outer P w H s Q u s' :=
  λ{Z' H' v u} J rv q=>⟨v,H',J.os,J.bare,J.base,J.hok,rv,q⟩
 cases fl with
 |ret u =>
  obtain⟨v,Z',H',J,rv,q⟩:=hs;exact fin J rv q
 |next =>
  obtain⟨Z',H',J,q⟩:=hs;exact fin (v:=V.non) (u:=Value.none) J rfl q
 |brk =>
  obtain⟨_,_,_,q⟩:=hs;exact False.elim q
 |cont =>
  obtain⟨_,_,_,q⟩:=hs;exact False.elim q
section
variable {p:Pos}{id:String}{r:List V->Hp->VK->Prop}
def tCB(r:List V->Hp->VK->Prop)(t:TA):TE:=λZ H Q=>t Z H λvs H1=>r vs H1 Q
theorem rf(hc:AK X (.builtin id) r)(hg:Gl X x)(hm:X.mg x=none)(hv:bootBuiltins x=some (.builtin id))(ha:PA X (e::es) t)(hn:x ≠ "__name__" := by decide)(hdb:(x == ("__debug__" : Str))=false:=by decide)
  (he:starEach (e::es) X.env=(false,eval e X.env)::starEach es X.env:=by rfl) (hpl:(backTo pos (starEach es X.env)).any (·.1)=false:=by rfl):PE X (.Call (.Name x p) (e::es) [] pos) (tCB r t):=by
 intro pins s Z H Q I h;refine wpAny_Call_Name_kw (Er I hg hm hv ?_ hn hdb);exact PyProof.Rows.callWith_builtin1 (thn (ha pos pins s Z H _ I h) λus s1 z0=>by obtain⟨vs,H1,I1,r1,q1⟩:=z0;exact hc pins s1 Z H1 vs us Q I1 r1 q1) he hpl
theorem jp(hc:AK X (.type T) r)(hg:Gl X x)(hm:X.mg x=none)(hv:bootBuiltins x=some (.type T))(ha:PA X (e::es) t)(hn:x ≠ "__name__" := by decide)(hdb:(x == ("__debug__" : Str))=false:=by decide)
  (he:starEach (e::es) X.env=(false,eval e X.env)::starEach es X.env:=by rfl) (hpl:(backTo pos (starEach es X.env)).any (·.1)=false:=by rfl):PE X (.Call (.Name x p) (e::es) [] pos) (tCB r t):=by
 intro pins s Z H Q I h;refine wpAny_Call_Name_kw (Er I hg hm hv ?_ hn hdb);exact Zyb (thn (ha pos pins s Z H _ I h) λus s1 z0=>by obtain⟨vs,H1,I1,r1,q1⟩:=z0;exact hc pins s1 Z H1 vs us Q I1 r1 q1) he hpl
end
end L2
open L2
variable {xs uv:List V}{H H' Hx:Hp}{o:HO}{X:Cx}{Z:St}{v y:V}{t:TA}{ta te:TE}{r:Str×List Key}{kvs:List (Key×V)}{CX:CXT}{sp:Sp}{ks:List Key}{tt:TT}{J:It}{yl:Nat->V->Prop}{rm:V->List V->Hp->VK->Prop}
namespace HT
open PySem PyProof.Rows
noncomputable def A06:List Int->List Int->Bool
 |[],[]=>false
 |[],_::_=>true
 |_::_,[]=>false
 |x::xs,y::ys=>if x=y then A06 xs ys else decide (x<y)
section
open PySem.SeqAt
open PySem.AutoSeq1 (wpAny_loadPart')
open PySem.MeetsSeq PySem.MeetsSeq2 PySem.MeetsSeq3
end
theorem zk{t:Addr}{vs ws:List Value}(ht:IsTup s.heap t vs.toArray)(hb:IsTup s.heap b ws.toArray)(hv:vs≠[])
  (h1:ws=[]->Q (.ref t) s) (h2:ws≠[]->Q (.ref s.heap.objs.size) {s with heap:=s.heap.push {cls:=.type "tuple",data:=.seq (vs++ws).toArray}})
  (hsz:vs.length+ws.length<=sizeLine):wpAny (model prog w) A (binaryOp .Add (.ref t) (.ref b)) Q E s:=by
 obtain⟨⟨cls,dd,data,sl⟩,ho,hc,n,hd⟩:=id ht;obtain⟨⟨cls2,dd2,data2,sl2⟩,ho2,hc2,n2,hd2⟩:=id hb;simp only at hc hd hc2 hd2;subst hc hd hc2 hd2;have e:vs.toArray++ws.toArray=(vs++ws).toArray:=by simp
 by_cases hw:ws=[]
 ·exact concat_meets ⟨_,ho,rfl⟩ ⟨_,ho2,rfl⟩ noFill_tuple_add seq_tuple_add Zv0 Zv6 (Zve _ _)
   (tuple_addW1 t b vs.toArray ws.toArray n n2 dd dd2 sl sl2 (by simpa using hv) (by simp[hw])) ⟨ho,ho2,h1 hw⟩
 ·refine concat_meets ⟨_,ho,rfl⟩ ⟨_,ho2,rfl⟩ noFill_tuple_add seq_tuple_add Zv0 Zv6 (Zve _ _)
   (tuple_addW2 t b vs.toArray ws.toArray n n2 dd dd2 sl sl2 (by simpa using hv) (by simpa using hw) (by rw[Zzn,Zzn];exact hsz)) ⟨ho,ho2,?_⟩
  rw[e];exact h2 hw
noncomputable def sIx(n d:Nat):Option Int->Nat
 |none=>d
 |some v=>if v<0 then (v+(n:Int)).toNat else min v.toNat n
theorem pz(n d:Nat):sIx n d none=d:=rfl
theorem qc(n d:Nat)(hd:d<=n)(o:Option Int):sIx n d o<=n:=by
 cases o with
 |none=>exact hd
 |some v =>
  show (if v<0 then (v+(n:Int)).toNat else min v.toNat n)<=n;by_cases hv:v<0
  ·rw[FZ hv];lia
  ·rw[FY hv];exact Nat.min_le_right _ _
theorem ir(v:Int)(n d:Nat):(if v<0 then max (v+(n:Int)) 0 else min v (n:Int))=((sIx n d (some v):Nat):Int):=by
 show (if v<0 then max (v+(n:Int)) 0 else min v (n:Int))=(((if v<0 then (v+(n:Int)).toNat else min v.toNat n):Nat):Int);by_cases hv:v<0
 ·simp only[FZ hv];lia
 ·simp only[FY hv];lia
theorem dt(lo hi:Option Int)(n:Nat):Zvh lo hi 1 (n:Int)=(((sIx n 0 lo:Nat):Int),((sIx n n hi:Nat):Int)):=by
 have h1:¬ ((1:Int)<0):=by lia
 unfold Zvh;simp only[h1,if_false];refine Prod.ext ?_ ?_
 ·cases lo with
  |none=>rfl
  |some v=>exact ir v n 0
 ·cases hi with
  |none=>rfl
  |some v=>exact ir v n n
theorem bj(i j:Nat):Zwj (i:Int) (j:Int) 1=j - i:=by
 unfold Zwj;have h1:(1:Int) > 0:=by lia
 simp only[h1,if_true,Int.ediv_one];split<;>lia
theorem Ri{v:Value}{o:Option Int}{Q:Option Int->Shared->Prop}(p:IsPart v o)(h:Q o s):wpAny (model prog w) A (Builtin.Slice.slicePartIndex v) Q E s:=by
 cases p with
 |none=>exact slicePart_none h
 |int i t=>exact slicePart_int h
theorem Je{sl:Addr}{vl vu:Value}{Q:Int×Int×Nat->Shared->Prop}(hs:s.heap.IsSliceOf sl vl vu .none)(pl:IsPart vl lo)(pu:IsPart vu hi)
  (h:Q (((sIx n 0 lo:Nat):Int),1,sIx n n hi - sIx n 0 lo) s):wpAny (model prog w) A (Builtin.Slice.sliceApplied (.ref sl) (pure (n:Int))) Q E s:=by
 obtain⟨os,hos,hcs,hds⟩:=id hs;unfold Builtin.Slice.sliceApplied Builtin.Slice.sliceFields;refine GA (GA (wpAny_field hos hds (x:=vl) rfl (GA (wpAny_field hos hds (x:=vu) rfl (GA (wpAny_field hos hds (x:=.none) rfl (GB ?_)))))));refine GA (slicePart_none ?_);show wpAny _ _ (if ((1:Int) == 0)=true then _ else _) _ _ s;rw[FY (by decide)];refine GA (Ri pl (GA (Ri pu (GA (GB ?_)))));show wpAny _ _ (match Zvh lo hi 1 (n:Int) with | (lo,hi)=>pure (lo,(1:Int),Zwj lo hi 1)) _ _ s;rw[dt lo hi n];show wpAny _ _ (pure (((sIx n 0 lo:Nat):Int),(1:Int),Zwj ((sIx n 0 lo:Nat):Int) ((sIx n n hi:Nat):Int) 1)) _ _ s;rw[bj];exact GB h
theorem qu(xs:Array Value)(i k:Nat):((Zyi k).filterMap λ(m:Nat)=>xs[((i:Int)+(m:Int)*1).toNat]?).toArray=((xs.toList.drop i).take k).toArray:=by
 have e:(λ(m:Nat)=>xs[((i:Int)+(m:Int)*1).toNat]?)=λm=>xs[i+m]?:=by
  funext m;have:((i:Int)+(m:Int)*1).toNat=i+m:=by lia
  rw[this]
 rw[e];have:=pick_run xs i k;rw[List.filterMap_map] at this;have e2:((λx=>xs[x]?)∘λx=>i+x)=λm=>xs[i+m]?:=rfl;rw[e2] at this;rw[this]
theorem Nr{t sl:Addr}{vl vu:Value}(ht:IsTup s.heap t items)(hs:s.heap.IsSliceOf sl vl vu .none)(pl:IsPart vl lo)(pu:IsPart vu hi)
  (hw:¬ (sIx items.size 0 lo=0/\sIx items.size items.size hi=items.size))
  (h:Q (.ref s.heap.objs.size) {s with heap:=s.heap.push {cls:=.type "tuple",data:=.seq ((items.toList.drop (sIx items.size 0 lo)).take (sIx items.size items.size hi - sIx items.size 0 lo)).toArray}})
  (hsz:items.size<=sizeLine):wpAny (model prog w) A (getItem (.ref t) (.ref sl)) Q E s:=by
 have htake:sizeOk (.seq ((items.toList.drop (sIx items.size 0 lo)).take (sIx items.size items.size hi - sIx items.size 0 lo)).toArray):=by
  show ((items.toList.drop (sIx items.size 0 lo)).take (sIx items.size items.size hi - sIx items.size 0 lo)).toArray.size<=sizeLine;rw[Zzn,Zz7,Zxr,Zxq];lia
 have hj:sIx items.size items.size hi<=items.size:=qc _ _ (Zzq _) hi;obtain⟨os,hos,hcs,hds⟩:=id hs;have hTs:s.TypeIs (.ref sl) "slice" := ⟨os,hos,hcs⟩;unfold getItem;try with_reducible refine wpAny_holding ?_
 first | refine GA (GB ?_) | skip
 refine GA (wpAny_sequenceKey ht.typeIs (by decide) ?_);refine GA (wpAny_callSpecial?_slot (name:=Str.ofString "__getitem__") ht.typeIs Zxu
  (wpAny_call_entry Zxu ht.typeIs entry_tuple_getitem ?_ (args_tuple_getitem _ _)))
 show wpAny _ _ (Builtin.Tuple.tupleItemsOf (.ref t) >>= _) _ _ s;refine GA (tupleItemsOf_ ht ?_);refine GA (wpAny_typeOf hTs ?_);rw[FZ (by decide)];refine GA (Je hs pl pu ?_);have hno:¬ ((((sIx items.size 0 lo:Nat):Int) == 0&&(1:Int) == 1&&(sIx items.size items.size hi - sIx items.size 0 lo) == items.size)=true):=by
  intro q;rw[Zyy,Zyy] at q;have q1:((sIx items.size 0 lo:Nat):Int)=0:=eq_of_beq q.1.1;have q2:sIx items.size items.size hi - sIx items.size 0 lo=items.size:=eq_of_beq q.2;exact hw ⟨by lia,by lia⟩
 show wpAny _ _ (if (((sIx items.size 0 lo:Nat):Int) == 0&&(1:Int) == 1&&(sIx items.size items.size hi - sIx items.size 0 lo) == items.size)=true then _ else _) _ _ s;rw[FY hno,qu];first
  |exact GA (m:=Zwf _) (wpAny_newObj_type (GB ⟨_,rfl,GB h⟩) htake)
  |exact GA (m:=Zwf _) (wpAny_newObj_type (GA (GB (GB ⟨_,rfl,GB h⟩))) htake)
  |exact GA (GA (m:=Zwf _) (wpAny_newObj_type (GB (GB ⟨_,rfl,GB h⟩)) htake))
  |exact GA (GA (m:=Zwf _) (wpAny_newObj_type (GB ⟨_,rfl,GB h⟩) htake))
end HT
namespace L2
open PySem PySem.Spec PyProof.Rows
abbrev TO:=St->Hp->(Option Int->Hp->Prop)->Prop
def PO(X:Cx)(e:Option Expr)(t:TO):Prop :=
 ∀(pins:List (Addr×Obj)) (s:Shared) (Z:St) (H:Hp) (Q:Option Int->Hp->Prop),Inv X pins Z H s->t Z H Q ->
  wpAny (model X.prog X.w) X.A (evalPart e X.env) (λu s'=>∃o H',Inv X pins Z H' s'/\IsPart u o/\Q o H') X.xe s
def EY:TO:=λ_ H Q=>Q none H
def Yg(t:TE):TO:=λZ H Q=>t Z H λx H1=>∃i,x=.int i/\Q (some i) H1
section
variable {lo hi:Option Expr}{tl th:TO}{p2:Pos}
theorem Di:PO X none EY:=by
 intro pins s Z H Q I h;rw[evalPart_none];exact GB ⟨none,H,I,.none,h⟩
theorem Dh(h:PE X e te):PO X (some e) (Yg te):=by
 intro pins s Z H Q I hw;rw[evalPart_some];refine thn (h pins s Z H _ I hw) λu s1 z0=>?_;obtain⟨x,H1,I1,r1,q1⟩:=z0;obtain⟨i,rfl,q⟩:=q1;obtain⟨t,rfl⟩:=r1;exact⟨some i,H1,I1,.int i t,q⟩
def SlR(X:Cx)(r:V->Option Int->Option Int->Hp->VK->Prop):Prop :=
 ∀(pins:List (Addr×Obj)) (s:Shared) (Z:St) (H:Hp) (x:V) (v vl vu:Value) (lo hi:Option Int) (sl:Addr) (Q:VK),Inv X pins Z H s->AD x v->s.heap.IsSliceOf sl vl vu .none->IsPart vl lo->IsPart vu hi->r x lo hi H Q ->
  ∃T id,typeLookup (.type T) "__getitem__" = pure (some (.builtin id))/\s.TypeIs v T/\wpAny (model X.prog X.w) X.A (getItem v (.ref sl)) (EP X pins Z Q) X.xe s
def tSl(r:V->Option Int->Option Int->Hp->VK->Prop)(te:TE)(tl th:TO):TE:=λZ H Q=>te Z H λx H1=>tl Z H1 λl H2=>th Z H2 λu H3=>r x l u H3 Q
theorem Co{r:V->Option Int->Option Int->Hp->VK->Prop}(hr:SlR X r)(he:PE X e te)(hl:PO X lo tl)(hu:PO X hi th):PE X (.Subscript e (.Slice lo hi none p2) pos) (tSl r te tl th):=by
 intro pins s Z H Q I h;refine Subscript_ (thn (he pins s Z H _ I h) λv s1 z0=>?_);obtain⟨x,H1,I1,r1,q1⟩:=z0;refine wpAny_Slice (thn (hl pins s1 Z H1 _ I1 q1) λvl s2 ⟨l,H2,I2,pl,q2⟩=>thn (hu pins s2 Z H2 _ I2 q2) λvu s3 z0=>?_);obtain⟨u,H3,I3,pu,q3⟩:=z0;rw[evalPart_none];refine GB ?_;have I4:Inv X pins Z H3 {s3 with heap:=s3.heap.push {cls:=.type "slice",data:=.fields #[vl,vu,.none]}}:=I3.kept (t':=s3.toks) λb ob q=>Zzx _ q;obtain⟨T,id,hT,ht,hg⟩:=hr pins {s3 with heap:=s3.heap.push {cls:=.type "slice",data:=.fields #[vl,vu,.none]}} Z H3 x v vl vu l u s3.heap.objs.size Q I4 r1 (Heap.IsSliceOf.new ..) pl pu q3;show wpAny (model X.prog X.w) X.A (subscriptTail e (.Slice lo hi none p2) v (.ref s3.heap.objs.size)) (EP X pins Z Q) X.xe {s3 with heap:=s3.heap.push {cls:=.type "slice",data:=.fields #[vl,vu,.none]}};exact tail_any (ops:=[.ref s3.heap.objs.size,v]) ht hT hg (by with_unfolding_all rfl)
noncomputable def E7(xs:List V)(lo hi:Option Int):List V:=(xs.drop (HT.sIx xs.length 0 lo)).take (HT.sIx xs.length xs.length hi - HT.sIx xs.length 0 lo)
theorem Q0(xs:List V)(lo hi:Option Int):(E7 xs lo hi).length<=xs.length:=by
 unfold E7;rw[Zz7,Zxr];lia
def rSlT(K:Zzw):V->Option Int->Option Int->Hp->VK->Prop:=λx lo hi H Q=>∃a xs,x=.ref a/\SqT K H a xs /\
 ¬ (HT.sIx xs.length 0 lo=0/\HT.sIx xs.length xs.length hi=xs.length)/\∀p,H p=none->Q (.ref p) (upd H p (.tup (E7 xs lo hi)))
theorem A0p:SlR X (rSlT X.K):=by
 intro pins s Z H x v vl vu lo hi sl Q I rx hs pl pu h;obtain⟨a,xs,rfl,hx,hw,q⟩:=h;cases rx;obtain⟨its,r,ht,hz⟩:=I.tuple hx;have hlen:its.toArray.size=xs.length:=by rw[Zzn];exact r.length.symm
 refine⟨"tuple",_,Zxu.lookup,ht.typeIs,?_⟩;refine HT.Nr ht hs pl pu (by rw[hlen];exact hw) ?_ (by rw[hlen];exact hz);rw[hlen];refine⟨.ref s.heap.objs.size,_,I.laid (t':=s.toks) (o:=.tup (E7 xs lo hi)) (λb ob q=>Zzx _ q) (Zzq _) ?_,rfl,q _ (I.hok.fresh (Zzq _))⟩;exact⟨Zzd (Q0 xs lo hi) hz,_,(r.drop (HT.sIx xs.length 0 lo)).take (HT.sIx xs.length xs.length hi - HT.sIx xs.length 0 lo),IsTup.new _ _⟩
def xm(K:Zzw):R2:=λx y H Q=>∃a b ns ms,x=.ref a/\y=.ref b/\SqT K H a (ns.map V.int)/\SqT K H b (ms.map V.int)/\Q (.bl (HT.A06 ns ms)) H
def A24(K:Zzw):R2:=λx y H Q=>∃a b xs ys,x=.ref a/\y=.ref b/\SqT K H a xs/\SqT K H b ys/\xs≠[]/\xs.length+ys.length<=sizeLine /\
 (ys=[]->Q (.ref a) H)/\(ys≠[]->∀p,H p=none->Q (.ref p) (upd H p (.tup (xs++ys))))
theorem AC.nil_iff(r:AC xs us):us=[]↔xs=[]:=by
 cases r with
 |nil=>simp
 |cons _ _=>simp
theorem yc:OpR X (binaryOp .Add) (A24 X.K):=by
 intro pins s Z H x y v u Q I rx ry h;obtain⟨a,b,xs,ys,rfl,rfl,ha,hb,hx,hz,q1,q2⟩:=h;cases rx;cases ry;obtain⟨its,r1,p1,_⟩:=I.tuple ha;obtain⟨its2,r2,p2,_⟩:=I.tuple hb;refine HT.zk p1 p2 (λz=>hx (r1.nil_iff.mp z)) (λz=>⟨.ref a,H,I,rfl,q1 (r2.nil_iff.mp z)⟩) (λz=>?_) (by rw[<- r1.length,<- r2.length];exact hz);refine⟨.ref s.heap.objs.size,_,I.laid (t':=s.toks) (o:=.tup (xs++ys)) (λb ob q=>Zzx _ q) (Zzq _) ?_,rfl,q2 (λw=>z (r2.nil_iff.mpr w)) _ (I.hok.fresh (Zzq _))⟩;exact⟨by rw[Zyv];exact hz,_,r1.append r2,IsTup.new _ _⟩
end
noncomputable def ixN(n:Nat)(i:Int):Option Nat:=if 0<=i then (if i<n then some i.toNat else none) else if -(n:Int)<=i then some (i+n).toNat else none
noncomputable def atI{α:Type}(xs:List α)(i:Int):Option α:=(ixN xs.length i).bind λj=>xs[j]?
theorem ic{i:Int}(h:ixN n i=some j):seqIndex? i n=some j/\j<n/\-(n:Int)<=i/\i<n:=by
 unfold ixN at h;by_cases h0:0<=i
 ·rw[FZ h0] at h;by_cases h1:i<n
  ·rw[FZ h1] at h;have e:i.toNat=j:=Zzh h;exact⟨by rw[seqIndex_of h0 h1,e],by lia,by lia,h1⟩
  ·rw[FY h1] at h;cases h
 ·rw[FY h0] at h;by_cases h1:-(n:Int)<=i
  ·rw[FZ h1] at h;have e:(i+n).toNat=j:=Zzh h;exact⟨by rw[seqIndex_neg (by lia) h1,e],by lia,h1,by lia⟩
  ·rw[FY h1] at h;cases h
theorem Xx{α:Type}{xs:List α}{i:Int}{v:α}(h:atI xs i=some v):∃j,seqIndex? i xs.length=some j/\xs[j]?=some v/\j<xs.length/\-(xs.length:Int)<=i/\i<xs.length:=by
 unfold atI at h;cases e:ixN xs.length i with
 |none=>rw[e] at h;cases h
 |some j =>
  rw[e] at h;obtain⟨h1,h2,h3,h4⟩:=ic e;exact⟨j,h1,h,h2,h3,h4⟩
theorem O0{α:Type}{xs:List α}{v:α}(h:xs[j]?=some v):atI xs (j:Int)=some v:=by
 have hj:j<xs.length:=(Zze.mp h).1;have e:ixN xs.length (j:Int)=some j:=by
  unfold ixN;rw[FZ (by lia),FZ (by lia)];simp
 unfold atI;rw[e];exact h
def Y1(b:Expr):Prop:=∀o i,subscripted b false o i=operate [o,i] (getItem o i)
def IxR(X:Cx)(r:R2):Prop :=
 ∀(value slice:Expr) (pins:List (Addr×Obj)) (s:Shared) (Z:St) (H:Hp) (x y:V) (v u:Value) (Q:VK),Inv X pins Z H s->AD x v->AD y u->r x y H Q ->
  subscripted slice false v u=operate [v,u] (getItem v u)->wpAny (model X.prog X.w) X.A (subscriptTail value slice v u) (EP X pins Z Q) X.xe s
def MtR(X:Cx)(id:String)(r:V->List V->Hp->VK->Prop):Prop :=
 ∀(pins:List (Addr×Obj)) (s:Shared) (Z:St) (H:Hp) (x:V) (xs:List V) (v:Value) (us:List Value) (Q:VK),Inv X pins Z H s->AD x v->AC xs us->r x xs H Q ->
  wpAny (model X.prog X.w) X.A (call (.builtin id) (v::us)) (EP X pins Z Q) X.xe s
section
variable {a b:Expr}{tb:TE}
theorem qx{r:R2}(hr:IxR X r)(ha:PE X a ta)(hb:PE X b tb)(hs:Y1 b):PE X (.Subscript a b pos) (tOp r ta tb):=by
 intro pins s Z H Q I h;exact Subscript_ (A1l ha hb I h λv u s2 x y H2 I2 rx ry q=>hr a b pins s2 Z H2 x y v u Q I2 rx ry q (hs _ _))
def rIxL(K:Zzw):R2:=λx y H Q=>∃p xs i v,x=.ref p/\y=.int i/\SqL K H p xs/\atI xs i=some v/\Q v H
def rIxT(K:Zzw):R2:=λx y H Q=>∃p xs i v,x=.ref p/\y=.int i/\SqT K H p xs/\atI xs i=some v/\Q v H
def rIxS:R2:=λx y H Q=>∃z i c,x=.str z/\y=.int i/\z.length<=sizeLine/\atI z.cps.toList i=some c/\Q (.str ⟨#[c]⟩) H
theorem ib:IxR X (rIxL X.K):=by
 intro value slice pins s Z H x y v u Q I rx ry h hs;obtain⟨p,xs,i,z,rfl,rfl,hq,he,q⟩:=h;cases rx;obtain⟨t,rfl⟩:=ry;obtain⟨its,r,pl,hz⟩:=I.list hq;obtain⟨j,h1,h2,h3,h4,h5⟩:=Xx he;obtain⟨w,ew,rw'⟩:=r.get h2;have hl:=r.length;have hn:=L3;have fin:EP X pins Z Q w s:=⟨z,H,I,rw',q⟩;by_cases h0:0<=i
 ·have hj:i.toNat=j:=by
   rw[seqIndex_of h0 h5] at h1;exact Zzh h1
  exact item_listR pl.isList h0 (by lia) (by rw[hj];simpa using ew) fin hs
 ·have hj:(i+(its.toArray.size:Int)).toNat=j:=by
   rw[seqIndex_neg (by lia) h4] at h1;rw[Zzn,<- hl];exact Zzh h1
  exact subscriptTail_builtinR (x:=w) pl.isList.typeIs slot_list_getitem.lookup
   (wpAny_getItem_list_neg (Q:=λr s'=>r=w/\EP X pins Z Q r s') pl.isList (by lia) (by rw[Zzn]<;>lia) (by lia) (by rw[hj];simpa using ew) ⟨rfl,fin⟩) hs
theorem A19:IxR X (rIxT X.K):=by
 intro value slice pins s Z H x y v u Q I rx ry h hs;obtain⟨p,xs,i,z,rfl,rfl,hq,he,q⟩:=h;cases rx;obtain⟨t,rfl⟩:=ry;obtain⟨its,r,pl,hz⟩:=I.tuple hq;obtain⟨j,h1,h2,h3,h4,h5⟩:=Xx he;obtain⟨w,ew,rw'⟩:=r.get h2;have hl:=r.length;have hn:=L3;have fin:EP X pins Z Q w s:=⟨z,H,I,rw',q⟩;exact subscriptTail_builtinR (x:=w) pl.typeIs slot_tuple_getitem.lookup
  (getItem_tuple (j:=j) (Q:=λr s'=>r=w/\EP X pins Z Q r s') pl (by lia) (by lia) (by rw[Zzn,<- hl];exact h1) (by simpa using ew) ⟨rfl,fin⟩) hs
theorem A1b:IxR X rIxS:=by
 intro value slice pins s Z H x y v u Q I rx ry h hs;obtain⟨z,i,c,rfl,rfl,hz,he,q⟩:=h;obtain⟨t,rfl⟩:=rx;obtain⟨t',rfl⟩:=ry;obtain⟨j,h1,h2,h3,h4,h5⟩:=Xx he;have hl:z.cps.toList.length=z.length:=by simp[Str.length]
 rw[hl] at h1 h4 h5;have hn:=L3;exact tail_any (typeIs_str s z t) slot_str_getitem.lookup (getItem_str (c:=c) (by
  have e1:decide (i < -(2^63:Int))=false:=FX (by lia)
  have e2:decide (i≥2^63)=false:=FX (by lia)
  rw[e1,e2,Bool.or_false]) (by rw[h1];simpa using h2) ⟨.str ⟨#[c]⟩,H,I.tok _,⟨_,rfl⟩,q⟩) hs
theorem cp(its:List Value)(n j:Nat)(u:Value):Obj.mapSeq (·.setIfInBounds j u) {cls:=.type "list",data:=.seq its.toArray n}={cls:=.type "list",data:=.seq (its.set j u).toArray n}:=by
 simp[Obj.mapSeq]
theorem Inv.lst(I:Inv X pins Z H s)(h:H p=some (.lst xs)) :
  ∃(its:List Value) (n:Nat),AC xs its/\s.heap.get? p=some {cls:=.type "list",data:=.seq its.toArray n}/\xs.length<=sizeLine:=by
 obtain⟨z,its,n,r,e⟩:=I.hok p _ h;exact⟨its,n,r,e,z⟩
theorem Inv.lstUpd{ys:List V}{its':List Value}{n':Nat}{f:Obj->Obj}(I:Inv X pins Z H s)(h:H p=some (.lst xs))
  (ho:s.heap.get? p=some {cls:=.type "list",data:=.seq its.toArray n}) (hf:f {cls:=.type "list",data:=.seq its.toArray n}={cls:=.type "list",data:=.seq its'.toArray n'}) (r:AC ys its') (hz:ys.length<=sizeLine) (t:Nat) :
  Inv X pins Z (upd H p (.lst ys)) {s with heap:=s.heap.update p f,toks:=t}:=by
 have e:(s.heap.update p f).get? p=some {cls:=.type "list",data:=.seq its'.toArray n'}:=by
  rw[Zwz f ho (by rw[hf]<;>rfl),hf]
 refine I.write (x:=p) (e:=p) (by rw[h];trivial) (.inl rfl) (λb u hb q=>(Zy1 _ _ (Zzi hb)).trans q) ⟨_,e⟩ ?_;exact⟨hz,its',n',r,e⟩
def EU:V->V->V->Hp->(Hp->Prop)->Prop:=λo i v H Q=>∃p xs k j,o=.ref p/\i=.int k/\H p=some (.lst xs)/\ixN xs.length k=some j/\Q (upd H p (.lst (xs.set j v)))
theorem Gk:wo X EU:=by
 intro pins s Z H o i v ov iv u Q I ro ri rv h;obtain⟨p,xs,k,j,rfl,rfl,hp,hj,q⟩:=h;cases ro;obtain⟨t,rfl⟩:=ri;obtain⟨its,n,r,ho,hz⟩:=I.lst hp;obtain⟨h1,h2,h3,h4⟩:=ic hj;have hl:=r.length;have hn:=L3;have I':Inv X pins Z (upd H p (.lst (xs.set j v))) {s with heap:=s.heap.update p (Obj.mapSeq (·.setIfInBounds j u))} :=
  I.lstUpd hp ho (cp its n j u) (r.set rv j) (by rw[List.length_set];exact hz) s.toks
 by_cases h0:0<=k
 ·have hk:k.toNat=j:=by
   rw[seqIndex_of h0 h4] at h1;exact Zzh h1
  exact PySem.W.ki_setAt ho h0 (by lia) (by rw[Zzn,<- hl];exact h4) (by rw[hk];exact⟨_,I',q⟩)
 ·have hk:(k+(its.toArray.size:Int)).toNat=j:=by
   rw[seqIndex_neg (by lia) h3] at h1;rw[Zzn,<- hl];exact Zzh h1
  exact PySem.W.ki_setBack ho (by lia) (by rw[Zzn,<- hl];exact h3) (by lia) (by rw[hk];exact⟨_,I',q⟩)
theorem Wa(lo hi:Option Int)(n:Nat):(sliceBounds lo hi none n).1=((HT.sIx n 0 lo:Nat):Int)/\(sliceBounds lo hi none n).2.1=((HT.sIx n n hi:Nat):Int)/\(sliceBounds lo hi none n).2.2=1:=by
 refine⟨?_,?_,rfl⟩
 ·cases lo with
  |none=>simp[sliceBounds,HT.sIx]
  |some i =>
   simp only[sliceBounds,HT.sIx,Option.getD_none,show (1:Int) > 0 by decide,if_true];by_cases h:i<0
   ·simp only[h,if_true]<;>lia
   ·simp only[h,if_false]<;>lia
 ·cases hi with
  |none=>simp[sliceBounds,HT.sIx]
  |some i =>
   simp only[sliceBounds,HT.sIx,Option.getD_none,show (1:Int) > 0 by decide,if_true];by_cases h:i<0
   ·simp only[h,if_true]<;>lia
   ·simp only[h,if_false]<;>lia
theorem To(its:List Value)(lo hi:Option Int):slicePick its.toArray lo hi none=((its.drop (HT.sIx its.length 0 lo)).take (HT.sIx its.length its.length hi - HT.sIx its.length 0 lo)).toArray:=by
 obtain⟨h1,h2,h3⟩:=Wa lo hi its.toArray.size;unfold slicePick;rw[h1,h2,h3];simp only[sliceRange_one,pick_run,Zzn]<;>rfl
def rSlL(K:Zzw):V->Option Int->Option Int->Hp->VK->Prop:=λx lo hi H Q=>∃a xs,x=.ref a/\SqL K H a xs/\∀p,H p=none->Q (.ref p) (upd H p (.lst (E7 xs lo hi)))
theorem xg:SlR X (rSlL X.K):=by
 intro pins s Z H x v vl vu lo hi sl Q I rx hs pl pu h;obtain⟨a,xs,rfl,hx,q⟩:=h;cases rx;obtain⟨its,r,ht,hz⟩:=I.list hx;have hlen:=r.length;refine⟨"list",_,slot_list_getitem.lookup,ht.isList.typeIs,?_⟩;refine wpAny_getItem_list_slice ht.isList hs pl pu .none (by simp) ?_ (by rw[Zzn]<;>lia);rw[To,<- hlen];refine⟨.ref s.heap.objs.size,_,I.laid (t':=s.toks) (o:=.lst (E7 xs lo hi)) (λb ob q=>Zzx _ q) (Zzq _) ?_,rfl,q _ (I.hok.fresh (Zzq _))⟩;exact⟨Zzd (Q0 xs lo hi) hz,_,0,(r.drop (HT.sIx xs.length 0 lo)).take (HT.sIx xs.length xs.length hi - HT.sIx xs.length 0 lo),Zzj _ rfl⟩
noncomputable def Io:V->Bool
 |.non=>true
 |.bl _=>true
 |.int _=>true
 |.str _=>true
 |_=>false
noncomputable def eqV:V->V->Bool
 |.non,.non=>true
 |.bl a,.bl b=>a == b
 |.bl a,.int b=>(if a then 1 else 0) == b
 |.int a,.bl b=>a == (if b then 1 else 0)
 |.int a,.int b=>a == b
 |.str a,.str b=>a == b
 |_,_=>false
theorem A1f{x:V}{v:Value}(ry:AD y u)(rx:AD x v)(fy:Io y=true)(fx:Io x=true):SeqAt.EqAt A s u v (eqV y x):=by
 cases y with
 |non =>
  cases ry;cases x with
  |non=>cases rx;exact SeqAt.EqAt.same _
  |bl b=>cases rx;exact SeqAt.EqAt.none_bool b
  |int b=>obtain⟨t,rfl⟩:=rx;exact SeqAt.EqAt.none_int b t
  |str b=>obtain⟨t,rfl⟩:=rx;exact SeqAt.EqAt.none_str b t
  |_=>exact absurd (show false=true from fx) Zz8
 |bl a =>
  cases ry;cases x with
  |non=>cases rx;exact SeqAt.EqAt.bool_none a
  |bl b=>cases rx;exact SeqAt.EqAt.bool_bool a b
  |int b=>obtain⟨t,rfl⟩:=rx;exact SeqAt.EqAt.bool_int a b t
  |str b=>obtain⟨t,rfl⟩:=rx;exact SeqAt.EqAt.bool_str a b t
  |_=>exact absurd (show false=true from fx) Zz8
 |int a =>
  obtain⟨t',rfl⟩:=ry;cases x with
  |non=>cases rx;exact SeqAt.EqAt.int_none a t'
  |bl b=>cases rx;exact SeqAt.EqAt.int_bool a t' b
  |int b=>obtain⟨t,rfl⟩:=rx;exact SeqAt.EqAt.int_int a t' b t
  |str b=>obtain⟨t,rfl⟩:=rx;exact SeqAt.EqAt.int_str a t' b t
  |_=>exact absurd (show false=true from fx) Zz8
 |str a =>
  obtain⟨t',rfl⟩:=ry;cases x with
  |non=>cases rx;exact SeqAt.EqAt.str_none a t'
  |bl b=>cases rx;exact SeqAt.EqAt.str_bool a t' b
  |int b=>obtain⟨t,rfl⟩:=rx;exact SeqAt.EqAt.str_int a t' b t
  |str b=>obtain⟨t,rfl⟩:=rx;exact SeqAt.EqAt.str_str a t' b t
  |_=>exact absurd (show false=true from fx) Zz8
 |_=>exact absurd (show false=true from fy) Zz8
noncomputable def eqU(x:V)(u:Value):Bool:=match u with
 |.none=>eqV .non x
 |.bool b=>eqV (.bl b) x
 |.int i _=>eqV (.int i) x
 |.str z _=>eqV (.str z) x
 |_=>false
theorem db{x:V}(r:AD y u)(f:Io y=true):eqU x u=eqV y x:=by
 cases y with
 |non=>cases r;rfl
 |bl b=>cases r;rfl
 |int i=>obtain⟨t,rfl⟩:=r;rfl
 |str z=>obtain⟨t,rfl⟩:=r;rfl
 |_=>exact absurd (show false=true from f) Zz8
theorem O4{x:V}:∀{xs:List V} {us:List Value},AC xs us->xs.all Io=true->us.any (eqU x)=xs.any λy=>eqV y x
 |_,_,.nil,_=>rfl
 |y::xs,u::us,.cons r t,f=>by
  rw[Zw4,Zyy] at f;rw[Zw3,Zw3,db r f.1,O4 t f.2]
theorem Jj{x:V}{v:Value}(rx:AD x v)(fx:Io x=true):∀{xs:List V} {us:List Value},AC xs us->xs.all Io=true->∀u∈us,SeqAt.EqAt A s u v (eqU x u)
 |_,_,.nil,_=>λu hu=>by cases hu
 |y::xs,u::us,.cons r t,f=>λu' hu=>by
  rw[Zw4,Zyy] at f;rcases Zzs.mp hu with rfl | hu
  ·rw[db r f.1];exact A1f r rx f.1 fx
  ·exact Jj rx fx t f.2 u' hu
noncomputable def inV(x:V)(xs:List V):Bool:=xs.any λy=>eqV y x
def rIn(K:Zzw)(neg:Bool):R2:=λx y H Q=>∃p xs,y=.ref p/\(SqL K H p xs\/SqT K H p xs)/\Io x=true/\xs.all Io=true/\Q (.bl (if neg then !inV x xs else inV x xs)) H
theorem ju:OpR X (compareOp .In) (rIn X.K false):=by
 intro pins s Z H x y v u Q I rx ry h;obtain⟨p,xs,rfl,hq,fx,fs,q⟩:=h;cases ry;rcases hq with hq | hq
 ·obtain⟨its,r,pl,hz⟩:=I.list hq;refine SeqAt.in_listAt (eqU x) pl.isList (λw hw=>Jj rx fx r fs w (by simpa using hw)) ⟨.bl _,H,I,rfl,?_⟩;rw[show its.toArray.any (eqU x)=its.any (eqU x) by simp,O4 r fs];exact q
 ·obtain⟨its,r,pl,hz⟩:=I.tuple hq;refine SeqAt.in_tupleAt (eqU x) pl (λw hw=>Jj rx fx r fs w (by simpa using hw)) ⟨.bl _,H,I,rfl,?_⟩;rw[show its.toArray.any (eqU x)=its.any (eqU x) by simp,O4 r fs];exact q
theorem Wn:OpR X (compareOp .NotIn) (rIn X.K true):=by
 intro pins s Z H x y v u Q I rx ry h;obtain⟨p,xs,rfl,hq,fx,fs,q⟩:=h;cases ry;rcases hq with hq | hq
 ·obtain⟨its,r,pl,hz⟩:=I.list hq;refine SeqAt.notIn_listAt (eqU x) pl.isList (λw hw=>Jj rx fx r fs w (by simpa using hw)) ⟨.bl _,H,I,rfl,?_⟩;rw[show its.toArray.any (eqU x)=its.any (eqU x) by simp,O4 r fs];exact q
 ·obtain⟨its,r,pl,hz⟩:=I.tuple hq;refine SeqAt.notIn_tupleAt (eqU x) pl (λw hw=>Jj rx fx r fs w (by simpa using hw)) ⟨.bl _,H,I,rfl,?_⟩;rw[show its.toArray.any (eqU x)=its.any (eqU x) by simp,O4 r fs];exact q
theorem Wm:OpR X (compareOp .NotIn) (λx y H Q=>∃i j,x=.str i/\y=.str j/\Q (.bl (!(!(Zv7 j i 0 j.length 1).isEmpty))) H):=by
 intro pins s Z H x y v u Q I rx ry h;obtain⟨i,j,rfl,rfl,q⟩:=h;obtain⟨t,rfl⟩:=rx;obtain⟨t',rfl⟩:=ry;exact notIn_str ⟨.bl _,H,I,rfl,q⟩
theorem Hu:AK X (.builtin "len") (λxs H Q=>∃p ys,xs=[.ref p]/\(SqL X.K H p ys\/SqT X.K H p ys)/\Q (.int ys.length) H):=by
 intro pins s Z H xs us Q I r h;obtain⟨p,ys,rfl,hq,q⟩:=h;obtain⟨u,rfl,rx⟩:=Fc r;cases rx;have hn:=L3;rcases hq with hq | hq
 ·obtain⟨its,r',pl,hz⟩:=I.list hq;have hlen:=r'.length;exact Calls.call_len_list pl.isList (by simp only[Zzn]<;>lia) ⟨.int ys.length,H,I.tok _,⟨s.toks+1,by rw[Zzn,hlen]⟩,q⟩
 ·obtain⟨its,r',pl,hz⟩:=I.tuple hq;have hlen:=r'.length;exact len_tuple pl (by simp only[Zzn]<;>lia) ⟨.int ys.length,H,I.tok _,⟨s.toks+1,by rw[Zzn,hlen]⟩,q⟩
theorem Xt:AK X (.builtin "len") (λxs H Q=>∃z,xs=[.str z]/\z.length<=sizeLine/\Q (.int z.length) H):=by
 intro pins s Z H xs us Q I r h;obtain⟨z,rfl,hz,q⟩:=h;obtain⟨u,rfl,t,rfl⟩:=Fc r;have hn:=L3;exact len_str (by lia) ⟨.int z.length,H,I.tok _,⟨_,rfl⟩,q⟩
theorem Xs:AK X (.type "list") (λxs H Q=>∃p ys,xs=[.ref p]/\(SqL X.K H p ys\/SqT X.K H p ys)/\∀l,H l=none->Q (.ref l) (upd H l (.lst ys))):=by
 intro pins s Z H xs us Q I r h;obtain⟨p,ys,rfl,hq,q⟩:=h;obtain⟨u,rfl,rx⟩:=Fc r;cases rx;have fin:∀(its:List Value),AC ys its->ys.length<=sizeLine->∀(h':Heap) (c':Nat),(∀b o',s.heap.get? b=some o'->h'.get? b=some o') ->
   h'.get? s.heap.objs.size=some {cls:=.type "list",dict:=none,data:=.seq its.toArray c',slots:=#[]}->EP X pins Z Q (.ref s.heap.objs.size) {s with heap:=h'}:=λits r' hz h' c' kp e =>
  ⟨.ref s.heap.objs.size,_,I.laid (t':=s.toks) kp (Zzq _) (show AJ X.prog X.w _ h' _ (.lst ys) from ⟨hz,its,c',r',e⟩),rfl,q _ (I.hok.fresh (Zzq _))⟩
 rcases hq with hq | hq
 ·obtain⟨its,r',pl,hz⟩:=I.list hq;have hlen:=r'.length;obtain⟨o,ho,hc,n,hd⟩:=pl.isList;exact call_list_seq p (.inl rfl) ho hc hd (λh' c' kp e=>fin its r' hz h' c' kp e) (by simp only[Zzn]<;>lia)
 ·obtain⟨its,r',pl,hz⟩:=I.tuple hq;have hlen:=r'.length;obtain⟨o,ho,hc,n,hd⟩:=pl;exact call_list_seq p (.inr rfl) ho hc hd (λh' c' kp e=>fin its r' hz h' c' kp e) (by simp only[Zzn]<;>lia)
theorem U8:AK X (.type "tuple") (λxs H Q=>∃p ys,xs=[.ref p]/\((SqL X.K H p ys/\∀l,H l=none->Q (.ref l) (upd H l (.tup ys)))\/(SqT X.K H p ys/\Q (.ref p) H))):=by
 intro pins s Z H xs us Q I r h;obtain⟨p,ys,rfl,h⟩:=h;obtain⟨u,rfl,rx⟩:=Fc r;cases rx;rcases h with ⟨hq,q⟩ | ⟨hq,q⟩
 ·obtain⟨its,r',pl,hz⟩:=I.list hq;have hlen:=r'.length;refine call_tuple_list pl.isList (λh' kp=>?_) (by simp only[Zzn]<;>lia);have I1:Inv X pins Z H {s with heap:=h'}:=I.kept (t':=s.toks) kp;have I2:Inv X pins Z (upd H h'.objs.size (.tup ys)) {s with heap:=h'.push {cls:=.type "tuple",data:=.seq its.toArray}} :=
   I1.laid (t':=s.toks) (λb o e=>Zzx _ e) (Zzq _) (show AJ X.prog X.w _ _ _ (.tup ys) from ⟨hz,its,r',IsTup.new _ _⟩)
  exact⟨.ref h'.objs.size,_,I2,rfl,q _ (I1.hok.fresh (Zzq _))⟩
 ·obtain⟨its,r',pl,hz⟩:=I.tuple hq;exact call_tuple_same pl ⟨.ref p,H,I,rfl,q⟩
def tyV(K:Zzw)(T:String)(x:V)(H:Hp):Prop:=match x with
 |.str _=>T = "str"
 |.int _=>T = "int"
 |.ref p=>(T = "list" /\ ∃xs,SqL K H p xs)\/(T = "tuple" /\ ∃o,K.lookup p=some o/\o.cls=.type "tuple" /\ o.dict=none) \/
   (T = "dict" /\ ((∃kvs,H p=some (.dK kvs))\/∃kvs,H p=some (.dT kvs)))\/(T = "set" /\ ∃S n,H p=some (.set S n))
 |_=>False
theorem A0k{x:V}{v:Value}(I:Inv X pins Z H s)(r:AD x v)(ty:tyV X.K T x H) :
  s.TypeIs v T/\∀a,v=.ref a->∃ob,s.heap.get? a=some ob/\ob.dict=none:=by
 cases x with
 |str z =>
  obtain⟨t,rfl⟩:=r;cases (show T = "str" from ty);exact⟨typeIs_str s z t,λ_ e=>nomatch e⟩
 |int i =>
  obtain⟨t,rfl⟩:=r;cases (show T = "int" from ty);exact⟨typeIs_int s i t,λ_ e=>nomatch e⟩
 |ref p =>
  cases r;rcases ty with ⟨rfl,xs,hq⟩ | ⟨rfl,o,hk,hc,hd⟩ | ⟨rfl,hk⟩ | ⟨rfl,S,n,hk⟩
  ·obtain⟨its,_,pl,_⟩:=I.list hq;refine⟨pl.isList.typeIs,λa e=>?_⟩;cases e;obtain⟨o,n,e,c,hd,_⟩:=pl;exact⟨o,e,hd⟩
  ·refine⟨⟨o,I.kIn p o hk,hc⟩,λa e=>?_⟩;cases e;exact⟨o,I.kIn _ o hk,hd⟩
  ·have z:∃o,s.heap.get? p=some o/\o.ExactDict:=by
    rcases hk with ⟨kvs,hk⟩ | ⟨kvs,hk⟩
    ·obtain⟨_,_,_,_,o,_,_,e,ex,_⟩:=I.hok p _ hk;exact⟨o,e,ex⟩
    ·obtain⟨_,_,_,_,o,_,_,e,ex,_⟩:=I.hok p _ hk;exact⟨o,e,ex⟩
   obtain⟨o,e,ex⟩:=z;refine⟨⟨o,e,ex.1⟩,λa e2=>?_⟩;cases e2;exact⟨o,e,ex.2.1⟩
  ·obtain⟨o,_,_,_,e,ex,_⟩:=I.hok p _ hk;refine⟨⟨o,e,ex.1⟩,λa e2=>?_⟩;cases e2;exact⟨o,e,ex.2.1⟩
 |_=>exact False.elim ty
variable {o:Expr}{to:TE}{cpos:Pos}{id:String}{r:V->List V->Hp->VK->Prop}
end
def MtM(X:Cx)(id:String)(r:V->List V->Hp->VK->Prop):Prop :=
 ∀(pins:List (Addr×Obj)) (s:Shared) (Z:St) (H:Hp) (x:V) (xs:List V) (v:Value) (us:List Value) (Q:VK),Inv X pins Z H s->AD x v->AC xs us->r x xs H Q ->
  wpAny (model X.prog X.w) X.A (call (.builtin id) (v::us)) (EP X pins Z Q) X.xe s
theorem AC.one:∀{x:V} {us:List Value},AC [x] us->∃u,us=[u]/\AD x u
 |_,_,.cons r .nil=>⟨_,rfl,r⟩
theorem AC.reverse(h:AC xs us):AC xs.reverse us.reverse:=by
 induction h with
 |nil=>exact .nil
 |cons r t ih=>rw[List.reverse_cons,List.reverse_cons];exact AC.append ih (.cons r .nil)
theorem AC.rep(h:AC xs us):∀k:Nat,AC (Zy8 k xs).flatten (Zy8 k us).flatten
 |0=>.nil
 |k+1=>by
  rw[Zxp,Zxp,Zxv,Zxv];exact AC.append h (AC.rep h k)
theorem Vi(its:List Value):∀(k:Nat) (acc:List Value),
  List.foldl (λx1 x2=>x1++x2) acc.toArray (Zy8 k its.toArray)=(acc++(Zy8 k its).flatten).toArray
 |0,acc=>by simp
 |k+1,acc=>by
  have e:acc.toArray++its.toArray=(acc++its).toArray:=by simp
  have e2:(acc++its)++(Zy8 k its).flatten=acc++(Zy8 (k+1) its).flatten:=by
   rw[Zxp,Zxv,Zwk]
  rw[<- e2,<- Vi its k (acc++its),<- e,Zxp,List.foldl_cons]
section
variable {l:Addr}{ys zs:List V}
theorem Inv.lset{its':List Value}{f:Array Value->Array Value}(I:Inv X pins Z H s)(hH:H l=some (.lst xs))
  (e:s.heap.get? l=some {cls:=.type "list",data:=.seq its.toArray n}) (hf:f its.toArray=its'.toArray) (hv:AC ys its') (hz:ys.length<=sizeLine) :
  Inv X pins Z (upd H l (.lst ys)) {s with heap:=s.heap.update l (Obj.mapSeq f),toks:=t'}:=by
 have q:=PySem.IsL.update e f;rw[hf] at q;refine I.write (x:=l) (e:=l) (by rw[hH];exact trivial) (.inl rfl) (λb' u hb hu=>(Zy1 s.heap (Obj.mapSeq f) (Zzi hb)).trans hu) ⟨_,q⟩ ?_;exact⟨hz,its',_,hv,q⟩
theorem Inv.lnew(I:Inv X pins Z H s)(hv:AC ys its)(hz:ys.length<=sizeLine) :
  Inv X pins Z (upd H s.heap.objs.size (.lst ys)) {s with heap:=s.heap.push {cls:=.type "list",data:=.seq its.toArray},toks:=t'} :=
 I.laid (λ_ _ q=>Zzx _ q) (Zzq _) ⟨hz,its,0,hv,Zzj _ rfl⟩
theorem Inv.fresh(I:Inv X pins Z H s):H s.heap.objs.size=none:=I.hok.fresh (Zzq _)
theorem Inv.lstM(I:Inv X pins Z H s)(hH:H l=some (.lst xs)):xs.length<=sizeLine/\∃(its:List Value) (n:Nat),AC xs its/\xs.length=its.length/\s.heap.get? l=some {cls:=.type "list",data:=.seq its.toArray n}:=by
 obtain⟨z,its,n,r,e⟩:=I.hok l _ hH;exact⟨z,its,n,r,r.length,e⟩
theorem Zh(h:n<=sizeLine):Zwe n=false:=by
 unfold Zwe;exact FX (by lia)
end
def EZ:V->List V->Hp->VK->Prop:=λx vs H Q=>∃l xs y,x=.ref l/\vs=[y]/\H l=some (.lst xs)/\xs.length<sizeLine/\Q .non (upd H l (.lst (xs++[y])))
theorem Ck:MtM X "list.append" EZ:=by
 intro pins s Z H x vs v us Q I rx rv h;obtain⟨l,xs,y,rfl,rfl,hH,hz,q⟩:=h;cases rx;obtain⟨u,rfl,ru⟩:=rv.one;obtain⟨z,its,n,r,hl,e⟩:=I.lstM hH;refine call_meets F.slot_list_append ⟨_,e,rfl⟩ F.entry_list_append (F.args_list_append_2 _ _) (PySem.list_append l its.toArray n u (by rw[Zzn];lia)) ⟨e,?_⟩;refine⟨.non,_,I.lset (its':=its++[u]) hH e (by simp) (r.append (.cons ru .nil)) ?_,rfl,q⟩;rw[Zyv,Zxe];lia
def FA:V->List V->Hp->VK->Prop:=λx vs H Q=>∃l b xs zs,x=.ref l/\vs=[.ref b]/\H l=some (.lst xs)/\H b=some (.lst zs)/\xs.length+zs.length<=sizeLine/\Q .non (upd H l (.lst (xs++zs)))
theorem Ll:MtM X "list.extend" FA:=by
 intro pins s Z H x vs v us Q I rx rv h;obtain⟨l,b,xs,zs,rfl,rfl,hH,hB,hz,q⟩:=h;cases rx;obtain⟨u,rfl,ru⟩:=rv.one;cases ru;obtain⟨z,its,n,r,hl,e⟩:=I.lstM hH;obtain⟨z2,its2,n2,r2,hl2,e2⟩:=I.lstM hB;have hsz:its.toArray.size+its2.toArray.size<=sizeLine:=by rw[Zzn,Zzn];lia
 have hlong:¬ (!its.toArray.isEmpty&&Zwe (its.toArray.size+its2.toArray.size))=true:=by
  rw[Zh hsz,Bool.and_false];exact Zz8
 refine call_meets F.slot_list_extend ⟨_,e,rfl⟩ F.entry_list_extend (F.args_list_extend_2 _ _)
  (AutoSeq1.list_extend_list_list_0 l its.toArray n b its2.toArray n2 hlong (by rw[Zzn];lia) (by lia)) ⟨e,e2,?_⟩
 refine⟨.non,_,I.lset (its':=its++its2) hH e (by simp) (r.append r2) ?_,rfl,q⟩;rw[Zyv];lia
def Wh:V->List V->Hp->VK->Prop:=λx vs H Q=>∃l xs i k y,x=.ref l/\vs=[.int i]/\H l=some (.lst xs)/\-(2^63)<=i/\i<2^63/\seqIndex? i xs.length=some k/\xs[k]?=some y/\Q y (upd H l (.lst (xs.eraseIdx k)))
def N8:V->List V->Hp->VK->Prop:=λx vs H Q=>∃l xs,x=.ref l/\vs=[]/\H l=some (.lst xs)/\Q .non (upd H l (.lst xs.reverse))
def rCat:R2:=λx y H Q=>∃l b xs zs,x=.ref l/\y=.ref b/\H l=some (.lst xs)/\H b=some (.lst zs)/\xs.length+zs.length<=sizeLine/\∀p,H p=none->Q (.ref p) (upd H p (.lst (xs++zs)))
theorem Ig:OpR X (binaryOp .Add) rCat:=by
 intro pins s Z H x y v u Q I rx ry h;obtain⟨l,b,xs,zs,rfl,rfl,hH,hB,hz,q⟩:=h;cases rx;cases ry;obtain⟨z,its,n,r,hl,e⟩:=I.lstM hH;obtain⟨z2,its2,n2,r2,hl2,e2⟩:=I.lstM hB;refine PySem.P.add_list e e2 ?_ (by rw[Zzn,Zzn];lia);have ea:its.toArray++its2.toArray=(its++its2).toArray:=by simp
 rw[ea];exact⟨.ref _,_,I.lnew (t':=s.toks) (r.append r2) (by rw[Zyv];lia),rfl,q _ I.fresh⟩
def rRep:R2:=λx y H Q=>∃l k xs,x=.ref l/\y=.int k/\H l=some (.lst xs)/\-(2^63)<=k/\k<2^63/\xs.length*k.toNat<=sizeLine /\
 ∀p,H p=none->Q (.ref p) (upd H p (.lst (Zy8 k.toNat xs).flatten))
theorem i8{α:Type}(xs:List α)(k:Nat):(Zy8 k xs).flatten.length=k*xs.length:=by
 induction k with
 |zero=>simp
 |succ k ih=>rw[Zxp,Zxv,Zyv,ih,Nat.succ_mul,Nat.add_comm]
theorem Wl:OpR X (binaryOp .Mult) rRep:=by
 intro pins s Z H x y v u Q I rx ry h;obtain⟨l,k,xs,rfl,rfl,hH,h1,h2,hz,q⟩:=h;cases rx;obtain⟨t,rfl⟩:=ry;obtain⟨z,its,n,r,hl,e⟩:=I.lstM hH;have hlen:its.toArray.size*k.toNat<=sizeLine:=by rw[Zzn,<- hl];exact hz
 have hcap:¬ its.toArray.size*k.toNat > (2^63 - 1) / 8:=by
  have:(sizeLine:Nat)<=(2^63 - 1) / 8:=by decide
  lia
 have hfit:¬ (!Builtin.List.listFitsIndex k)=true:=by
  rw[fitsIndex_both h1 h2];exact Zz8
 have hlong:¬ Zwe (its.toArray.size*k.toNat)=true:=by
  rw[Zh hlen];exact Zz8
 have hnew:List.foldl (λx1 x2=>x1++x2) #[] (Zy8 (if its.toArray.isEmpty=true then 0 else k.toNat) its.toArray)=(Zy8 k.toNat its).flatten.toArray:=by
  have f0:∀m:Nat,List.foldl (λx1 x2=>x1++x2) #[] (Zy8 m its.toArray)=(Zy8 m its).flatten.toArray:=λm=>by
   have:=Vi its m [];rw[Zxk] at this;exact this
  rw[f0];cases its with
  |nil=>simp
  |cons a r'=>rw[FY (by simp)]
 refine wpAny_binaryOp_repeat_ref (T := "list") (U := "int") (by decide) ⟨_,e,rfl⟩ (λs'=>typeIs_int s' k t) noFill_list_mul F.fills_int_mul F.slot_int_rmul repeat_list F.slot_int_index.lookup
  (call_meets F.slot_int_rmul (typeIs_int s k t) F.entry_int_rmul (F.args_int_rmul_2 _ _) (int___rmul___int_list k t l its.toArray n)
   ⟨e,rfl,⟨_,e,rfl⟩,call_meets F.slot_list_mul ⟨_,e,rfl⟩ F.entry_list_mul (F.args_list_mul_2 _ _) (AutoListH.list___mul___list_int_3 l its.toArray n k t hfit hcap hlong) ⟨e,?_⟩⟩)
 rw[hnew];exact⟨.ref _,_,I.lnew (t':=s.toks) (r.rep k.toNat) (by rw[i8,Nat.mul_comm];exact hz),rfl,q _ I.fresh⟩
section
variable {κ:Type}[DecidableEq κ]
noncomputable def Cy(kvs:List (κ×V))(k:κ):Option V:=(kvs.find? λkv=>decide (kv.1=k)).map (·.2)
noncomputable def Gx(kvs:List (κ×V))(k:κ)(v:V):List (κ×V) :=
 if (kvs.any λkv=>decide (kv.1=k))=true then kvs.map (λkv=>if kv.1=k then (kv.1,v) else kv) else kvs++[(k,v)]
theorem Dl{p:κ×V}{r:List (κ×V)}{k:κ}(e:p.1=k):Cy (p::r) k=some p.2:=by simp[Cy,Zw0,e]
theorem D9{p:κ×V}{r:List (κ×V)}{k:κ}(e:¬ p.1=k):Cy (p::r) k=Cy r k:=by simp[Cy,Zw0,e]
theorem Gj(k:κ):∀kvs:List (κ×V),(kvs.any λkv=>decide (kv.1=k))=(Cy kvs k).isSome
 |[]=>rfl
 |p::r=>by
  rw[Zw3];by_cases e:p.1=k
  ·simp only[Dl e,FW e,Bool.true_or,Option.isSome_some]
  ·rw[D9 e,FX e,Bool.false_or];exact Gj k r
theorem Y9(k j:κ)(y:V):∀kvs:List (κ×V),Cy (kvs.map λkv=>if kv.1=k then (kv.1,y) else kv) j=(Cy kvs j).map λx=>if j=k then y else x
 |[]=>rfl
 |p::r=>by
  have ih:=Y9 k j y r;rw[Zza];by_cases h:p.1=k
  ·rw[FZ h];by_cases e:p.1=j
   ·rw[Dl (p:=(p.1,y)) e,Dl e,Zw1,FZ (e.symm.trans h)]
   ·rw[D9 (p:=(p.1,y)) e,D9 e,ih]
  ·rw[FY h];by_cases e:p.1=j
   ·rw[Dl (p:=p) e,Dl e,Zw1,FY (λz=>h (e.trans z))]
   ·rw[D9 (p:=p) e,D9 e,ih]
theorem Ub(k j:κ)(y:V):∀kvs:List (κ×V),Cy kvs k=none->Cy (kvs++[(k,y)]) j=if j=k then some y else Cy kvs j
 |[],_=>by
  by_cases e:k=j
  ·rw[FZ e.symm];exact Dl (p:=(k,y)) e
  ·rw[FY (λz=>e z.symm)];exact D9 (p:=(k,y)) e
 |p::r,hn=>by
  rw[Zx2];have hk:¬ p.1=k:=λz=>by rw[Dl z] at hn;cases hn
  rw[D9 hk] at hn;have ih:=Ub k j y r hn;by_cases e:p.1=j
  ·rw[Dl e,Dl e,FY (λz=>hk (e.trans z))]
  ·rw[D9 e,D9 e,ih]
theorem Hw(kvs:List (κ×V))(k j:κ)(y:V):Cy (Gx kvs k y) j=if j=k then some y else Cy kvs j:=by
 unfold Gx;by_cases a:(kvs.any λkv=>decide (kv.1=k))=true
 ·rw[FZ a,Y9];rw[Gj] at a;by_cases e:j=k
  ·obtain⟨x,hx⟩:=Option.isSome_iff_exists.mp a;rw[FZ e,e,hx,Zw1,FZ rfl]
  ·rw[FY e];cases Cy kvs j with
   |none=>rfl
   |some x=>rw[Zw1,FY e]
 ·rw[FY a];refine Ub k j y kvs ?_;rw[Gj] at a;cases q:Cy kvs k with
  |none=>rfl
  |some x=>rw[q] at a;exact(a rfl).elim
theorem L4(kvs:List (κ×V))(k:κ)(v:V):(Gx kvs k v).length<=kvs.length+1:=by
 unfold Gx;split
 ·rw[Zzz];lia
 ·rw[Zyv,Zys,Zx6];lia
theorem Rz{kvs:List (κ×V)}{k:κ}(v:V)(h:Cy kvs k=none):Gx kvs k v=kvs++[(k,v)]:=by
 unfold Gx;rw[Gj,h];exact FY (by decide)
theorem AZ.isSome_eq{o:Option V}{u:Option Value}(r:AZ o u):o.isSome=u.isSome:=by
 cases o with
 |none=>cases u with
  |none=>rfl
  |some _=>exact(show False from r).elim
 |some _=>cases u with
  |none=>exact(show False from r).elim
  |some _=>rfl
theorem KV.val{kvs:List (κ×V)}{vs:List (κ×Value)}(r:KV kvs vs)(k:κ):AZ (Cy kvs k) (valueAt vs k):=by
 unfold KV at r;induction r with
 |nil=>exact True.intro
 |@cons p q ps qs h t ih =>
  obtain⟨h1,h2⟩:=h;by_cases e:p.1=k
  ·have e':q.1=k:=h1.symm.trans e
   have b:valueAt (q::qs) k=some q.2:=by simp[valueAt,Zw0,e']
   rw[Dl e,b];exact h2
  ·have e':¬ q.1=k:=λz=>e (h1.trans z)
   have b:valueAt (q::qs) k=valueAt qs k:=by simp[valueAt,Zw0,e']
   rw[D9 e,b];exact ih
theorem KV.any{kvs:List (κ×V)}{vs:List (κ×Value)}(r:KV kvs vs)(k:κ):(kvs.any λkv=>decide (kv.1=k))=vs.any λkv=>decide (kv.1=k):=by
 unfold KV at r;induction r with
 |nil=>rfl
 |cons h t ih=>rw[Zw3,Zw3,ih,h.1]
theorem KV.repl{kvs:List (κ×V)}{vs:List (κ×Value)}(r:KV kvs vs)(k:κ)(ry:AD y u) :
  KV (kvs.map λkv=>if kv.1=k then (kv.1,y) else kv) (vs.map λkv=>if kv.1=k then (kv.1,u) else kv):=by
 unfold KV at r ⊢;induction r with
 |nil=>exact .nil
 |@cons p q ps qs h t ih =>
  rw[Zza,Zza];refine .cons ?_ ih;obtain⟨h1,h2⟩:=h;by_cases e:p.1=k
  ·rw[FZ e,FZ (h1.symm.trans e)];exact⟨h1,ry⟩
  ·rw[FY e,FY (λz=>e (h1.trans z))];exact⟨h1,h2⟩
theorem KV.put{kvs:List (κ×V)}{vs:List (κ×Value)}(r:KV kvs vs)(k:κ)(ry:AD y u):KV (Gx kvs k y) (stored vs k u):=by
 unfold Gx stored;rw[r.any k];by_cases e:(vs.any λkv=>decide (kv.1=k))=true
 ·rw[FZ e,FZ e];exact r.repl k ry
 ·rw[FY e,FY e];exact Paired.snoc r ⟨rfl,ry⟩
theorem KV.length{kvs:List (κ×V)}{vs:List (κ×Value)}(r:KV kvs vs):kvs.length=vs.length:=Paired.length r
end
theorem Va{k:Key}(r:AD (kV k) u):(Bm P w).is k u=true:=by
 cases k with
 |inl i=>obtain⟨t,e⟩:=(show ∃t,u=Value.int i t from r);subst e;exact Zk P w i t
 |inr x=>obtain⟨t,e⟩:=(show ∃t,u=Value.str x t from r);subst e;exact Go P w x t
theorem Vc:∀{ks:List Key} {us:List Value},AC (ks.map kV) us->ItemsAre (Bm P w) ks us
 |[],_,r=>by rw[Zxn] at r;cases r;exact .nil
 |k::ks,_,r=>by
  rw[Zza] at r;cases r with
  |cons h t=>exact .cons (Va h) (Vc t)
abbrev KT(H:Hp):List (List Key×V)->List (List Key×Addr×Value)->Prop:=Paired λp q=>p.1=q.1/\H q.2.1=some (.tup (p.1.map kV))/\AD p.2 q.2.2
theorem KT.val{kvs:List (List Key×V)}{xs:List (List Key×Addr×Value)}(r:KT H kvs xs)(k:List Key):AZ (Cy kvs k) ((atKey xs k).map (·.2)):=by
 induction r with
 |nil=>exact True.intro
 |@cons p q ps qs h t ih =>
  obtain⟨h1,_,h2⟩:=h;by_cases e:p.1=k
  ·have e':q.1=k:=h1.symm.trans e
   have b:atKey (q::qs) k=some q.2:=by simp[atKey,Zw0,e']
   rw[Dl e,b];exact h2
  ·have e':¬ q.1=k:=λz=>e (h1.trans z)
   have b:atKey (q::qs) k=atKey qs k:=by simp[atKey,Zw0,e']
   rw[D9 e,b];exact ih
theorem KT.repl{kvs:List (List Key×V)}{xs:List (List Key×Addr×Value)}(r:KT H kvs xs)(k:List Key)(ry:AD y u) :
  KT H (kvs.map λkv=>if kv.1=k then (kv.1,y) else kv) (xs.map (putAt k u)):=by
 induction r with
 |nil=>exact .nil
 |@cons p q ps qs h t ih =>
  rw[Zza,Zza];refine .cons ?_ ih;obtain⟨h1,h2,h3⟩:=h;unfold putAt;by_cases e:p.1=k
  ·rw[FZ e,FZ (h1.symm.trans e)];exact⟨h1,h2,ry⟩
  ·rw[FY e,FY (λz=>e (h1.trans z))];exact⟨h1,h2,h3⟩
theorem KT.put{kvs:List (List Key×V)}{xs:List (List Key×Addr×Value)}(r:KT H kvs xs)(k:List Key)(hb:H b=some (.tup (k.map kV)))(ry:AD y u) :
  KT H (Gx kvs k y) (storedH xs k b u):=by
 have e:(kvs.any λkv=>decide (kv.1=k))=(atKey xs k).isSome:=by
  rw[Gj,(r.val k).isSome_eq,Option.isSome_map]
 unfold Gx storedH;rw[e];by_cases q:(atKey xs k).isSome=true
 ·rw[FZ q,FZ q];exact r.repl k ry
 ·rw[FY q,FY q];exact Paired.snoc r ⟨rfl,hb,ry⟩
theorem KT.keeps{kvs:List (List Key×V)}{xs:List (List Key×Addr×Value)}(r:KT H kvs xs)(ht:∀b ys,H b=some (.tup ys)->H' b=some (.tup ys)):KT H' kvs xs :=
 Paired.mapP r λ_ _ z=>⟨z.1,ht _ _ z.2.1,z.2.2⟩
theorem A04{u:HO}(ok:HOk P w H h)(e:Rd H a u):AJ P w H h a u:=e.ok ok
theorem T2(ok:HOk P w H h)(e:Rd H a (.dK kvs)):kvs.length<=sizeLine/\(a == sysModules)=false/\∃vs,KV kvs vs/\h.DictOf (Bm P w) a vs :=
 show AJ P w H h a (.dK kvs) from A04 ok e
theorem A2l(ok:HOk P w H h)(e:H a=some (.dK kvs)):kvs.length<=sizeLine/\(a == sysModules)=false/\∃vs,KV kvs vs/\h.DictOf (Bm P w) a vs:=T2 ok (.inl e)
theorem Sv(ok:HOk P w H h)(e:H a=some (.tup (ks.map kV))):(tupleKind (Bm P w)).is h ks a:=by
 obtain⟨_,its,r,o,h1,h2,n,h3⟩:=(show AJ P w H h a (.tup (ks.map kV)) from ok a _ e);exact⟨o,its.toArray,n,h1,h2,h3,by simpa using Vc r⟩
theorem Vl{kvs:List (List Key×V)}(ok:HOk P w H h)(e:Rd H a (.dT kvs)):kvs.length<=sizeLine/\(a == sysModules)=false /\
  ∃xs,KT H kvs xs/\h.DictOfH (tupleKind (Bm P w)) a xs:=by
 obtain⟨z,y,xs,r,o,es,ep,h1,h2,h3,h4,h5⟩:=(show AJ P w H h a (.dT kvs) from A04 ok e);refine⟨z,y,xs,r,o,es,ep,h1,h2,h3,h4,λx hx=>?_,h5⟩;have all:∀{l:List (List Key×V)} {m:List (List Key×Addr×Value)},KT H l m->∀x∈m,(tupleKind (Bm P w)).is h x.1 x.2.1:=by
  intro l m q;induction q with
  |nil=>intro x hx;exact nomatch hx
  |@cons p q ps qs hq t ih =>
   intro x hx;rcases Zzs.mp hx with e | hx
   ·subst e;exact Sv ok (by rw[<- hq.1];exact hq.2.1)
   ·exact ih x hx
 exact all r x hx
theorem A2j{kvs:List (List Key×V)}(ok:HOk P w H h)(e:H a=some (.dT kvs)):kvs.length<=sizeLine/\(a == sysModules)=false /\
  ∃xs,KT H kvs xs/\h.DictOfH (tupleKind (Bm P w)) a xs:=Vl ok (.inl e)
def mo(H:Hp)(a:Addr)(y:V)(r:Option V):Prop :=
 (∃kvs k,Rd H a (.dK kvs)/\y=kV k/\r=Cy kvs k)\/∃kvs k b,Rd H a (.dT kvs)/\y=.ref b/\H b=some (.tup (k.map kV))/\r=Cy kvs k
def EL(H:Hp)(a:Addr)(y v:V)(H':Hp):Prop :=
 (∃kvs k,H a=some (.dK kvs)/\y=kV k/\kvs.length<sizeLine/\H'=upd H a (.dK (Gx kvs k v))) \/
 ∃kvs k b,H a=some (.dT kvs)/\y=.ref b/\H b=some (.tup (k.map kV))/\kvs.length<sizeLine/\H'=upd H a (.dT (Gx kvs k v))
theorem EL.k{k:Key}(e:H a=some (.dK kvs))(hl:kvs.length<sizeLine):EL H a (kV k) v (upd H a (.dK (Gx kvs k v))):=.inl ⟨kvs,k,e,rfl,hl,rfl⟩
section
variable {r:Value}{o:Option V}
theorem Inv.big(I:Inv X pins Z H s):sysModules<s.heap.objs.size:=by
 have h:mainGlobals<s.heap.objs.size:=(I.mod.glob.keeps I.bk).lt;exact Zup (by decide) h
theorem lh(hu:A.units+1<cLine)(I:Inv X pins Z H s)(g:mo H a y (some v))(ry:AD y u)(h:∀w' s',Inv X pins Z H s'->AD v w'->Q w' s') :
  wpAny (model X.prog X.w) A (getItem (.ref a) u) Q E s:=by
 rcases g with ⟨kvs,k,e,ey,l⟩ | ⟨kvs,k,b,e,ey,eb,l⟩
 ·subst ey;obtain⟨z,hd,vs,rel,dd⟩:=T2 I.hok e;obtain⟨w',hw,rw'⟩:=AZ.some_of (v:=v) (o:=valueAt vs k) (by rw[l];exact rel.val k);exact wpAny_getItem_of (Va ry) dd.mapOf hw (h w' _ (I.tok _) rw')
 ·subst ey;cases (show u=Value.ref b from ry);obtain⟨z,hd,xs,rel,dd⟩:=Vl I.hok e;obtain⟨w',hw,rw'⟩:=AZ.some_of (v:=v) (o:=(atKey xs k).map (·.2)) (by rw[l];exact rel.val k);obtain⟨p,hp,hp2⟩:=Option.map_eq_some_iff.mp hw;refine wpAny_getItem_heap (tupleKind_room_in1 hu) (Sv I.hok eb) dd hp ?_;rw[hp2];exact h w' _ (I.tok _) rw'
theorem d_in(hu:A.units+1<cLine)(I:Inv X pins Z H s)(g:mo H a y o)(ry:AD y u)(h:∀s',Inv X pins Z H s'->Q (.bool o.isSome) s') :
  wpAny (model X.prog X.w) A (compareOp .In u (.ref a)) Q E s:=by
 rcases g with ⟨kvs,k,e,ey,l⟩ | ⟨kvs,k,b,e,ey,eb,l⟩
 ·subst ey;obtain⟨z,hd,vs,rel,dd⟩:=T2 I.hok e;refine wpAny_in_of (Va ry) hd dd.mapOf ?_;rw[<- (rel.val k).isSome_eq,<- l];exact h _ (I.tok _)
 ·subst ey;cases (show u=Value.ref b from ry);obtain⟨z,hd,xs,rel,dd⟩:=Vl I.hok e;refine wpAny_in_heap (tupleKind_room_in1 hu) (Sv I.hok eb) hd dd ?_;have q:=(rel.val k).isSome_eq;rw[Option.isSome_map] at q;rw[<- q,<- l];exact h _ (I.tok _)
theorem ze(hu:A.units+1<cLine)(I:Inv X pins Z H s)(g:mo H a y o)(ry:AD y u)(h:∀s',Inv X pins Z H s'->Q (.bool (!o.isSome)) s') :
  wpAny (model X.prog X.w) A (compareOp .NotIn u (.ref a)) Q E s:=by
 rcases g with ⟨kvs,k,e,ey,l⟩ | ⟨kvs,k,b,e,ey,eb,l⟩
 ·subst ey;obtain⟨z,hd,vs,rel,dd⟩:=T2 I.hok e;refine wpAny_notIn_of (Va ry) hd dd.mapOf ?_;rw[<- (rel.val k).isSome_eq,<- l];exact h _ (I.tok _)
 ·subst ey;cases (show u=Value.ref b from ry);obtain⟨z,hd,xs,rel,dd⟩:=Vl I.hok e;refine wpAny_notIn_heap (tupleKind_room_in1 hu) (Sv I.hok eb) hd dd ?_;have q:=(rel.val k).isSome_eq;rw[Option.isSome_map] at q;rw[<- q,<- l];exact h _ (I.tok _)
theorem iq{ob:HO}(I:Inv X pins Z H s)(mu:Mut (H a))(hs:Zy7 a s.heap h')(he:∃q,h'.get? a=some q)(new:AJ X.prog X.w (upd H a ob) h' a ob) :
  Inv X pins Z (upd H a ob) {s with heap:=h',toks:=t'} :=
 I.write (x:=a) (e:=a) mu (.inl rfl) (λb q hb z=>(hs.2 b hb).trans z) he new
theorem A1g{vs:List (Key×Value)}(z:kvs.length<=sizeLine)(hd:(a == sysModules)=false)(rel:KV kvs vs)(dd:h'.DictOf (Bm P w) a vs) :
  AJ P w H' h' a (.dK kvs):=⟨z,hd,vs,rel,dd⟩
theorem lg{Q:Unit->Shared->Prop}(hu:A.units+1<cLine)(I:Inv X pins Z H s)(g:EL H a y v H')(ry:AD y u)(rv:AD v r)(h:∀s',Inv X pins Z H' s'->Q () s') :
  wpAny (model X.prog X.w) A (setItem (.ref a) u r) Q E s:=by
 rcases g with ⟨kvs,k,e,ey,l,eH⟩ | ⟨kvs,k,b,e,ey,eb,l,eH⟩
 ·subst ey eH;obtain⟨z,hd,vs,rel,dd⟩:=A2l I.hok e;have hz:vs.length<=sizeLine:=by rw[<- rel.length];exact z
  have hl:(Gx kvs k v).length<=sizeLine:=by have:=L4 kvs k v;lia
  refine wpAny_setItem_pairs (hsz:=hz) (Va ry) dd λh' dd' hs=>h _ ?_;have he:∃q,h'.get? a=some q:=by obtain⟨q,_,_,hq,_⟩:=dd';exact⟨q,hq⟩
  exact iq I (by rw[e];exact True.intro) hs he (A1g hl hd (rel.put k rv) dd')
 ·subst ey eH;cases (show u=Value.ref b from ry);obtain⟨z,hd,xs,rel,dd⟩:=A2j I.hok e;have hz:xs.length<=sizeLine:=by rw[<- Paired.length rel];exact z
  have hl:(Gx kvs k v).length<=sizeLine:=by have:=L4 kvs k v;lia
  refine wpAny_setItem_heap (hsz:=hz) (tupleKind_room_in1 hu) (Sv I.hok eb) dd λh' dd' hs=>h _ ?_;obtain⟨q,es,ep,hq,h2,h3,h4,_,h5⟩:=dd';refine iq I (by rw[e];exact True.intro) hs ⟨q,hq⟩ ⟨hl,hd,_,(rel.put k eb rv).keeps λc ys ec=>?_,q,es,ep,hq,h2,h3,h4,h5⟩;rw[Ab (si ec e (λz=>nomatch z))];exact ec
end
section
variable {k:Key}
theorem A2m(I:Inv X pins Z H s)(e:Rd H a (.dK kvs))(h:∀t s',Inv X pins Z H s'->Q (.int kvs.length t) s'):wpAny (model X.prog X.w) A (call (.builtin "len") [.ref a]) Q E s:=by
 obtain⟨z,hd,vs,rel,dd⟩:=T2 I.hok e;refine call_len_dict hd dd (by rw[<- rel.length];rw[sizeLine_eq] at z;lia) ?_;rw[<- rel.length];exact h _ _ (I.tok _)
end
theorem ac{o:Option V}(I:Inv X pins Z H s)(g:mo H a y o):s.TypeIs (.ref a) "dict" := by
 rcases g with ⟨kvs,k,e,_,_⟩ | ⟨kvs,k,b,e,_,_,_⟩
 ·obtain⟨_,_,vs,_,dd⟩:=T2 I.hok e;exact dd.typeIs
 ·obtain⟨_,_,xs,_,dd⟩:=Vl I.hok e;exact dd.typeIs
section
variable {o i value:Expr}{pos' tpos:Pos}{td ty tv:TE}
end
theorem vg(h:Heap)(hb:sysModules<h.objs.size):AJ P w H (h.push {cls:=.type "dict",data:=.dict #[]}) h.objs.size (.dK []) :=
 ⟨Zyz _,beq_eq_false_iff_ne.mpr (Zzi (Zz2 hb)),[],.nil,Heap.DictOf.new h⟩
def FD:TE:=λ_ H Q=>∀p,H p=none->Q (.ref p) (upd H p (.dK []))
theorem Jh:PE X (.Dict [] [] pos) FD:=λpins s Z H Q I h =>
 wpAny_Dict_empty ⟨.ref s.heap.objs.size,_,I.laid (a:=s.heap.objs.size) (o:=.dK []) (t':=s.toks) (λ_ _ q=>Zzx _ q) (Zzq _) (vg s.heap I.big),rfl,h _ (I.hok.fresh (Zzq _))⟩
structure M1(X:Cx)(o:Expr)(m:Str)(apos:Pos)(e:Expr)(cpos:Pos):Prop where
 base:attributeBase o m X.env (eval o X.env)=eval o X.env
 few:((backTo cpos (starEach [e] X.env)).all (λx=>!x.1)&&(backToKw cpos (keywordEach [] X.env)).all (λx=>x.1.isSome)
  && decide (([e]:List Expr).length+([]:List Keyword).length+(if ([]:List Keyword).isEmpty then 0 else 1)<30))=true
 line:(apos.endLine == cpos.line)=true
 trees:backTo cpos (starEach [e] X.env)=[(false,eval e X.env)]
def IsD(H:Hp)(a:Addr):Prop:=(∃kvs,Rd H a (.dK kvs))\/∃kvs,Rd H a (.dT kvs)
theorem A1d(I:Inv X pins Z H s)(d:IsD H a) :
  s.TypeIs (.ref a) "dict" /\ (∀b,Value.ref a=.ref b->∃ob,s.heap.get? b=some ob/\ob.dict=none)/\(a == sysModules)=false:=by
 rcases d with ⟨kvs,e⟩ | ⟨kvs,e⟩
 ·obtain⟨_,hd,vs,_,dd⟩:=T2 I.hok e;refine⟨dd.typeIs,λb q=>?_,hd⟩;cases q;obtain⟨ob,_,_,h1,h2,_⟩:=dd;exact⟨ob,h1,h2.2.1⟩
 ·obtain⟨_,hd,xs,_,dd⟩:=Vl I.hok e;refine⟨dd.typeIs,λb q=>?_,hd⟩;cases q;obtain⟨ob,_,_,h1,h2,_⟩:=dd;exact⟨ob,h1,h2.2.1⟩
section
variable {d:V}{r:Value}{o:Option V}
end
section
variable {o f:Expr}{cpos:Pos}{td ty tx:TE}
end
end L2
namespace Att
open PySem PySem.W PySem.Calls PyProof.Rows
theorem Qb{P:Params}:∀(ns:List Int) (vs:List Value),WellAll P h vs (ns.map WData.int)->IntsAre vs ns:=by
 intro ns;induction ns with
 |nil =>
  intro vs w;rw[Zxn] at w;cases w;exact .nil
 |cons n ns ih =>
  intro vs w;rw[Zza] at w;cases w with
  |cons a b =>
   cases a;exact .cons _ _ (ih _ b)
theorem ji{l:OpenLaw}(hn:l.most=some n){P:Params}{args:List WData}{vals:List Value}
  (hpre:l.row.toRowW.claim.pre args=true) (hwl:WellAll P h vals args) :
  ∃a vs ns,vals=[Value.ref a]/\args=[WData.list (ns.map WData.int)]/\h.get? a=some {cls:=.type "list",data:=.seq vs.toArray}/\IntsAre vs ns/\ns.length<=n:=by
 have hsh:WShape.hasAll [] args [.list .int]=true:=(pre_splitW hpre).1;have hc:l.pre.holds [] {args:=args}=true:=(pre_splitW hpre).2;obtain⟨d,r,rfl,h1,h2⟩:=hasAllW_cons hsh;obtain rfl:=hasAllW_nil h2;obtain⟨xs,rfl,h3⟩:=hasW_list h1;obtain⟨ns,rfl⟩:=items_int h3;have hlen:ns.length<=n:=by
  unfold OpenLaw.pre at hc;have h4:(WTm.not (.lt (.lit (.int (n:Int))) (.len (.arg 0)))).holds [] {args:=[.list (ns.map .int)]}=true:=by
   have h4:=(holds_andW hc).1;rw[hn] at h4;exact h4
  have h5:=condW_of h4 (w_not (w_lt w_lit (w_len_list (w_arg rfl))));rw[Zzz] at h5;refine Nat.le_of_not_lt λq=>?_;have q':(n:Int)<((ns.length:Nat):Int):=by lia
  first
   | (rw[FW q'] at h5;exact absurd h5 (by decide))
   | (simp at h5;lia)
 cases hwl with
 |cons w1 w2 =>
  cases w2;cases w1 with
  |list ho hall=>exact⟨_,_,ns,rfl,rfl,ho,Qb ns _ hall,hlen⟩
theorem jm(l:OpenLaw)(args:List WData):l.row.toRowW.claim.post args (.bool true) args=true :=
 postW_of (r:=l.row.toRowW) (X:=(true == true))
  (show WShape.has [] (.bool true) .bool=true by first | rfl | decide | simp[WShape.has,WShape.arms,WShape.armsAll])
  (show (WTm.eq .res (.lit (.bool true))).value [] {args:=args,res:=some (.bool true),after:=args}=some (.bool (true == true)) from w_eq_bool (w_res rfl) w_lit) rfl
theorem attach_call{l:OpenLaw}{q:Program}{d:DefRec}
  (hn:l.most=some n) (hdf:d.params.defaults=[])
  (call:∀(w:World) (s₀ s₁:Shared) (mg mb:Str->Option Value) (fa:Addr) (o:Obj) (pm cd doc:Value) (a:Addr) (vs:List Value) (ns:List Int),
   Ground q loose [] XP w s₀ mg mb s₁.heap->YP w s₁.heap ->
   s₁.heap.get? fa=some o->o.data=.func (docDef d.name d.params d.body d.scope pm cd doc)->s₁.heap.CodeRec cd d.name->mg d.name=some (.ref fa) ->
   s₁.heap.get? a=some {cls:=.type "list",data:=.seq vs.toArray}->IntsAre vs ns->ns.length<=n->s₁.gens=#[] ->
   codeAny (model l.prog w) callerA (.call (.ref fa) ⟨[.ref a],[]⟩) (λr s'=>r=.ok (.ret (.bool true))/\OldK s₁.heap s'.heap/\s'.os=s₁.os/\AllBare s'.gens) s₁) :
  WalkO q loose XP YP l.row.toRowW d [] (λf vs=>PySem.call f vs):=by
 intro w s₀ s₁ mg mb G Y fa o pm cd doc dV kV ho hd hcd hD hmg hg args vals as hpre hlay hrd hwl hlo;obtain rfl:dV=.none:=Dflts.none hD hdf;obtain rfl:kV=.none:=Dflts.noKw hD;obtain⟨a,vs,ns,rfl,rfl,hobj,hints,hlen⟩:=ji hn hpre hwl;refine enter_call (codeAny_mono (call w s₀ s₁ mg mb fa o pm cd doc a vs ns G Y ho (fd_plain hd) hcd hmg hobj hints hlen hg) λr s' hq=>?_);obtain⟨rfl,h2,h3,h4⟩:=hq;exact⟨.inl ⟨.bool true,.bool true,[],rfl,λ_=>rfl,.bool true,jm l _,λ_=>⟨List.Pairwise.nil,λ_ hm=>(nomatch hm)⟩⟩,h2,h3,h4⟩
section
variable {K:Frag}
end
end Att
namespace L2
open PySem PySem.Spec PyProof.Rows
theorem U9:∀{vs:List Value} {ns:List Int},IntsAre vs ns->AC (ns.map V.int) vs
 |_,_,.nil=>.nil
 |_,_,.cons n t h=>.cons ⟨t,rfl⟩ (U9 h)
noncomputable def ie(s:Stmt)(j:Nat):Stmt:=match s with
 |.ClassDef _ _ _ body _ _ _ _ _ _ _=>body.getD j (.Pass ⟨0,0,0,0⟩)
 |_=>.Pass ⟨0,0,0,0⟩
noncomputable def Fp(s:Stmt):Arguments:=match s with
 |.FunctionDef _ a _ _ _ _ _ _ _ _=>a
 |_=>{posonlyargs:=[],args:=[],vararg:=none,kwonlyargs:=[],kw_defaults:=[],kwarg:=none,defaults:=[]}
noncomputable def E6(s:Stmt):List Stmt:=match s with
 |.FunctionDef _ _ b _ _ _ _ _ _ _=>b
 |_=>[]
noncomputable def C2(s:Stmt):Scope:=match s with
 |.FunctionDef _ _ _ _ _ _ sc _ _ _=>sc
 |_=>{kind:=.function,names:=[],isGenerator:=false,isCoroutine:=false}
abbrev CX0:CXT:=λ_ _ _ _ _ _=>False
abbrev E0:XK:=λ_ _ _=>False
theorem rg:P3 CX0 X E0:=λ_ _ _ _ _ _ _ h=>h.elim
structure Fun(K:Zzw)(x qual:Str)(st:Stmt)(f:Addr)(fd:FuncData):Prop where
 ex:∃(oc:Value) (od:Option Addr) (kV doc pm:Value) (an:Option Addr) (cdv ct:Value) (osl:Array (Option Value)),
  fd=Zxh x qual (Fp st) (E6 st) (C2 st) .none kV doc pm an cdv ct/\K.lookup f=some ⟨oc,od,.func fd,osl⟩/\Zua K cdv qual=true
 kp:Zx0 K (.ref f)=true
theorem Fun.ok{st:Stmt}{k:Nat}(F:Fun K x qual st f fd)(S:Lr N ps (C2 st))(len:∀vs H Q E,sp vs H Q E->vs.length=ps.length)
  (hbody:∀(cdv:Value) (A:Around) (outer:List Env) (s:Shared) (H:Hp) (vs:List V) (Q:VK) (E:XK),AM k (A.deeper (envOfC qual (C2 st) s.heap.objs.size f cdv))->sp vs H Q E ->
   ∃t,PSs (Xr CX0 P w K mg base N qual (C2 st) f cdv A outer s H E).nox (E6 st) t/\t {nx:=λ_ H'=>Q .non H',rt:=Q} (Ir N vs) H):B2 P w K mg base CX0 (k+1) f fd ps sp:=by
 obtain⟨oc,od,kV,doc,pm,an,cdv,ct,osl,rfl,lk,hcd⟩:=F.ex;refine A09 lk hcd S len λA outer s H vs Q E hr hsp=>?_;obtain⟨t,h,q⟩:=hbody cdv A outer s H vs Q E hr hsp;exact⟨t,h.nox,q⟩
theorem Fun.binds{st:Stmt}(F:Fun K x qual st f fd)
  (h:∀(kV doc pm:Value) (an:Option Addr) (cdv ct:Value) (us:List Value),us.length=ps.length->bindArgs (Zxh x qual (Fp st) (E6 st) (C2 st) .none kV doc pm an cdv ct) ⟨us,[]⟩=pure (ps.zip us)):BJ K fd ps []:=by
 obtain⟨oc,od,kV,doc,pm,an,cdv,ct,osl,rfl,lk,hcd⟩:=F.ex;exact .all (h kV doc pm an cdv ct)
theorem Oo{st:Stmt}{an:Option Addr}{osl:Array (Option Value)}{kV doc pm cdv ct:Value}(l:K.lookup f=some ⟨oc,od,.func (Zxh x qual (Fp st) (E6 st) (C2 st) .none kV doc pm an cdv ct),osl⟩)
  (c:Zua K cdv qual=true) (k:Zx0 K (.ref f)=true):Fun K x qual st f (Zxh x qual (Fp st) (E6 st) (C2 st) .none kV doc pm an cdv ct):=⟨⟨oc,od,kV,doc,pm,an,cdv,ct,osl,rfl,l,c⟩,k⟩
theorem Au{k:Nat}(hr:AM k A):A.units+1<cLine:=Zz0 (Nat.add_le_add_left (by decide:1<=64) _) hr.units
theorem pv(i:Nat)(hN:X.N[i]?=some x:=by rfl)(hv:Vis X.env.scope x:=by first | exact Zzt rfl | exact Zwd (Zzt rfl) | exact Zwd (Zwd rfl))(hd:(x == ("__debug__" : Str))=false:=by decide)
  (hcd:(x == ("__classdict__" : Str))=false:=by decide):PE X (.Name x pos) (jg i):=A0v hN hv hd hcd
theorem mi:AK X (.builtin "len") (λxs H Q=>∃a kvs,xs=[V.ref a]/\H a=some (.dK kvs)/\Q (.int kvs.length) H):=by
 intro pins s Z H xs us Q I r h;obtain⟨a,kvs,rfl,ha,q⟩:=h;obtain⟨u,rfl,ru⟩:=Fc r;cases ru;exact A2m I (.inl ha) λt s' I'=>⟨.int kvs.length,H,I',⟨t,rfl⟩,q⟩
theorem iteF{A B:Prop}(h:B):if false=true then A else B:=by
 rw[FY Zz8];exact h
theorem iteT{A B:Prop}(h:A):if true=true then A else B:=by
 rw[FZ rfl];exact h
theorem Dq{c A B:Prop}[Decidable c](h1:c->A)(h2:¬ c->B):if c then A else B:=by
 by_cases h:c
 ·rw[FZ h];exact h1 h
 ·rw[FY h];exact h2 h
theorem A2d{c A B:Prop}[Decidable c](hc:c)(h:B):if (!decide c)=true then A else B:=by
 rw[FW hc];exact iteF h
def AA(H H':Hp):Prop:=∀b o,H b=some o->H' b=some o
theorem AA.refl(H:Hp):AA H H:=λ_ _ h=>h
theorem AA.trans{H1 H2:Hp}(a:AA H H1)(b:AA H1 H2):AA H H2:=λc o h=>b c o (a c o h)
theorem AA.free(e:AA H H'){l:Addr}(h:H' l=Option.none):H l=Option.none:=by
 cases q:H l with
 |none=>rfl
 |some o =>
  rw[e l o q] at h;cases h
theorem AA.seq(e:AA H H')(h:SqL K H a xs):SqL K H' a xs:=by
 rcases h with (h | ⟨o,h⟩) | h
 ·exact .inl (.inl (e _ _ h))
 ·exact .inl (.inr ⟨o,e _ _ h⟩)
 ·exact .inr h
section
variable {κ:Type}[DecidableEq κ]
theorem x8{kvs:List (κ×V)}{k:κ}(h:Cy kvs k=some v):k∈kvs.map (·.1):=by
 have q:(kvs.any λkv=>decide (kv.1=k))=true:=by
  rw[Gj,h];all_goals rfl
 obtain⟨p,hp,e⟩:=List.any_eq_true.mp q;exact Zzv.mpr ⟨p,hp,FV e⟩
end
theorem U7:∀(names:List (Str×NameKind)) (acc:List (Str×Addr)),(∀y∈names,y.2=.free->∃c,env.cells.lookup y.1=some c)->(∀x c,acc.lookup x=some c->env.cells.lookup x=some c) ->
  ∃cl,(forIn names acc (λx r=>if (x.2 == Zyp)=true then do let c <- cellOf env x.1;pure (ForInStep.yield ((x.1,c)::r)) else pure (ForInStep.yield r)):Sem _)=pure cl /\
   (∀x c,cl.lookup x=some c->env.cells.lookup x=some c)/\(∀x,((x,Zyp)∈names\/∃c,acc.lookup x=some c)->∃c,cl.lookup x=some c):=by
 intro names;induction names with
 |nil=>intro acc h ha;exact⟨acc,rfl,ha,λx hx=>by simpa using hx⟩
 |cons y r ih =>
  intro acc h ha;obtain⟨n,k⟩:=y;have hr:∀y∈r,y.2=.free->∃c,env.cells.lookup y.1=some c:=λy hy=>h y (Zzl _ hy);rw[Zvz];by_cases hk:k=.free
  ·subst hk;obtain⟨c,hc⟩:=h (n,.free) Zzm rfl;have e:cellOf env n=pure c:=by unfold cellOf;rw[hc]
   obtain⟨cl,e1,a,b⟩:=ih ((n,c)::acc) hr (λx c' hx=>by
    rw[Zxz] at hx
    cases hxn:x == n with
    |true =>
     rw[hxn] at hx
     cases hx
     rw[eq_of_beq hxn]
     exact hc
    |false =>
     rw[hxn] at hx
     exact ha x c' hx)
   refine⟨cl,?_,a,λx hx=>b x ?_⟩
   ·rw[<- e1];show (if (Zyp == Zyp)=true then (cellOf env n >>= _) else _) >>= _=_;rw[FZ (show (Zyp == Zyp)=true from rfl),e];rfl
   ·rcases hx with hx | ⟨c',hx⟩
    ·rcases Zzs.mp hx with e2 | hx
     ·have e3:x=n:=congrArg Prod.fst e2
      exact .inr ⟨c,by rw[Zxz,e3];simp⟩
     ·exact .inl hx
    ·refine .inr ?_;rw[Zxz];cases x == n with
     |true=>exact⟨c,rfl⟩
     |false=>exact⟨c',hx⟩
  ·obtain⟨cl,e1,a,b⟩:=ih acc hr ha;refine⟨cl,?_,a,λx hx=>b x ?_⟩
   ·rw[<- e1];have hb:(k == Zyp)=false:=by simpa using hk
    show (if (k == Zyp)=true then _ else _) >>= _=_;rw[FY (by rw[hb];simp)];rfl
   ·rcases hx with hx | hx
    ·rcases Zzs.mp hx with e2 | hx
     ·exact absurd (congrArg Prod.snd e2).symm hk
     ·exact .inl hx
    ·exact .inr hx
theorem Kc(h:∀y∈scope.names,y.2=.free->∃c,env.cells.lookup y.1=some c) :
  ∃cl,closureFor scope env=pure cl/\(∀x c,cl.lookup x=some c->env.cells.lookup x=some c)/\(∀x,(x,Zyp)∈scope.names->∃c,cl.lookup x=some c):=by
 obtain⟨cl,e,a,b⟩:=U7 scope.names [] h (by intro x c e;cases e);refine⟨cl,?_,a,λx hx=>b x (.inl hx)⟩;unfold closureFor;exact congrArg (λm=>m >>= λx=>pure x) e
noncomputable def cpN(N own:List Str)(cap:List Nat):List Str:=own++cap.map λj=>N.getD j ""
noncomputable def Jm(own:List Str)(cap:List Nat)(Z:St):St:=own.map (λ_=>none)++cap.map λj=>Z.getD j none
structure Ls(N:List Str)(osc sc:Scope)(own:List Str)(cap:List Nat):Prop where
 kind:sc.kind=.function
 names:∀x∈sc.names,x.2=.local->sc.names.lookup x.1=some .local
 nocell:∀y∈sc.names,y.2≠.cell
 free:∀y∈sc.names,y.2=.free->osc.names.lookup y.1=some .cell\/osc.names.lookup y.1=some .free
 cap:∀j∈cap,j<N.length/\sc.names.lookup (N.getD j "")=some .free
noncomputable def D6(X:Cx)(sc:Scope)(own:List Str)(cap:List Nat)(cl:List (Str×Addr))(C:Addr)(s:Shared)(H:Hp)(fp:List Addr)(pins:List (Addr×Obj)):Cx :=
 {X with N:=cpN X.N own cap,s₀:=s,H₀:=H,env:=compEnvC sc cl C X.env,outer:=X.stack,ex:=fp,fn:=λ_=>false,pn:=X.pn++pins,xe:=λ_ _=>False}
def PTs(X:Cx)(ifs:List Expr)(tt:TT):Prop :=
 ∀(pins:List (Addr×Obj)) (s:Shared) (Z:St) (H:Hp) (Q:Bool->Hp->Prop),Inv X pins Z H s->tt Z H Q ->
  wpAny (model X.prog X.w) X.A (forIn ifs true λc r=>if r=true then do let ok <- isTrue c X.env (eval c X.env);pure (ForInStep.yield ok) else pure (ForInStep.yield r)) (TP X pins Z Q) X.xe s
def tYes:TT:=λ_ H Q=>Q true H
theorem Bb:PTs X [] tYes:=λ_ _ _ H _ I h=>wpAny_tests_nil ⟨H,I,h⟩
theorem G4{c:Expr}(h:PT X c tt):PTs X [c] tt:=λpins s Z H Q I hq=>wpAny_tests_one (h pins s Z H Q I hq)
def mn(n:Nat)(g:TG):Prop:=∀v Z H Q,g v Z H Q->g v Z H λZ' H'=>(Z'.length=Z.length/\∀j,n<=j->Z'[j]?=Z[j]?)/\Q Z' H'
theorem Aq(h:i<n):mn n (Cv i):=λv Z H Q q=>⟨⟨by simp,λj hj=>by rw[Zy3 (by lia)]⟩,q⟩
def ot(own:List Str)(cap:List Nat)(wi:TI)(g:TG)(tt:TT)(te:TE):TE:=λZ H Q=>wi Z H λJ H1=>∃W:Nat->Nat->List V->Hp->Prop,(∃m,W 0 m [] H1)/\∀i m acc H,W i m acc H->acc.length<=sizeLine /\
 ((J.stop i H/\∀p,H p=none->Q (.ref p) (upd H p (.lst acc))) \/
  (J.go i H/\acc.length<sizeLine/\∃N:List V->Hp->Prop,(∀acc' H',N acc' H'->∃m',m'<m/\W (i+1) m' acc' H')/\∀x H',J.yld i H x H'->g x (Jm own cap Z) H' λσ2 H2=>tt σ2 H2 λb H3=>if b=true then te σ2 H3 λy H4=>N (acc++[y]) H4 else N acc H3))
theorem Lw{elt target iter:Expr}{it acc:Value}(I:Nat->Shared->Prop)
  (turn:∀n s,I n s->wpAny (model prog w) A (pyNext it) (λr s₁=>match r with
   |none=>R (.ok .next) s₁
   |some v=>wpAny (model prog w) A (letOwnedTupleGo target it v) (λ_ s₁'=>wpAny (model prog w) A (assign target env v) (λ_ s₂ =>
     wpAny (model prog w) A (forIn ifs true λc r=>if r=true then do let ok <- isTrue c env (eval c env);pure (ForInStep.yield ok) else pure (ForInStep.yield r)) (λok s₃ =>
      if ok=true then wpAny (model prog w) A (eval elt env) (λx s₄ =>
       wpAny (model prog w) A (call (.builtin "list.append") [acc,x]) (λ_ s₅=>∃m,m<n/\I m s₅) (λ_ _=>False) s₄) (λ_ _=>False) s₃
      else ∃m,m<n/\I m s₃) (λ_ _=>False) s₂) (λ_ _=>False) s₁') (λ_ _=>False) s₁) (λ_ _=>False) s)
  (n:Nat) (h:I n s) :
  codeAny (model prog w) A (.compLoop (.ListComp elt [⟨target,iter,ifs,0⟩] scope pos) 0 it acc env) R s:=by
 refine codeAny_loop rfl I (λn s hI=>?_) n h;show wpAny _ A ((compTurn (.ListComp elt [⟨target,iter,ifs,0⟩] scope pos) 0 it acc env).onRaise (λx=>do noteFrame x env;theTreesLotGoes x)) _ _ s;refine wpAny_noted ?_;rw[compTurn_list];refine GA (wpAny_standAt (GA (wpAny_mono (turn n s hI) (λr s₁ h₁=>?_) λ_ _ h'=>h'.elim)));cases r with
 |none=>exact GB h₁
 |some v =>
  refine GA (wpAny_mono h₁ (λ_ s₁' h₁'=>?_) λ_ _ h'=>h'.elim);refine GA (wpAny_mono h₁' (λ_ s₂ h₂=>GA (wpAny_mono h₂ (λok s₃ h₃=>?_) λ_ _ h'=>h'.elim)) λ_ _ h'=>h'.elim);cases ok with
  |false=>exact GB ⟨rfl,h₃⟩
  |true =>
   exact GA (GA (wpAny_mono h₃ (λx s₄ h₄=>GA (wpAny_mono h₄ (λ_ s₅ h₅=>GB (GB ⟨rfl,h₅⟩)) λ_ _ h'=>h'.elim)) λ_ _ h'=>h'.elim))
theorem Vq{own:List Str}(h:(Jm own cap Z)[i]?=some (some v)):own.length<=i/\∃j,cap[i - own.length]?=some j/\Z[j]?=some (some v):=by
 unfold Jm at h;by_cases hi:i<own.length
 ·rw[Zwx (by simpa using hi),Zzy] at h;cases e:own[i]? with
  |none=>rw[e] at h;cases h
  |some a=>rw[e] at h;cases h
 ·have hi':own.length<=i:=by lia
  rw[Zxi (by simpa using hi'),Zzz,Zzy] at h;refine⟨hi',?_⟩;cases e:cap[i - own.length]? with
  |none=>rw[e] at h;cases h
  |some j =>
   rw[e] at h;have h2:Z.getD j none=some v:=Zzh h;refine⟨j,rfl,?_⟩;rw[Zzp] at h2;cases e2:Z[j]? with
   |none=>rw[e2] at h2;cases h2
   |some o=>rw[e2] at h2;simp at h2;rw[h2]
theorem Ky{env:Env}{x:Str}{k:NameKind}:∀{names:List (Str×NameKind)},names.lookup x=some k ->
  (names.map λ(n,k)=>if (k == Zyp&&env.scope.kind == .function&&env.kindOf n == some .cell) then (n,Zvo) else (n,k)).lookup x=some (if (k == Zyp&&env.scope.kind == .function&&env.kindOf x == some .cell)=true then .cell else k)
 |[],h=>by simp at h
 | (n,k')::r,h=>by
  have ih:=@Ky env x k r;show Zxb x ((if (k' == Zyp&&env.scope.kind == .function&&env.kindOf n == some .cell)=true then (n,Zvo) else (n,k'))::_)=_;cases hx:x == n with
  |true =>
   simp only[Zxz,hx] at h;cases h;have e:=eq_of_beq hx;subst e;by_cases hc:(k == Zyp&&env.scope.kind == .function&&env.kindOf x == some .cell)=true
   ·rw[FZ hc,FZ hc];simp[Zxz]
   ·rw[FY hc,FY hc];simp[Zxz]
  |false =>
   simp only[Zxz,hx] at h;by_cases hc:(k' == Zyp&&env.scope.kind == .function&&env.kindOf n == some .cell)=true
   ·rw[FZ hc];simp only[Zxz,hx];exact ih h
   ·rw[FY hc];simp only[Zxz,hx];exact ih h
theorem Hb{env:Env}{x:Str}:∀{names:List (Str×NameKind)},(∀y∈names,y.2≠.cell) ->
  ((names.map λ(n,k)=>if (k == Zyp&&env.scope.kind == .function&&env.kindOf n == some .cell) then (n,Zvo) else (n,k)).lookup x=some .cell \/
   (names.map λ(n,k)=>if (k == Zyp&&env.scope.kind == .function&&env.kindOf n == some .cell) then (n,Zvo) else (n,k)).lookup x=some .free)->(x,Zyp)∈names
 |[],_,h=>by simp at h
 | (n,k')::r,hn,h=>by
  have ih:=@Hb env x r λy hy=>hn y (Zzl _ hy);have hk':k'≠.cell:=hn (n,k') Zzm;have h:Zxb x ((if (k' == Zyp&&env.scope.kind == .function&&env.kindOf n == some .cell)=true then (n,Zvo) else (n,k'))::_)=some .cell \/
   Zxb x ((if (k' == Zyp&&env.scope.kind == .function&&env.kindOf n == some .cell)=true then (n,Zvo) else (n,k'))::_)=some .free:=h
  cases hx:x == n with
  |true =>
   have e:=eq_of_beq hx;subst e;by_cases hc:(k' == Zyp&&env.scope.kind == .function&&env.kindOf x == some .cell)=true
   ·have:k'=.free:=by
     rw[Zyy,Zyy] at hc;exact eq_of_beq hc.1.1
    rw[this];exact Zzm
   ·rw[FY hc] at h;simp[Zxz] at h;rcases h with h | h
    ·exact absurd h hk'
    ·rw[h];exact Zzm
  |false =>
   by_cases hc:(k' == Zyp&&env.scope.kind == .function&&env.kindOf n == some .cell)=true
   ·rw[FZ hc] at h;simp only[Zxz,hx] at h;exact Zzl _ (ih h)
   ·rw[FY hc] at h;simp only[Zxz,hx] at h;exact Zzl _ (ih h)
theorem D4(h1:a<n)(h2:n<=b):a≠b:=Zz2 (Zz3 h1 h2)
section
variable {own:List Str}{cl:List (Str×Addr)}{C:Addr}
theorem A2n(S:Ls X.N X.env.scope sc own cap)(cl1:∀x c,cl.lookup x=some c->X.env.cells.lookup x=some c)(cl2:∀x,(x,Zyp)∈sc.names->∃c,cl.lookup x=some c)
  (I:Inv X pins Z H s) (f:∀b∈fp,Kf X pins H b) (live:∀b∈fp,b<s.heap.objs.size) (hC:s.heap.objs.size<=C):(D6 X sc own cap cl C s H fp pins).Ok where
 mod:=I.ok.mod
 kind:=S.kind
 glob:=I.ok.glob
 blt:=I.ok.blt
 above:=hC
 inj:=λx y c h1 h2=>I.ok.inj x y c (cl1 x c h1) (cl1 y c h2)
 has:=λx hx=>cl2 x (Hb S.nocell hx)
 cab:=λx c h=>by cases h
 hd:=I.ok.hd
 frames:=I.ok.frames
 stk:=.inl rfl
 exf:=λb hb=>⟨λz=>D4 (live b hb) hC z,λx c e=>(f b hb).2.2.2.2.1 x c (cl1 x c e)⟩
 bs:=I.bs
 bsz:=Zzd I.ok.bsz I.sz
 noex:=λb o e hb=>by
  rcases(f b hb).2.2.2.1 with z | z
  ·exact I.ok.noex b o e z
  ·exact D4 (Zz3 (Zzg e) I.ok.bsz) z rfl
 exfs:=λb hb z=>by
  rcases Zzs.mp (I.stkSub b z) with q | q
  ·exact(f b hb).2.1 q
  ·exact(f b hb).2.2.1 q
 funs:=I.stack;frf:=I.stkFree
theorem A1j(S:Ls X.N X.env.scope sc own cap)(cl1:∀x c,cl.lookup x=some c->X.env.cells.lookup x=some c)(cl2:∀x,(x,Zyp)∈sc.names->∃c,cl.lookup x=some c)
  (I:Inv X pins Z H s) (ok:(D6 X sc own cap cl C s H fp pins).Ok) (hC:s.heap.objs.size<=C) {h₁:Heap} {tk:Nat} {m:Str->Option Value} (hns:h₁.Ns C m) (old:∀b o,s.heap.get? b=some o->h₁.get? b=some o) :
  Inv (D6 X sc own cap cl C s H fp pins) [] (Jm own cap Z) H {s with heap:=h₁,toks:=tk}:=by
 have cellK:∀x c v,X.env.cells.lookup x=some c->s.heap.IsCell c v->h₁.IsCell c v:=λx c v _ z=>by
  obtain⟨o,ho,hd⟩:=z;exact⟨o,old c o ho,hd⟩
 refine⟨ok,rfl,I.bare,Un.kept old,⟨m,hns,λi x v e1 e2 e3=>?_⟩,λx c e=>?_,I.hok.fresh hC,λx c e=>I.freeC x c (cl1 x c e),λp hp=>?_,I.hok.kept old,?_⟩
 ·have e1:(cpN X.N own cap)[i]?=some x:=e1
  obtain⟨hi,j,hj,hσ⟩:=Vq e2;unfold cpN at e1;rw[Zxi hi,Zzy,hj] at e1;have e1:X.N.getD j "" = x:=Zzh e1;obtain⟨hjl,hfr⟩:=S.cap j (Zzu hj);have hx:X.N[j]?=some x:=by rw[<- e1,Zzp];simp[hjl]
  rw[e1] at hfr;have hfree:=S.free (x,.free) (Zx5 hfr) rfl;obtain⟨m0,_,hl⟩:=I.loc;obtain⟨u,r,l⟩:=hl j x v hx hσ (.inr hfree);refine⟨u,r,?_⟩;rcases l with ⟨k,_⟩ | ⟨k,c,hc,z⟩
  ·have k:X.env.scope.names.lookup x=some .local:=k
   rcases hfree with q | q<;>(rw[q] at k;cases k)
  ·obtain⟨c',hc'⟩:=cl2 x (Zx5 hfr);have e4:=cl1 x c' hc';rw[hc] at e4;cases e4;refine .inr ⟨?_,c,hc',cellK x c _ hc z⟩;have q:=Ky (env:=X.env) hfr;show (relabel sc X.env).names.lookup x=some .cell\/(relabel sc X.env).names.lookup x=some .free;have q':(relabel sc X.env).names.lookup x=some (if (Zyp == Zyp&&X.env.scope.kind == .function&&X.env.kindOf x == some .cell)=true then .cell else .free):=q;rw[q'];split
   ·exact .inl rfl
   ·exact .inr rfl
 ·obtain⟨v,z⟩:=I.cell x c (cl1 x c e);exact⟨v,cellK x c v (cl1 x c e) z⟩
 ·have hp:p∈(X.pn++pins)++[]:=hp
  rw[Zz6] at hp;obtain⟨e,n,ne,nf,d⟩:=I.pin p hp;refine⟨old _ _ e,n,λz=>?_,λz=>?_,d⟩
  ·exact D4 (Zzg e) hC z
  ·rcases Zzs.mp (I.stkSub p.1 z) with q | q
   ·exact ne q
   ·exact nf q
 ·show (Jm own cap Z).length=(cpN X.N own cap).length
  unfold Jm cpN;simp
theorem zf(I:Inv X pins Z H s)(f:∀b∈fp,Kf X pins H b)(hC:s.heap.objs.size<=C){D:Addr}(hD:s.heap.objs.size<=D)(hDC:D≠C){Z':St}{pl:List (Addr×Obj)}{acc:List V}{nn:Nat}
  (J:Inv (D6 X sc own cap cl C s H fp pins) pl Z' H' s') (hDn:H' D=none) (hDo:s'.heap.get? D=some {cls:=.type "list",data:=.seq its.toArray nn}) (hv:AC acc its) (hz:acc.length<=sizeLine) :
  Inv X pins Z (upd H' D (.lst acc)) s'/\(∃m,s'.heap.Ns C m)/\Kf X pins (upd H' D (.lst acc)) C:=by
 have u:Un (frs X.stack) fp H H' s.heap s'.heap:=J.base;have lt:∀b o,s.heap.get? b=some o->b≠D:=λb o e z=>D4 (Zzg e) hD z;have trk:∀b o,H b=some o->b≠D:=λb o e z=>D4 (I.hok.lt e) hD z;have CH:H' C=none:=J.free;refine⟨I.call' (ch:=fp) J.os ⟨u.keep,u.slot,λb o e n hx=>by rw[Ab (lt b o e)];exact u.free b o e n hx,u.there,λb xs e=>by rw[Ab (trk b _ e)];exact u.tups b xs e,λb o xs e=>by rw[Ab (trk b _ e)];exact u.frzs b o xs e,λb ps e=>by rw[Ab (trk b _ e)];exact u.tbls b ps e⟩ (λb o e=>?_) J.bare λb hb=>?_,?_,?_⟩
 ·by_cases hb:b=D
  ·subst hb;rw[A0] at e;cases e;exact⟨hz,its,nn,hv,hDo⟩
  ·rw[Ab hb] at e;refine(J.hok b o e).stay (λc v _ q=>q) (λc q=>?_) λc xs q=>?_
   ·rw[Ab (A5 q hDn)];exact q
   ·rw[Ab (A5 q hDn)];exact q
 ·obtain⟨f0,f1,f2,f3,f4,f5⟩:=f b hb;exact⟨f3,f1,f4,f5⟩
 ·obtain⟨m,hn,_⟩:=J.loc;exact⟨m,hn⟩
 ·refine I.fpOk hC ?_;rw[Ab (Zzi hDC)];exact CH
theorem Ta{elt iter:Expr}{g:TG}
  {it:Addr} {tn:Nat->Heap->Prop} {J:It} {Q:VK} {RR:Value->Addr->Result->Shared->Prop}
  (hc:X.calm=true) (S:Ls X.N X.env.scope sc own cap) (hown:mn own.length g)
  (cl1:∀x c,cl.lookup x=some c->X.env.cells.lookup x=some c) (cl2:∀x,(x,Zyp)∈sc.names->∃c,cl.lookup x=some c)
  (hb:∀cl C s H fp pins,PG (D6 X sc own cap cl C s H fp pins) tg g/\PTs (D6 X sc own cap cl C s H fp pins) ifs tt/\PE (D6 X sc own cap cl C s H fp pins) elt te)
  (I:Inv X pins Z H s) (T:O5 X.prog X.w X.K tg J fp it tn) (st:tn 0 s.heap) (f:∀b∈fp,Kf X pins H b)
  (W:Nat->Nat->List V->Hp->Prop) (w0:∃m,W 0 m [] H)
  (turn:∀i m acc H,W i m acc H->acc.length<=sizeLine/\((J.stop i H/\∀p,H p=none->Q (.ref p) (upd H p (.lst acc)))\/(J.go i H/\acc.length<sizeLine/\∃N:List V->Hp->Prop,(∀acc' H',N acc' H'->∃m',m'<m/\W (i+1) m' acc' H')/\∀x H',J.yld i H x H'->g x (Jm own cap Z) H' λσ2 H2=>tt σ2 H2 λb H3=>if b=true then te σ2 H3 λy H4=>N (acc++[y]) H4 else N acc H3)))
  (hRR:∀D C H' s',Inv X pins Z H' s'->(∃m,s'.heap.Ns C m)->Kf X pins H' C->Q (.ref D) H'->RR (.ref D) C (.ok .next) s') :
  wpAny (model X.prog X.w) X.A (newList []) (λacc s₃=>wpAny (model X.prog X.w) X.A (newFunctionEnv sc X.env.globals cl [] X.env.qual none .none (some X.env)) (λcenv s₄ =>
   codeAny (model X.prog X.w) X.A (.compStart (.ListComp elt [⟨tg,iter,ifs,0⟩] sc pos) 0 (.ref it) acc {cenv with scope:=relabel sc X.env}) (RR acc cenv.locals) s₄) E s₃) E s:=by
 refine wpAny_newObj_type (wpAny_newFunctionEnv S.nocell (by intro y hy;simp at hy) (λh₁ hns₁ hsb₁=>?_) S.kind);dsimp only at hns₁ hsb₁ ⊢;generalize hH2:s.heap.push {cls:=.type "list",dict:=none,data:=.seq ([]:List Value).toArray}=H2 at hns₁ hsb₁ ⊢;have hCs:H2.objs.size=s.heap.objs.size+1:=by rw[<- hH2,Zye]
 have hDC:s.heap.objs.size≠H2.objs.size:=by lia
 have hCle:s.heap.objs.size<=H2.objs.size:=by lia
 have old:∀b o,s.heap.get? b=some o->h₁.get? b=some o:=λb o e=>by
  exact hsb₁.extBut b o (D4 (Zzg e) hCle) (Zzx _ (hH2▸Zzx _ e))
 have hacc:h₁.get? s.heap.objs.size=some {cls:=.type "list",data:=.seq ([]:List Value).toArray 0}:=hsb₁.extBut _ _ hDC (Zzx _ (hH2▸Zzj _ rfl));have live:∀b∈fp,b<s.heap.objs.size:=λb hb=>by
  obtain⟨o,e,_⟩:=T.obj _ _ st b hb;exact Zzg e
 have ok:=A2n (C:=H2.objs.size) S cl1 cl2 I f live hCle;have hDst:s.heap.objs.size∉frs X.stack:=λz=>by
  rcases Zzs.mp (I.stkSub _ z) with q | q
  ·exact D4 I.lt (Zzq _) q.symm
  ·exact I.nofs (Zzq _) q
 have fpX:∀(H':Hp) (pl:List (Addr×Obj)),(∀b∈fp,H' b=none)->(∀p∈pl,∀b∈fp,p.1≠b)->∀b∈fp,Kf (D6 X sc own cap cl H2.objs.size s H fp pins) pl H' b:=λH' pl hn hp b hb=>by
  obtain⟨f0,f1,f2,f3,f4,f5⟩:=f b hb;refine⟨hn b hb,λz=>?_,λz=>?_,.inl hb,λx c e=>f4 x c (cl1 x c e),λp hpp=>?_⟩
  ·exact D4 (live b hb) hCle z
  ·rcases Zzs.mp (I.stkSub b z) with q | q
   ·exact f1 q
   ·exact f2 q
  ·rcases Zz4.mp hpp with q | q
   ·exact f5 p q
   ·exact hp p q b hb
 have loop:∀s₃:Shared,s₃={s with heap:=h₁,toks:=s.toks+([]:List (Str×Value)).length} ->
   codeAny (model X.prog X.w) X.A (.compLoop (.ListComp elt [⟨tg,iter,ifs,0⟩] sc pos) 0 (.ref it) (.ref s.heap.objs.size) (compEnvC sc cl H2.objs.size X.env))
    (RR (.ref s.heap.objs.size) H2.objs.size) s₃:=by
  rintro s₃ rfl;obtain⟨m0,w0⟩:=w0;obtain⟨hg,ht,he⟩:=hb cl H2.objs.size s H fp pins;have I0:Inv (D6 X sc own cap cl H2.objs.size s H fp pins) [] (Jm own cap Z) H {s with heap:=h₁,toks:=s.toks+([]:List (Str×Value)).length}:=A1j S cl1 cl2 I ok hCle hns₁ old;refine Lw (λn s'=>∃i acc its nn H',Inv (D6 X sc own cap cl H2.objs.size s H fp pins) [] (Jm own cap Z) H' s'/\tn i s'.heap/\(∀b∈fp,H' b=none) /\
   s'.heap.get? s.heap.objs.size=some {cls:=.type "list",data:=.seq its.toArray nn}/\AC acc its/\H' s.heap.objs.size=none/\W i n acc H') ?_ m0
   ⟨0,[],[],0,H,I0,T.keep _ _ _ st (λb _ o e=>old b o e),λb hb=>(f b hb).1,hacc,.nil,I.hok.fresh (Zzq _),w0⟩
  rintro n s3 ⟨i,acc,its,nn,H3,I3,st3,fr3,hD3,rv3,hDn,w3⟩;obtain⟨hz,hcase⟩:=turn i n acc H3 w3;have hpl:∀p∈[((s.heap.objs.size:Addr),({cls:=.type "list",data:=.seq its.toArray nn}:Obj))],∀b∈fp,p.1≠b:=λp hp b hb z=>by
   have e:p=_:=Zzc.mp hp;rw[e] at z;exact D4 (live b hb) (Zzq _) z.symm
  have I3':Inv (D6 X sc own cap cl H2.objs.size s H fp pins) [((s.heap.objs.size:Addr),({cls:=.type "list",data:=.seq its.toArray nn}:Obj))] (Jm own cap Z) H3 s3:=I3.pins_of λp hp=>by
   have e:p=_:=Zzc.mp hp;subst e;exact⟨hD3,hDn,hDC,hDst,λv z=>by cases z⟩
  rcases hcase with ⟨stop,fin⟩ | ⟨go,hlt,N,hN,step⟩
  ·refine thn (T.done (D6 X sc own cap cl H2.objs.size s H fp pins) rfl rfl rfl hc i _ s3 _ H3 _ I3' (fpX H3 _ fr3 hpl) st3 stop) λr s4 z0=>?_;obtain⟨hr,I4⟩:=z0;subst hr;have hD4:=(I4.pin (_,_) (Zyu _ (Zzc.mpr rfl))).1;obtain⟨J1,J2,J3⟩:=zf I f hCle (Zzq _) hDC I4 hDn hD4 rv3 hz;exact hRR _ _ _ _ J1 J2 J3 (fin _ hDn)
  ·refine thn (T.item (D6 X sc own cap cl H2.objs.size s H fp pins) rfl rfl rfl hc i _ s3 _ H3 _ I3' (fpX H3 _ fr3 hpl) st3 go) λr s4 z0=>?_;obtain⟨u,hr,h4⟩:=z0;subst hr;refine thn h4 λ_ s5 z0=>?_;obtain⟨x,H5,I5,r5,y5,st5,fr5⟩:=z0;have I5':=I5.pinned (fpX H5 _ fr5 hpl) (T.obj _ _ st5);refine thn (hg _ s5 _ H5 x u _ I5' r5 (hown _ _ _ _ (step x H5 y5))) λ_ s6 z0=>?_;obtain⟨σ6,H6,I6,⟨hx1,hx2⟩,q6⟩:=z0;refine thn (ht _ s6 σ6 H6 _ I6 q6) λb s7 z0=>?_;obtain⟨H7,I7,q7⟩:=z0;have wk:∀{H7:Hp} {s7:Shared} {pl:List (Addr×Obj)},Inv (D6 X sc own cap cl H2.objs.size s H fp pins) pl σ6 H7 s7->Inv (D6 X sc own cap cl H2.objs.size s H fp pins) pl (Jm own cap Z) H7 s7:=λI=>I.weak hx1.symm λj v e=>by
    rw[hx2 j (Vq e).1];exact e
   have stay:∀{H7:Hp} {s7:Shared} {σ7:St},Inv (D6 X sc own cap cl H2.objs.size s H fp pins) ([((s.heap.objs.size:Addr),({cls:=.type "list",data:=.seq its.toArray nn}:Obj))]++Oe fp s5.heap) σ7 H7 s7 ->
     tn (i+1) s7.heap/\(∀b∈fp,H7 b=none)/\s7.heap.get? s.heap.objs.size=some {cls:=.type "list",data:=.seq its.toArray nn}/\H7 s.heap.objs.size=none:=λ{H7 s7 σ7} I7=>by
    refine⟨T.keep _ _ _ st5 λb hb o e=>(I7.pin (b,o) (Zyu _ (Zyu _ (Js hb e)))).1,λb hb=>?_,?_,?_⟩
    ·obtain⟨o,e,d⟩:=T.obj _ _ st5 b hb;exact(I7.pin (b,o) (Zyu _ (Zyu _ (Js hb e)))).2.1
    ·exact(I7.pin (_,_) (Zyu _ (Zx9 _ (Zzc.mpr rfl)))).1
    ·exact(I7.pin (_,_) (Zyu _ (Zx9 _ (Zzc.mpr rfl)))).2.1
   cases b with
   |false =>
    rw[FY Zz8] at q7 ⊢;obtain⟨m',hm,w7⟩:=hN _ _ q7;obtain⟨a1,a2,a3,a4⟩:=stay I7;exact⟨m',hm,i+1,acc,its,nn,H7,(wk I7).pins_of (λp hp=>absurd hp (by simp)),a1,a2,a3,rv3,a4,w7⟩
   |true =>
    rw[FZ rfl] at q7 ⊢;refine thn (he _ s7 σ6 H7 _ I7 q7) λy s8 z0=>?_;obtain⟨v,H8,I8,r8,n8⟩:=z0;obtain⟨m',hm,w8⟩:=hN _ _ n8;obtain⟨a1,a2,a3,a4⟩:=stay I8;have hlen:=rv3.length;refine call_meets F.slot_list_append ⟨_,a3,rfl⟩ F.entry_list_append (F.args_list_append_2 _ _) (PySem.list_append s.heap.objs.size its.toArray nn y (by rw[Zzn];lia)) ⟨a3,?_⟩;obtain⟨n',q⟩:∃n',(s8.heap.update s.heap.objs.size (Obj.mapSeq (·.push y))).get? s.heap.objs.size=some {cls:=.type "list",data:=.seq (its++[y]).toArray n'}:=by
     have q:=PySem.IsL.update a3 (·.push y);have e:(its.toArray.push y)=(its++[y]).toArray:=by simp
     rw[<- e];exact⟨_,q⟩
    have I9:=(wk I8).pins_of (pins':=Oe fp s5.heap) λp hp=>(wk I8).pin p (Zyu _ (Zyu _ hp));have kk:∀b o,b≠s.heap.objs.size->s8.heap.get? b=some o->(s8.heap.update s.heap.objs.size (Obj.mapSeq (·.push y))).get? b=some o:=λb o hb e=>(Zy1 s8.heap (Obj.mapSeq (·.push y)) (Zzi hb)).trans e;refine⟨m',hm,i+1,acc++[v],its++[y],n',H8,(I9.pins_of (pins':=[]) λp hp=>absurd hp (by simp)).turned (it:=s.heap.objs.size) kk a4 hDC (.inr (Zzq _)) (λx c e z=>?_) (λp hp z=>?_),T.keep _ _ _ a1 λb hb o e=>kk b o (λz=>?_) e,a2,q,rv3.append (.cons r8 .nil),a4,w8⟩
    ·have e:=cl1 x c e
     obtain⟨w',o,ho,_⟩:=I.cell x c e;exact D4 (Zzg ho) (Zzq _) z
    ·have hp:p∈(X.pn++pins)++[]:=hp
     rw[Zz6] at hp;exact D4 (Zzg (I.pin p hp).1) (Zzq _) z
    ·exact D4 (live b hb) (Zzq _) z
 exact codeAny_compStart_list (loop _ rfl) (T.self _ 0 _ _ _ (T.keep _ _ _ st λb _ o e=>old b o e) (loop _ rfl))
theorem Bc{elt iter:Expr}{wi:TI}{g:TG}(hc:X.calm=true)(S:Ls X.N X.env.scope sc own cap)(hown:mn own.length g)(hi:PI X tg iter wi)
  (hb:∀cl C s H fp pins,PG (D6 X sc own cap cl C s H fp pins) tg g/\PTs (D6 X sc own cap cl C s H fp pins) ifs tt/\PE (D6 X sc own cap cl C s H fp pins) elt te)
  (hs:∀x,foldedSetIterable iter X.env x=pure x:=by intro _;rfl):PE X (.ListComp elt [⟨tg,iter,ifs,0⟩] sc pos) (ot own cap wi g tt te):=by
 intro pins s Z H Q I h;obtain⟨cl,hcl,cl1,cl2⟩:=Kc (env:=X.env) (scope:=sc) λy hy hf=>I.ok.has y.1 (S.free y hy hf);rw[eval_ListComp];refine wpAny_comprehension_free (use:=none) rfl hs hcl S.kind S.names (thn (hi pins s Z H _ I h) λxv s1 h1=>thn h1 λitv s2 h2=>?_);obtain⟨it,fp,tn,J,H2,e,I2,T,st2,f2,W,w0,turn⟩:=h2;subst e;refine Ta (RR:=λacc C=>compPost (model X.prog X.w) X.A X.xe none (EP X pins Z Q) acc C) hc S hown cl1 cl2 hb I2 T st2 f2 W w0 turn ?_;intro D C H' s' J1 ⟨m,J2⟩ ⟨c0,c1,c2,c3,c4,c5⟩ q;exact⟨m,J2,λh' sb=>⟨.ref D,H',J1.turned (t':=s'.toks) (λb o hb e=>(sb.2 b hb).trans e) c0 c1 c3 c4 c5,rfl,q⟩⟩
theorem Df{elt iter:Expr}{pos' spos:Pos}{wi:TI}{g:TG}(hc:X.calm=true)(S:Ls X.N X.env.scope sc own cap)(hown:mn own.length g)(hN:X.N.Nodup)(hx:X.N[i]?=some x)(hl:X.env.scope.names.lookup x=some .local)(hi:PI X tg iter wi)
  (hb:∀cl C s H fp pins,PG (D6 X sc own cap cl C s H fp pins) tg g/\PTs (D6 X sc own cap cl C s H fp pins) ifs tt/\PE (D6 X sc own cap cl C s H fp pins) elt te)
  (hsw:swapsWith (.ListComp elt [⟨tg,iter,ifs,0⟩] sc pos) (some (.Name x pos')) spos.line X.env=pure true:=by rfl)
  (hs:∀x,foldedSetIterable iter X.env x=pure x:=by intro _;rfl):PS X (.Assign [.Name x pos'] (.ListComp elt [⟨tg,iter,ifs,0⟩] sc pos) spos) (b9 (ot own cap wi g tt te) (Cv i)):=by
 intro pins s Z H D I h;obtain⟨cl,hcl,cl1,cl2⟩:=Kc (env:=X.env) (scope:=sc) λy hy hf=>I.ok.has y.1 (S.free y hy hf);rw[exec_Assign_Name_used _ _ _ _ hsw];refine GA (wpAny_standAt (GA ?_));show wpAny _ _ (do let _ <- comprehension (.ListComp elt [⟨tg,iter,ifs,0⟩] sc pos) sc X.env _ (newList []) false (eval iter X.env) (some (assign (.Name x pos') X.env))) _ _ s;refine GA (wpAny_mono (wpAny_comprehension_free (use:=some (assign (.Name x pos') X.env)) (Q:=λ_ s'=>SP X pins D .next s') rfl hs hcl S.kind S.names (thn (hi pins s Z H _ I h) λxv s1 h1=>thn h1 λitv s2 h2=>?_)) (λ_ s' hq=>GB (GB hq)) λ_ _ e=>e);obtain⟨it,fp,tn,J,H2,e,I2,T,st2,f2,W,w0,turn⟩:=h2;subst e;refine Ta (Q:=λx H1=>Cv i x Z H1 D.nx) (RR:=λacc C=>compPost (model X.prog X.w) X.A X.xe (some (assign (.Name x pos') X.env)) (λ_ s'=>SP X pins D .next s') acc C) hc S hown cl1 cl2 hb I2 T st2 f2 W w0 turn ?_;intro L C H' s' J1 ⟨m,J2⟩ ⟨c0,c1,c2,c3,c4,c5⟩ q;show wpAny _ _ (assign (.Name x pos') X.env (.ref L)) _ _ s';refine wpAny_assign_Name (Ul (v:=.ref L) J1 hN hx (.inl hl) rfl (λs'' J3 ⟨a,sb,ha⟩=>?_) (.inr hl));have hCa:C≠a:=by
  rcases ha with z | z
  ·rw[z];exact c1
  ·exact Zzi (c4 _ _ z)
 refine⟨m,J2.sameBut sb hCa,λh' sb'=>⟨_,H',J3.turned (t':=s''.toks) (λb o hb e=>(sb'.2 b hb).trans e) c0 c1 c3 c4 c5,q⟩⟩
end
noncomputable def Oa(H:Hp):V->Option String
 |.non=>some "NoneType"
 |.bl _=>some "bool"
 |.int _=>some "int"
 |.str _=>some "str"
 |.ref a=>match H a with
  |some (.lst _)=>some "list"
  |some (.tup _)=>some "tuple"
  |some (.dK _)=>some "dict"
  |_=>none
 |_=>none
noncomputable def D5(t T:String):Bool:=t == T||(t == "bool" && T == "int")
theorem yu(K:Zzw){t:String}(ht:t∈["NoneType", "bool", "int", "str", "list", "tuple", "dict"])(hT:T∈["bool", "int", "str", "list", "tuple", "dict"]):PySem.W.kitOne K (.type t) (.type T)=some (D5 t T):=by
 simp only[Zzs,Zzk,or_false] at ht hT;rcases ht with rfl | rfl | rfl | rfl | rfl | rfl | rfl<;>rcases hT with rfl | rfl | rfl | rfl | rfl | rfl<;>first | rfl | decide +kernel
theorem Dr:AK X (.builtin "isinstance") (λxs H Q=>∃x T t,xs=[x,.ty T]/\Oa H x=some t/\T∈["bool", "int", "str", "list", "tuple", "dict"]/\Q (.bl (D5 t T)) H):=by
 intro pins s Z H xs us Q I r h;obtain⟨x,T,t,rfl,ht,hT,q⟩:=h;obtain⟨u,w',rfl,ru,rw'⟩:=R5 r;have rw':w'=Value.type T:=rw';subst rw';have key:∀{t':String},Oz X.K H x (.type t')->t'=t->t∈["NoneType", "bool", "int", "str", "list", "tuple", "dict"]->wpAny (model X.prog X.w) X.A (call (.builtin "isinstance") [u,.type T]) (EP X pins Z Q) X.xe s:=λ{t'} ty e hm=>by
  subst e;exact kt I ru ty (yu X.K hm hT) λtk=>⟨.bl (D5 t' T),H,I.tok tk,rfl,q⟩
 cases x with
 |non=>cases ht;exact key .non rfl (by decide)
 |bl b=>cases ht;exact key (.bl b) rfl (by decide)
 |int i=>cases ht;exact key (.int i) rfl (by decide)
 |str z=>cases ht;exact key (.str z) rfl (by decide)
 |ref a =>
  unfold Oa at ht;simp only at ht;cases e:H a with
  |none=>rw[e] at ht;cases ht
  |some o =>
   rw[e] at ht;cases o with
   |lst xs=>cases ht;exact key (.lst e) rfl (by decide)
   |tup xs=>cases ht;exact key (.tup e) rfl (by decide)
   |dK kvs=>cases ht;exact key (.dK e) rfl (by decide)
   |_=>cases ht
 |_=>cases ht
theorem Inv.walked{o:Obj}{tk:Nat}(I:Inv X pins Z H s)(k:∀b ob,b∉[s.heap.objs.size]->(s.heap.push o).get? b=some ob->h'.get? b=some ob):Inv X pins Z H {s with heap:=h',toks:=tk} :=
 I.kept λb u e=>k b u (by
  intro z
  exact D4 (Zzg e) (Zzq _) (Zzc.mp z)) (Zzx _ e)
theorem e7:∀{bs:List Bool} {us:List Value},AC (bs.map V.bl) us->us=bs.map Value.bool
 |[],_,.nil=>rfl
 |b::r,_,.cons h t=>by
  have h:_=Value.bool b:=h;rw[h,e7 t];rfl
theorem bg(bs:List Bool):((Zyi bs.length).all λi=>(bs[i]?).getD true)=bs.all id:=by
 induction bs with
 |nil=>rfl
 |cons b r ih =>
  rw[Zys,List.range_succ_eq_map,Zw4,Zw4,List.all_map];show ((b::r)[0]?.getD true&&_)=_;congr 1
theorem Av(I:Inv X pins Z H s)(h:H a=some (.lst xs)):∃its:List Value,AC xs its/\s.heap.IsList a its.toArray/\a<s.heap.objs.size:=by
 obtain⟨hz,its,n,r,e⟩:=I.hok a _ h;exact⟨its,r,⟨_,e,rfl,n,rfl⟩,Zzg e⟩
theorem Fq(hc:X.calm=true):AK X (.builtin "all") (λxs H Q=>∃(a:Addr) (bs:List Bool),xs=[.ref a]/\H a=some (.lst (bs.map V.bl))/\Q (.bl (bs.all id)) H):=by
 intro pins s Z H xs us Q I r h;obtain⟨a,bs,rfl,ha,q⟩:=h;obtain⟨u,rfl,ru⟩:=Fc r;cases ru;obtain⟨its,rv,hl,hlt⟩:=Av I ha;have e:=e7 rv;subst e;refine call_all_walk (wpAny_pyIter_list hl ?_);refine⟨s.heap.objs.size,[s.heap.objs.size,a],[s.heap.objs.size],(bs.map Value.bool).toArray.size,_,_,λi=>(bs[i]?).getD true,rfl,Walks.list (A:=X.A.in1) (I.ok.hd hc) _ a (Zz2 hlt) (bs.map Value.bool).toArray,
  ⟨⟨_,Zzj _ rfl,rfl,rfl⟩,hl.push _⟩,λi v s' Q' E' hP hQ=>?_,λh' tk hk=>?_⟩
 ·have hP:(bs.map Value.bool)[i]?=some v:=by simpa using hP
  rw[Zzy] at hP;cases e:bs[i]? with
  |none=>rw[e] at hP;cases hP
  |some b =>
   rw[e] at hP;cases hP;simp only[e,Zvq] at hQ;exact wpAny_truthy_bool hQ
 ·have e:((Zyi (bs.map Value.bool).toArray.size).all λi=>(bs[i]?).getD true)=bs.all id:=by
   rw[Zzn,Zzz];exact bg bs
  rw[e];exact⟨.bl (bs.all id),H,I.walked hk,rfl,q⟩
theorem FE:OpR X (compareOp .Is) (λx y H Q=>∃i j,x=.bl i/\y=.bl j/\Q (.bl (i == j)) H):=by
 intro pins s Z H x y v u Q I rx ry h;obtain⟨i,j,rfl,rfl,q⟩:=h;cases rx;cases ry;exact is_bool ⟨.bl (i == j),H,I,rfl,q⟩
theorem EN:OpR X (compareOp .IsNot) (λx y H Q=>∃i j,x=.bl i/\y=.bl j/\Q (.bl (i != j)) H):=by
 intro pins s Z H x y v u Q I rx ry h;obtain⟨i,j,rfl,rfl,q⟩:=h;cases rx;cases ry;exact isnot_bool ⟨.bl (i != j),H,I,rfl,q⟩
theorem T9{x:V}:∀{xs:List V} {us:List Value},AC xs us->xs.all Io=true->us.countP (eqU x)=xs.countP λy=>eqV y x
 |_,_,.nil,_=>rfl
 |y::xs,u::us,.cons r t,h=>by
  rw[Zw4,Zyy] at h;rw[List.countP_cons,List.countP_cons,T9 t h.2,db r h.1]
def FF:V->List V->Hp->VK->Prop:=λx vs H Q=>∃l xs y,x=.ref l/\vs=[y]/\H l=some (.lst xs)/\Io y=true/\xs.all Io=true/\Q (.int (xs.countP λz=>eqV z y)) H
theorem ss:MtM X "list.count" FF:=by
 intro pins s Z H x vs v us Q I rx rv h;obtain⟨l,xs,y,rfl,rfl,hH,fy,fx,q⟩:=h;cases rx;obtain⟨u,rfl,ru⟩:=rv.one;obtain⟨z,its,n,r,hl,e⟩:=I.lstM hH;refine call_meets F.slot_list_count ⟨_,e,rfl⟩ F.entry_list_count (F.args_list_count_2 _ _) (SeqAt.list_countAt l its.toArray n none #[] u (eqU y)) ⟨e,λw hw=>Jj ru fy r fx w (by simpa using hw),?_⟩;exact⟨.int _,H,I.tok _,⟨_,by rw[<- T9 r fx]⟩,q⟩
noncomputable def Its(x:Str):It:=⟨λi _=>i<x.cps.size,λi H v H'=>H'=H/\∃c,x.cps[i]?=some c/\v=.str ⟨#[c]⟩,λi _=>x.cps.size<=i⟩
theorem Yc(it:Addr)(x:Str)(t:Tok)(ty:String)(hty:ty = "str_ascii_iterator" \/ ty = "str_iterator"):O5 P w K tg (Its x) [it] it (λi h=>h.IsStrIter it ty x t i) where
 mem:=by simp
 obj:=λi h st b hb=>by
  have e:b=it:=by simpa using hb
  subst e;obtain⟨o,e,c,d⟩:=st;exact⟨o,e,λv z=>by rw[d] at z;cases z⟩
 keep:=λi h h' st k=>by obtain⟨o,ho,r⟩:=st;exact⟨o,k it (by simp) o ho,r⟩
 item:=by
  intro X hP hw hK hc i pins s Z H E I hf st hg;subst hP hw hK;obtain⟨f0,f1,f2,f3,f4,f5⟩:=hf it (by simp);have hg:i<x.cps.size:=hg;have fin:∀h',h'.IsStrIter it ty x t (i+1)->Zy7 it s.heap h'->∃u,some (Value.str ⟨#[x.cps[i]]⟩ s.toks)=some u/\wpAny (model X.prog X.w) X.A (letOwnedTupleGo tg (.ref it) u) (λ_ s2=>∃x' H',Inv X pins Z H' s2/\AD x' u/\(Its x).yld i H x' H'/\s2.heap.IsStrIter it ty x t (i+1)/\∀b∈[it],H' b=none) E {s with heap:=h',toks:=s.toks+1}:=λh' st' sb=>by
   have I1:Inv X pins Z H {s with heap:=h',toks:=s.toks+1}:=I.turned (t':=s.toks+1) (λb o hb e=>(sb.2 b hb).trans e) f0 f1 f3 f4 f5;obtain⟨o,e,c,d⟩:=id st';refine⟨_,rfl,Vg (s:={s with heap:=h',toks:=s.toks+1}) e c d (by rcases hty with rfl | rfl<;>decide) ⟨.str ⟨#[x.cps[i]]⟩,H,I1,⟨_,rfl⟩,⟨rfl,_,by simp[hg],rfl⟩,st',λb hb=>(hf b hb).1⟩⟩
  rcases hty with rfl | rfl
  ·exact wpAny_pyNext_ascii_item st (c:=x.cps[i]) (by simp[hg]) fin
  ·exact wpAny_pyNext_wide_item st (c:=x.cps[i]) (by simp[hg]) fin
 done:=by
  intro X hP hw hK hc i pins s Z H E I hf st hg;subst hP hw hK;obtain⟨f0,f1,f2,f3,f4,f5⟩:=hf it (by simp);have hg:x.cps.size<=i:=hg;rcases hty with rfl | rfl
  ·exact wpAny_pyNext_ascii_end (I.ok.hd hc) st (by simp;lia) λh' eb=>⟨rfl,I.turned (t':=s.toks) (λb o hb e=>eb b o hb e) f0 f1 f3 f4 f5⟩
  ·exact wpAny_pyNext_wide_end (I.ok.hd hc) st (by simp;lia) λh' eb=>⟨rfl,I.turned (t':=s.toks) (λb o hb e=>eb b o hb e) f0 f1 f3 f4 f5⟩
 self:=λ_ _ _ _ _ st h=>by
  rcases hty with rfl | rfl
  ·exact wpAny_pyIter_striter_ascii st h
  ·exact wpAny_pyIter_striter_wide st h
theorem Ue(a it:Addr)(xs:List V):O5 P w K tg ⟨λi H=>H a=some (.lst xs)/\i<xs.length,λi H x H'=>H'=H/\xs[i]?=some x,λi H=>H a=some (.lst xs)/\xs.length<=i⟩ [it] it (λi h=>h.IsListIter it a i) where
 mem:=(Hv (P:=P) (w:=w) (K:=K) (tg:=tg) a it).mem
 obj:=(Hv (P:=P) (w:=w) (K:=K) (tg:=tg) a it).obj
 keep:=(Hv (P:=P) (w:=w) (K:=K) (tg:=tg) a it).keep
 item:=by
  intro X hP hw hK hc i pins s Z H E I hf st hg;obtain⟨h1,h2⟩:=hg;refine thn ((Hv (P:=P) (w:=w) (K:=K) (tg:=tg) a it).item X hP hw hK hc i pins s Z H E I hf st ⟨xs,xs[i],SqL.of h1,by simp[h2]⟩) λr s1 ⟨u,hr,h3⟩=>⟨u,hr,thn h3 λ_ s2 z0=>by obtain⟨x,H',I2,rx,⟨y1,y2⟩,st2,f2⟩:=z0;exact ⟨x,H',I2,rx,⟨y1,y2 xs (SqL.of h1)⟩,st2,f2⟩⟩
 done:=by
  intro X hP hw hK hc i pins s Z H E I hf st hg;obtain⟨h1,h2⟩:=hg;exact(Hv (P:=P) (w:=w) (K:=K) (tg:=tg) a it).done X hP hw hK hc i pins s Z H E I hf st ⟨xs,SqL.of h1,h2⟩
 self:=(Hv (P:=P) (w:=w) (K:=K) (tg:=tg) a it).self
theorem Ud(a it:Addr)(xs:List V):O5 P w K tg ⟨λi H=>H a=some (.tup xs)/\i<xs.length,λi H x H'=>H'=H/\xs[i]?=some x,λi H=>H a=some (.tup xs)/\xs.length<=i⟩ [it] it (λi h=>h.IsTupleIter it a i) where
 mem:=(Fu (P:=P) (w:=w) (K:=K) (tg:=tg) a it).mem
 obj:=(Fu (P:=P) (w:=w) (K:=K) (tg:=tg) a it).obj
 keep:=(Fu (P:=P) (w:=w) (K:=K) (tg:=tg) a it).keep
 item:=by
  intro X hP hw hK hc i pins s Z H E I hf st hg;obtain⟨h1,h2⟩:=hg;refine thn ((Fu (P:=P) (w:=w) (K:=K) (tg:=tg) a it).item X hP hw hK hc i pins s Z H E I hf st ⟨xs,xs[i],SqT.of h1,by simp[h2]⟩) λr s1 ⟨u,hr,h3⟩=>⟨u,hr,thn h3 λ_ s2 z0=>by obtain⟨x,H',I2,rx,⟨y1,y2⟩,st2,f2⟩:=z0;exact ⟨x,H',I2,rx,⟨y1,y2 xs (SqT.of h1)⟩,st2,f2⟩⟩
 done:=by
  intro X hP hw hK hc i pins s Z H E I hf st hg;obtain⟨h1,h2⟩:=hg;exact(Fu (P:=P) (w:=w) (K:=K) (tg:=tg) a it).done X hP hw hK hc i pins s Z H E I hf st ⟨xs,SqT.of h1,h2⟩
 self:=(Fu (P:=P) (w:=w) (K:=K) (tg:=tg) a it).self
noncomputable def ItL(a:Addr)(xs:List V):It:=⟨λi H=>H a=some (.lst xs)/\i<xs.length,λi H x H'=>H'=H/\xs[i]?=some x,λi H=>H a=some (.lst xs)/\xs.length<=i⟩
noncomputable def ItT(a:Addr)(xs:List V):It:=⟨λi H=>H a=some (.tup xs)/\i<xs.length,λi H x H'=>H'=H/\xs[i]?=some x,λi H=>H a=some (.tup xs)/\xs.length<=i⟩
def A2e(te:TE):TI:=λZ H R=>te Z H λx H1=>(∃a xs,x=.ref a/\H1 a=some (.lst xs)/\R (ItL a xs) H1)\/(∃a xs,x=.ref a/\H1 a=some (.tup xs)/\R (ItT a xs) H1)\/(∃z,x=.str z/\R (Its z) H1)
theorem J8{l:Expr}(hl:PE X l te):PI X tg l (A2e te):=by
 intro pins s Z H R I h;refine thn (hl pins s Z H _ I h) λv s1 z0=>?_;obtain⟨x,H1,I1,r1,q1⟩:=z0;have fp:∀b∈[s1.heap.objs.size],Kf X pins H1 b:=λb hb=>by
  have e:b=s1.heap.objs.size:=by simpa using hb
  subst e;exact I1.fpOk (Zzq _) (I1.hok.fresh (Zzq _))
 rcases q1 with ⟨a,xs,e,ha,q⟩ | ⟨a,xs,e,ha,q⟩ | ⟨z,e,q⟩
 ·subst e;cases r1;obtain⟨its,rv,hli,hlt⟩:=Av I1 ha;refine wpAny_pyIter_list hli ?_;exact⟨s1.heap.objs.size,[s1.heap.objs.size],_,_,H1,rfl,I1.kept (t':=s1.toks) λb o e=>Zzx _ e,Ue a _ xs,⟨_,Zzj _ rfl,rfl,rfl⟩,fp,q⟩
 ·subst e;cases r1;obtain⟨hz,its,rv,p⟩:=I1.hok a _ ha;refine wpAny_pyIter_tuple (show s1.heap.IsTuple a its.toArray from p) ?_;exact⟨s1.heap.objs.size,[s1.heap.objs.size],_,_,H1,rfl,I1.kept (t':=s1.toks) λb o e=>Zzx _ e,Ud a _ xs,⟨_,Zzj _ rfl,rfl,rfl⟩,fp,q⟩
 ·subst e;obtain⟨t,rfl⟩:=r1;cases hasc:z.cps.all (·<128)
  ·refine wpAny_pyIter_wide hasc ?_;exact⟨s1.heap.objs.size,[s1.heap.objs.size],_,_,H1,rfl,I1.kept (t':=s1.toks) λb o e=>Zzx _ e,Yc _ z t _ (.inr rfl),⟨_,Zzj _ rfl,rfl,rfl⟩,fp,q⟩
  ·refine wpAny_pyIter_ascii hasc ?_;exact⟨s1.heap.objs.size,[s1.heap.objs.size],_,_,H1,rfl,I1.kept (t':=s1.toks) λb o e=>Zzx _ e,Yc _ z t _ (.inl rfl),⟨_,Zzj _ rfl,rfl,rfl⟩,fp,q⟩
structure Tl(J:It)(n:Nat)(yl:Nat->V->Prop)(ok:Hp->Prop):Prop where
 go:∀i H,i<n->ok H->J.go i H
 yld:∀i H x H',i<n->ok H->J.yld i H x H'->H'=H/\yl i x
 stop:∀H,ok H->J.stop n H
theorem Dw(a:Addr)(xs:List V):Tl (ItL a xs) xs.length (λi x=>xs[i]?=some x) (λH=>H a=some (.lst xs)):=⟨λ_ _ h o=>⟨o,h⟩,λ_ _ _ _ _ _ y=>y,λ_ o=>⟨o,Zzq _⟩⟩
theorem D1(a:Addr)(xs:List V):Tl (ItT a xs) xs.length (λi x=>xs[i]?=some x) (λH=>H a=some (.tup xs)):=⟨λ_ _ h o=>⟨o,h⟩,λ_ _ _ _ _ _ y=>y,λ_ o=>⟨o,Zzq _⟩⟩
theorem v6(z:Str):Tl (Its z) z.cps.size (λi x=>∃c,z.cps[i]?=some c/\x=.str ⟨#[c]⟩) (λ_=>True):=⟨λ_ _ h _=>h,λ_ _ _ _ _ _ y=>y,λ_ _=>Zzq _⟩
theorem J4(lo:Int)(n:Nat):Tl (Itr lo n) n (λi x=>x=.int (lo+i)) (λ_=>True):=⟨λ_ _ h _=>h,λ_ _ _ _ _ _ y=>y,λ_ _=>Zzq _⟩
theorem va{ok:Hp->Prop}{g:TG}{tb:TS}{D:P4}(G:Tl J n yl ok)(Pv:Nat->St->Hp->Prop)(h0:Pv 0 Z H)(hok:∀i Z H,i<=n->Pv i Z H->ok H)
  (hs:∀i x Z H,i<n->yl i x->Pv i Z H->g x Z H λσ2 H2=>tb {D with nx:=Pv (i+1),ct:=Pv (i+1),bk:=D.nx} σ2 H2) (hd:∀Z H,Pv n Z H->D.nx Z H) :
  ∃W:Nat->Nat->St->Hp->Prop,(∃m,W 0 m Z H)/\∀i m Z H,W i m Z H ->
   (J.stop i H/\D.nx Z H)\/(J.go i H/\∃N:St->Hp->Prop,(∀Z' H',N Z' H'->∃m',m'<m/\W (i+1) m' Z' H')/\∀x H',J.yld i H x H'->g x Z H' λσ2 H2=>tb {D with nx:=N,ct:=N,bk:=D.nx} σ2 H2):=by
 refine⟨λi m Z H=>m=n - i/\i<=n/\Pv i Z H,⟨n,by simp,Zyz _,h0⟩,?_⟩;rintro i m Z H ⟨rfl,hi,p⟩;have q:=hok i Z H hi p;by_cases hlt:i<n
 ·refine .inr ⟨G.go i H hlt q,Pv (i+1),λZ' H' p'=>⟨n - (i+1),by lia,rfl,hlt,p'⟩,λx H' y=>?_⟩;obtain⟨e,y'⟩:=G.yld i H x H' hlt q y;subst e;exact hs i x Z _ hlt y' p
 ·have e:i=n:=by lia
  subst e;exact .inl ⟨G.stop H q,hd Z H p⟩
theorem Vr{ok:Hp->Prop}{g:TG}{σ0:St}{Q:VK}(G:Tl J n yl ok)(hn:n<=sizeLine)(Pv:Nat->List V->Hp->Prop)(h0:Pv 0 [] H)(hok:∀i acc H,i<=n->Pv i acc H->ok H)
  (hlen:∀i acc H,Pv i acc H->acc.length<=i)
  (hs:∀i x acc H,i<n->yl i x->Pv i acc H->g x σ0 H λσ2 H2=>tt σ2 H2 λb H3=>if b=true then te σ2 H3 λy H4=>Pv (i+1) (acc++[y]) H4 else Pv (i+1) acc H3)
  (hd:∀acc H,Pv n acc H->∀p,H p=none->Q (.ref p) (upd H p (.lst acc))) :
  ∃W:Nat->Nat->List V->Hp->Prop,(∃m,W 0 m [] H)/\∀i m acc H,W i m acc H->acc.length<=sizeLine /\
   ((J.stop i H/\∀p,H p=none->Q (.ref p) (upd H p (.lst acc))) \/
    (J.go i H/\acc.length<sizeLine/\∃N:List V->Hp->Prop,(∀acc' H',N acc' H'->∃m',m'<m/\W (i+1) m' acc' H')/\∀x H',J.yld i H x H'->g x σ0 H' λσ2 H2=>tt σ2 H2 λb H3=>if b=true then te σ2 H3 λy H4=>N (acc++[y]) H4 else N acc H3)):=by
 refine⟨λi m acc H=>m=n - i/\i<=n/\Pv i acc H,⟨n,by simp,Zyz _,h0⟩,?_⟩;rintro i m acc H ⟨rfl,hi,p⟩;have q:=hok i acc H hi p;have hl:=hlen i acc H p;refine⟨by lia,?_⟩;by_cases hlt:i<n
 ·refine .inr ⟨G.go i H hlt q,by lia,Pv (i+1),λacc' H' p'=>⟨n - (i+1),by lia,rfl,hlt,p'⟩,λx H' y=>?_⟩;obtain⟨e,y'⟩:=G.yld i H x H' hlt q y;subst e;exact hs i x acc _ hlt y' p
 ·have e:i=n:=by lia
  subst e;exact .inl ⟨G.stop H q,hd acc H p⟩
section
variable {a b c o:Expr}{tb tc to:TE}{p cpos:Pos}
theorem Ie:OpR X (binaryOp .FloorDiv) (rI (λ_ j=>0<j/\j<10^200) λi j=>.int (i / j)):=opI λi j _ _ _ _ _ hc q=>by
 have h:j.natAbs.log2<9000:=by
  have h1:j.natAbs≠0:=by lia
  rw[Nat.log2_lt h1];have h2:j.natAbs<10^200:=by have:=hc.2;lia
  exact Zz3 h2 (by decide +kernel)
 refine floordiv_int (by lia) ?_ (.inl (PyProof.noPylong_of_log2 h));rw[Int.fdiv_eq_ediv_of_nonneg i (by lia)];exact q
def FK:R2:=λx y H Q=>∃a b ys,x=.ref a/\y=.ref b/\H a=some (.tup [])/\H b=some (.tup ys)/\Q (.ref b) H
theorem yd:OpR X (binaryOp .Add) FK:=by
 intro pins s Z H x y v u Q I rx ry h;obtain⟨a,b,ys,rfl,rfl,ha,hb,q⟩:=h;cases rx;cases ry;obtain⟨its,r1,p1,_⟩:=I.tuple (SqT.of ha);obtain⟨its2,r2,p2,_⟩:=I.tuple (SqT.of hb);cases r1;obtain⟨⟨cls,dd,data,sl⟩,ho,hc,n,hd⟩:=id p1;obtain⟨⟨cls2,dd2,data2,sl2⟩,ho2,hc2,n2,hd2⟩:=id p2;simp only at hc hd hc2 hd2;subst hc hd hc2 hd2;exact concat_meets ⟨_,ho,rfl⟩ ⟨_,ho2,rfl⟩ noFill_tuple_add seq_tuple_add Zv0 Zv6 (Zve _ _)
   (tuple_addW0 a b _ _ n n2 dd dd2 sl sl2 (by simp)) ⟨ho,ho2,.ref b,H,I,rfl,q⟩
def EO:R2:=λx y H Q=>∃a b xs ys,x=.ref a/\y=.ref b/\H a=some (.tup xs)/\H b=some (.tup ys)/\xs.length+ys.length<=sizeLine /\
 ∀p H',H' p=some (.tup (xs++ys))->AA H H'->(∀q,q≠p->H' q=H q)->Q (.ref p) H'
theorem Z7:OpR X (binaryOp .Add) EO:=by
 intro pins s Z H x y v u Q I rx ry h;obtain⟨a,b,xs,ys,rfl,rfl,ha,hb,hz,q⟩:=h;by_cases hx:xs=[]
 ·subst hx;exact yd pins s Z H _ _ v u Q I rx ry ⟨a,b,ys,rfl,rfl,ha,hb,q b H (by simpa using hb) (AA.refl H) λ_ _=>rfl⟩
 ·refine yc pins s Z H _ _ v u Q I rx ry ⟨a,b,xs,ys,rfl,rfl,SqT.of ha,SqT.of hb,hx,hz,λe=>?_,λ_ p hp=>?_⟩
  ·subst e;exact q a H (by simpa using ha) (AA.refl H) λ_ _=>rfl
  ·exact q p _ A0 (λc o hc=>by rw[Ab (A5 hc hp)];exact hc) λ_ hq=>Ab hq
def gc:R2:=λx y H Q=>(∃i j,x=.int i/\y=.int j/\Q (.int (i+j)) H)\/(∃i j,x=.str i/\y=.str j/\i.length+j.length<=sizeLine/\Q (.str (i++j)) H)\/rCat x y H Q\/EO x y H Q
def Wi:R2:=λx y H Q=>(∃i j,x=.int i/\y=.int j/\Q (.int (i+j)) H)\/(∃i j,x=.str i/\y=.str j/\i.length+j.length<=sizeLine/\Q (.str (i++j)) H)
def Jp(H:Hp)(x y v:V):Prop :=
 (∃p xs i,x=.ref p/\y=.int i/\(H p=some (.lst xs)\/H p=some (.tup xs))/\atI xs i=some v) \/
 (∃z i c,x=.str z/\y=.int i/\z.length<=sizeLine/\atI z.cps.toList i=some c/\v=.str ⟨#[c]⟩) \/
 (∃p kvs k,x=.ref p/\y=kV k/\Rd H p (.dK kvs)/\Cy kvs k=some v)
def EV:R2:=λx y H Q=>∃v,Jp H x y v/\Q v H
theorem yx(hu:X.A.units+1<cLine):IxR X (λx y H Q=>∃a v,x=.ref a/\mo H a y (some v)/\Q v H):=by
 intro value slice pins s Z H x y v u Q I rx ry h hs;obtain⟨a,z,rfl,g,q⟩:=h;cases rx;exact tail_any (ac I g) PySem.F.slot_dict_getitem.lookup (lh hu I g ry λw' s3 I3 rw'=>⟨z,H,I3,rw',q⟩) hs
theorem yw(hu:X.A.units+1<cLine):IxR X EV:=by
 intro value slice pins s Z H x y v u Q I rx ry h hs;obtain⟨z,h,q⟩:=h;rcases h with ⟨p,xs,i,rfl,rfl,h | h,he⟩ | ⟨z',i,c,rfl,rfl,hz,he,rfl⟩ | ⟨p,kvs,k,rfl,rfl,h,he⟩
 ·exact ib value slice pins s Z H _ _ v u Q I rx ry ⟨p,xs,i,z,rfl,rfl,SqL.of h,he,q⟩ hs
 ·exact A19 value slice pins s Z H _ _ v u Q I rx ry ⟨p,xs,i,z,rfl,rfl,SqT.of h,he,q⟩ hs
 ·exact A1b value slice pins s Z H _ _ v u Q I rx ry ⟨z',i,c,rfl,rfl,hz,he,q⟩ hs
 ·refine yx hu value slice pins s Z H _ _ v u Q I rx ry ⟨p,z,rfl,?_,q⟩ hs;have g:mo H p (kV k) (Cy kvs k):=.inl ⟨kvs,k,h,rfl,rfl⟩;rw[he] at g;exact g
theorem A8(hu:X.A.units+1<cLine)(ha:PE X a ta)(hb:PE X b tb)(hs:Y1 b):PE X (.Subscript a b pos) (tOp EV ta tb):=qx (yw hu) ha hb hs
theorem Ad{p:Addr}(h:H p=some (.tup xs))(e:xs[j]?=some v):Jp H (.ref p) (.int j) v:=.inl ⟨p,xs,j,rfl,rfl,.inr h,O0 e⟩
theorem Bq{p:Addr}(h:H p=some (.lst xs))(e:xs[j]?=some v):Jp H (.ref p) (.int j) v:=.inl ⟨p,xs,j,rfl,rfl,.inl h,O0 e⟩
theorem Ju{p:Addr}{i:Int}(h:H p=some (.lst xs)\/H p=some (.tup xs))(h0:0<=i)(e:xs[i.toNat]?=some v):Jp H (.ref p) (.int i) v:=by
 refine .inl ⟨p,xs,i,rfl,rfl,h,?_⟩;have q:=O0 e;rw[Int.toNat_of_nonneg h0] at q;exact q
theorem A1c{z:Str}{i:Int}{c:Nat}(hz:z.length<=sizeLine)(h0:0<=i)(e:z.cps.toList[i.toNat]?=some c):Jp H (.str z) (.int i) (.str ⟨#[c]⟩):=by
 refine .inr (.inl ⟨z,i,c,rfl,rfl,hz,?_,rfl⟩);have q:=O0 e;rw[Int.toNat_of_nonneg h0] at q;exact q
theorem Ik{p:Addr}{k:Str}(h:Rd H p (.dK kvs))(e:Cy kvs (Zy4 k)=some v):Jp H (.ref p) (.str k) v:=.inr (.inr ⟨p,kvs,Zy4 k,rfl,rfl,h,e⟩)
def lenA:List V->Hp->VK->Prop:=λxs H Q=>(∃p ys,xs=[.ref p]/\(H p=some (.lst ys)\/H p=some (.tup ys))/\Q (.int ys.length) H)\/(∃z,xs=[.str z]/\z.length<=sizeLine/\Q (.int z.length) H)\/(∃p kvs,xs=[.ref p]/\H p=some (.dK kvs)/\Q (.int kvs.length) H)
theorem BU:AK X (.builtin "len") lenA:=by
 intro pins s Z H xs us Q I r h;rcases h with ⟨p,ys,rfl,h,q⟩ | ⟨z,rfl,hz,q⟩ | ⟨p,kvs,rfl,h,q⟩
 ·exact Hu pins s Z H _ us Q I r ⟨p,ys,rfl,h.imp SqL.of SqT.of,q⟩
 ·exact Xt pins s Z H _ us Q I r ⟨z,rfl,hz,q⟩
 ·exact mi pins s Z H _ us Q I r ⟨p,kvs,rfl,h,q⟩
def InA(H:Hp)(x y:V)(b:Bool):Prop :=
 (∃p xs,y=.ref p/\(H p=some (.lst xs)\/H p=some (.tup xs))/\Io x=true/\xs.all Io=true/\b=inV x xs) \/
 (∃i j,x=.str i/\y=.str j/\b=!(Zv7 j i 0 j.length 1).isEmpty) \/
 (∃p kvs k,y=.ref p/\x=kV k/\Rd H p (.dK kvs)/\b=(Cy kvs k).isSome)
theorem Mb(hu:X.A.units+1<cLine):OpR X (compareOp .In) (λx y H Q=>∃b,InA H x y b/\Q (.bl b) H):=by
 intro pins s Z H x y v u Q I rx ry h;obtain⟨b,h,q⟩:=h;rcases h with ⟨p,xs,rfl,hp,fx,fxs,rfl⟩ | ⟨i,j,rfl,rfl,rfl⟩ | ⟨p,kvs,k,rfl,rfl,hp,rfl⟩
 ·exact ju pins s Z H _ _ v u Q I rx ry ⟨p,xs,rfl,hp.imp SqL.of SqT.of,fx,fxs,q⟩
 ·exact jt pins s Z H _ _ v u Q I rx ry ⟨i,j,rfl,rfl,q⟩
 ·cases ry;exact d_in hu I (.inl ⟨kvs,k,hp,rfl,rfl⟩) rx λs' I'=>⟨.bl _,H,I',rfl,q⟩
theorem V4(hu:X.A.units+1<cLine):OpR X (compareOp .NotIn) (λx y H Q=>∃b,InA H x y b/\Q (.bl (!b)) H):=by
 intro pins s Z H x y v u Q I rx ry h;obtain⟨b,h,q⟩:=h;rcases h with ⟨p,xs,rfl,hp,fx,fxs,rfl⟩ | ⟨i,j,rfl,rfl,rfl⟩ | ⟨p,kvs,k,rfl,rfl,hp,rfl⟩
 ·exact Wn pins s Z H _ _ v u Q I rx ry ⟨p,xs,rfl,hp.imp SqL.of SqT.of,fx,fxs,q⟩
 ·exact Wm pins s Z H _ _ v u Q I rx ry ⟨i,j,rfl,rfl,q⟩
 ·cases ry;exact ze hu I (.inl ⟨kvs,k,hp,rfl,rfl⟩) rx λs' I'=>⟨.bl _,H,I',rfl,q⟩
def FL:V->V->V->Hp->(Hp->Prop)->Prop:=λo i v H Q=>EU o i v H Q\/(∃p kvs k,o=.ref p/\i=kV k/\H p=some (.dK kvs)/\kvs.length<sizeLine/\Q (upd H p (.dK (Gx kvs k v))))
theorem xi(hu:X.A.units+1<cLine):wo X FL:=by
 intro pins s Z H o i v ov iv u Q I ro ri rv h;rcases h with h | ⟨p,kvs,k,rfl,rfl,hp,hl,q⟩
 ·exact Gk pins s Z H o i v ov iv u Q I ro ri rv h
 ·cases ro;exact lg hu I (EL.k hp hl) ri rv λs' I'=>⟨_,I',q⟩
theorem A0j{x:V}(h:Oa H x=some T)(hT:T = "list" \/ T = "dict" \/ T = "str"):tyV K T x H:=by
 cases x with
 |str z=>cases h;rfl
 |ref a =>
  unfold Oa at h;simp only at h;cases e:H a with
  |none=>rw[e] at h;cases h
  |some o =>
   rw[e] at h;cases o with
   |lst xs=>cases h;exact .inl ⟨rfl,xs,SqL.of e⟩
   |tup xs=>cases h;exact absurd hT (by decide)
   |dK kvs=>cases h;exact .inr (.inr (.inl ⟨rfl,.inl ⟨kvs,e⟩⟩))
   |_=>cases h
 |int i=>cases h;exact absurd hT (by decide)
 |bl i=>cases h;exact absurd hT (by decide)
 |non=>cases h;exact absurd hT (by decide)
 |_=>cases h
def xb(T:String)(r:V->List V->Hp->VK->Prop)(to:TE):TE:=λZ H Q=>to Z H λx H1=>Oa H1 x=some T/\r x [] H1 Q
def tBA(T:String)(r:V->List V->Hp->VK->Prop)(to:TE)(t:TA):TE:=λZ H Q=>to Z H λx H1=>Oa H1 x=some T/\t Z H1 λxs H2=>r x xs H2 Q
variable {id:String}{r:V->List V->Hp->VK->Prop}
theorem A28(pa:PlainAttrs T)(slot:Slot T name id)(hty:typeOf (.builtin id)=pure (.type "method_descriptor"))(hm:MtR X id r)(ho:PE X o to)(ha:PA X (e::es) t)(hT:T = "list" \/ T = "dict" \/ T = "str" := by decide)
  (hbase:attributeBase o name X.env (eval o X.env)=eval o X.env:=by rfl)
  (hfew:((backTo cpos (starEach (e::es) X.env)).all (λx=>!x.1)&&(backToKw cpos (keywordEach [] X.env)).all (λx=>x.1.isSome)
   && decide ((e::es).length+([]:List Keyword).length+(if ([]:List Keyword).isEmpty then 0 else 1)<30))=true:=by rfl)
  (hline:(apos.endLine == cpos.line)=true:=by rfl) (hs:starEach (e::es) X.env=(false,eval e X.env)::starEach es X.env:=by rfl) (hplain:(backTo cpos (starEach es X.env)).any (·.1)=false:=by rfl) :
  PE X (.Call (.Attribute o name apos) (e::es) [] cpos) (tBA T r to t):=by
 intro pins s Z H Q I h;refine wpAny_Call_method_late hbase hfew hline rfl (thn (ho pins s Z H _ I h) λv s1 z0=>?_);obtain⟨x,H1,I1,r1,ty,q1⟩:=z0;obtain⟨h1,h2⟩:=A0k I1 r1 (A0j ty hT);refine⟨T,id,pa,slot,hty,h1,h2,?_⟩;have hA:=ha cpos pins s1 Z H1 _ I1 q1;rw[hs] at hA ⊢;refine Zuz (by show (false||(backTo cpos (starEach es X.env)).any (·.1))=false;rw[hplain]<;>rfl) (Calls.evalArgs_plain ?_);exact thn hA λus s2 ⟨vs,H2,I2,r2,q2⟩=>hm pins s2 Z H2 x vs v us Q I2 r1 r2 q2
end
def Has(P:Program)(w:World)(K:Zzw)(mg:Str->Option Value)(base:Heap)(x:Str)(k:Nat)(ps:List Str)(sp:Sp):Prop :=
 ∃f fd,mg x=some (.ref f)/\Zx0 K (.ref f)=true/\BJ K fd ps []/\B2 P w K mg base CX0 k f fd ps sp
theorem r9{k:Nat}{p:Pos}(h:Has X.prog X.w X.K X.mg X.base x k ps sp)(hr:AM k X.A)(hg:Gl X x)(ha:PA X (e::es) t)
  (hdb:(x == ("__debug__" : Str))=false:=by decide) (he:starEach (e::es) X.env=(false,eval e X.env)::starEach es X.env:=by rfl) (hpl:(backTo pos (starEach es X.env)).any (·.1)=false:=by rfl) :
  PE X (.Call (.Name x p) (e::es) [] pos) (Rf sp [] E0 t):=by
 obtain⟨f,fd,hm,hk,hb,F⟩:=h;exact y7 F hr hg hm hk hb .nil rg ha hdb he hpl
end L2
namespace HT
open PySem PyProof.Rows
theorem Lv{t sl:Addr}{vl vu:Value}(ht:IsTup s.heap t items)(hs:s.heap.IsSliceOf sl vl vu .none)(pl:IsPart vl lo)(pu:IsPart vu hi)
  (hw:sIx items.size 0 lo=0/\sIx items.size items.size hi=items.size) (h:Q (.ref t) s):wpAny (model prog w) A (getItem (.ref t) (.ref sl)) Q E s:=by
 obtain⟨os,hos,hcs,hds⟩:=id hs;have hTs:s.TypeIs (.ref sl) "slice" := ⟨os,hos,hcs⟩;unfold getItem;try with_reducible refine wpAny_holding ?_
 first | refine GA (GB ?_) | skip
 refine GA (wpAny_sequenceKey ht.typeIs (by decide) ?_);refine GA (wpAny_callSpecial?_slot (name:=Str.ofString "__getitem__") ht.typeIs Zxu
  (wpAny_call_entry Zxu ht.typeIs entry_tuple_getitem ?_ (args_tuple_getitem _ _)))
 show wpAny _ _ (Builtin.Tuple.tupleItemsOf (.ref t) >>= _) _ _ s;refine GA (tupleItemsOf_ ht ?_);refine GA (wpAny_typeOf hTs ?_);rw[FZ (by decide)];refine GA (Je hs pl pu ?_);have hyes:((((sIx items.size 0 lo:Nat):Int) == 0&&(1:Int) == 1&&(sIx items.size items.size hi - sIx items.size 0 lo) == items.size)=true):=by
  rw[hw.1,hw.2];simp
 show wpAny _ _ (if (((sIx items.size 0 lo:Nat):Int) == 0&&(1:Int) == 1&&(sIx items.size items.size hi - sIx items.size 0 lo) == items.size)=true then _ else _) _ _ s;rw[FZ hyes];refine GA (m:=Builtin.Tuple.tupleIsExact _) ?_;unfold Builtin.Tuple.tupleIsExact;refine GA (wpAny_typeOf ht.typeIs (GB ?_));rw[FZ (by decide)];refine GA (wpAny_rule ?_);first
  |exact GB ⟨_,rfl,GB h⟩
  |exact GA (GB (GB ⟨_,rfl,GB h⟩))
end HT
namespace L2
open PySem PySem.Spec PyProof.Rows
section
variable {a b c o:Expr}{tb tc to:TE}{p cpos:Pos}
theorem xf:SlR X (λx lo hi H Q=>∃a xs,x=.ref a/\H a=some (.tup xs)/\(HT.sIx xs.length 0 lo=0/\HT.sIx xs.length xs.length hi=xs.length)/\Q (.ref a) H):=by
 intro pins s Z H x v vl vu lo hi sl Q I rx hs pl pu h;obtain⟨a,xs,rfl,hx,hw,q⟩:=h;cases rx;obtain⟨its,r,ht,hz⟩:=I.tuple (SqT.of hx);have hlen:its.toArray.size=xs.length:=by rw[Zzn];exact r.length.symm
 refine⟨"tuple",_,Zxu.lookup,ht.typeIs,?_⟩;exact HT.Lv ht hs pl pu (by rw[hlen];exact hw) ⟨.ref a,H,I,rfl,q⟩
theorem de(h:HT.sIx xs.length 0 lo=0/\HT.sIx xs.length xs.length hi=xs.length):E7 xs lo hi=xs:=by
 unfold E7;rw[h.1,h.2];simp
noncomputable def Md(x:Str)(lo hi:Option Int):Str:=⟨((x.cps.toList.drop (HT.sIx x.length 0 lo)).take (HT.sIx x.length x.length hi - HT.sIx x.length 0 lo)).toArray⟩
theorem fh:SlR X (λx lo hi H Q=>∃a xs,x=.ref a/\H a=some (.tup xs)/\∀p H',H' p=some (.tup (E7 xs lo hi))->AA H H'->(∀q,q≠p->H' q=H q)->Q (.ref p) H'):=by
 intro pins s Z H x v vl vu lo hi sl Q I rx hs pl pu h;obtain⟨a,xs,rfl,hx,q⟩:=h;by_cases hw:HT.sIx xs.length 0 lo=0/\HT.sIx xs.length xs.length hi=xs.length
 ·exact xf pins s Z H _ v vl vu lo hi sl Q I rx hs pl pu ⟨a,xs,rfl,hx,hw,q a H (by rw[de hw];exact hx) (AA.refl H) λ_ _=>rfl⟩
 ·exact A0p pins s Z H _ v vl vu lo hi sl Q I rx hs pl pu ⟨a,xs,rfl,SqT.of hx,hw,λp hp=>q p _ A0 (λc o hc=>by rw[Ab (A5 hc hp)];exact hc) λ_ hq=>Ab hq⟩
theorem Ek:SlR X (λx lo hi H Q=>∃a xs,x=.ref a/\H a=some (.lst xs)/\∀p,H p=none->Q (.ref p) (upd H p (.lst (E7 xs lo hi)))):=by
 intro pins s Z H x v vl vu lo hi sl Q I rx hs pl pu h;obtain⟨a,xs,rfl,hx,q⟩:=h;exact xg pins s Z H _ v vl vu lo hi sl Q I rx hs pl pu ⟨a,xs,rfl,SqL.of hx,q⟩
theorem Ao{i:Int}(hg:Gl X x)(hm:∃t,X.mg x=some (.int i t))(hd:(x == ("__debug__" : Str))=false:=by decide):PE X (.Name x pos) (tC (.int i)):=by
 obtain⟨t,hm⟩:=hm;exact Nb hg hm ⟨t,rfl⟩ hd
theorem Na{z:Str}(hg:Gl X x)(hm:∃t,X.mg x=some (.str z t))(hd:(x == ("__debug__" : Str))=false:=by decide):PE X (.Name x pos) (tC (.str z)):=by
 obtain⟨t,hm⟩:=hm;exact Nb hg hm ⟨t,rfl⟩ hd
theorem Bl(hu:X.A.units+1<cLine):OpR X (compareOp .Eq) rEq:=A2b
theorem Kv(hu:X.A.units+1<cLine):OpR X (compareOp .NotEq) rNe:=A29
theorem Eh(hu:X.A.units+1<cLine):OpR X (compareOp .Lt) (rI0 λi j=>.bl (decide (i<j))):=A2a
def rIsA:R2:=λx y H Q=>(∃i j,x=.bl i/\y=.bl j/\Q (.bl (i == j)) H)\/(y=.non/\Q (.bl (decide (x=.non))) H)
theorem Wp:OpR X (compareOp .Is) rIsA:=FE.or A10
def FB:R2:=λx y H Q=>(∃i j,x=.bl i/\y=.bl j/\Q (.bl (i != j)) H)\/(y=.non/\Q (.bl (!decide (x=.non))) H)
theorem V5:OpR X (compareOp .IsNot) FB:=EN.or yb
theorem Vu(hc:X.calm=true):AK X (.builtin "min") (λxs H Q=>∃i j,xs=[.int i,.int j]/\Q (.int (if j<i then j else i)) H):=mf hc
def FG:List V->Hp->VK->Prop:=λxs H Q=>∃p ys,xs=[.ref p]/\((H p=some (.lst ys)/\∀l,H l=none->Q (.ref l) (upd H l (.tup ys)))\/(H p=some (.tup ys)/\Q (.ref p) H))
theorem Bv:AK X (.type "tuple") FG:=by
 intro pins s Z H xs us Q I r h;obtain⟨p,ys,rfl,h⟩:=h;exact U8 pins s Z H _ us Q I r ⟨p,ys,rfl,h.imp (λh=>⟨SqL.of h.1,h.2⟩) λh=>⟨SqT.of h.1,h.2⟩⟩
def FM:List V->Hp->VK->Prop:=λxs H Q=>∃p ys,xs=[.ref p]/\(H p=some (.lst ys)\/H p=some (.tup ys))/\∀l,H l=none->Q (.ref l) (upd H l (.lst ys))
theorem Tc:AK X (.type "list") FM:=by
 intro pins s Z H xs us Q I r h;obtain⟨p,ys,rfl,h,q⟩:=h;exact Xs pins s Z H _ us Q I r ⟨p,ys,rfl,h.imp SqL.of SqT.of,q⟩
noncomputable def cpB(N:List Str)(osc sc:Scope)(own:List Str)(cap:List Nat):Bool :=
 decide (sc.kind=.function)&&sc.names.all (λx=>x.2 != .local||decide (sc.names.lookup x.1=some .local))&&sc.names.all (λy=>y.2 != .cell) &&
 sc.names.all (λy=>y.2 != .free||decide (osc.names.lookup y.1=some .cell)||decide (osc.names.lookup y.1=some .free))&&cap.all λj=>decide (j<N.length)&&decide (sc.names.lookup (N.getD j "")=some .free)
theorem Br{osc:Scope}{own:List Str}(h:cpB N osc sc own cap=true):Ls N osc sc own cap:=by
 unfold cpB at h;rw[Zyy,Zyy,Zyy,Zyy] at h;obtain⟨⟨⟨⟨h1,h2⟩,h3⟩,h4⟩,h5⟩:=h;refine⟨FV h1,λx hx hl=>?_,λy hy hc=>?_,λy hy hf=>?_,λj hj=>?_⟩
 ·have q:=Zy5.mp h2 x hx
  rw[hl] at q;exact FV (by simpa using q)
 ·have q:=Zy5.mp h3 y hy
  rw[hc] at q;exact absurd q (by decide)
 ·have q:=Zy5.mp h4 y hy
  rw[hf] at q;rw[Bool.or_eq_true,Bool.or_eq_true] at q;rcases q with (q | q) | q
  ·exact absurd q (by decide)
  ·exact .inl (FV q)
  ·exact .inr (FV q)
 ·have q:=Zy5.mp h5 j hj
  rw[Zyy] at q;exact⟨FV q.1,FV q.2⟩
end
theorem pc(lo hi:Option Int)(n:Nat):Zy6 lo hi 1 n=sliceRange ((HT.sIx n 0 lo:Nat):Int) ((HT.sIx n n hi:Nat):Int) 1:=by
 unfold Zy6;have e1:(match lo with | none=>(if (1:Int) > 0 then (0:Int) else (n:Int) - 1) | some i=>(if (1:Int) > 0 then max 0 (min (if i<0 then i+(n:Int) else i) (n:Int)) else max (-1) (min (if i<0 then i+(n:Int) else i) ((n:Int) - 1))))=((HT.sIx n 0 lo:Nat):Int):=by
  cases lo with
  |none=>rfl
  |some i =>
   simp only[HT.sIx,show (1:Int) > 0 by decide,if_true];split<;>lia
 have e2:(match hi with | none=>(if (1:Int) > 0 then (n:Int) else -1) | some i=>(if (1:Int) > 0 then max 0 (min (if i<0 then i+(n:Int) else i) (n:Int)) else max (-1) (min (if i<0 then i+(n:Int) else i) ((n:Int) - 1))))=((HT.sIx n n hi:Nat):Int):=by
  cases hi with
  |none=>rfl
  |some i =>
   simp only[HT.sIx,show (1:Int) > 0 by decide,if_true];split<;>lia
 rw[<- e1,<- e2];rfl
theorem A0o(x:Str)(lo hi:Option Int):((Zy6 lo hi 1 x.length).filterMap (x.cps[·]?)).toArray=(Md x lo hi).cps:=by
 rw[pc];unfold Md;simp only[sliceRange_one,pick_run]
theorem ba(lo hi:Option Int)(n:Nat):(Zy6 lo hi 1 n).length=HT.sIx n n hi - HT.sIx n 0 lo:=by
 rw[pc];simp[sliceRange_one]
theorem fj:SlR X (λx lo hi H Q=>∃z,x=.str z/\z.length<=sizeLine/\Q (.str (Md z lo hi)) H):=by
 intro pins s Z H x v vl vu lo hi sl Q I rx hs pl pu h;obtain⟨z,rfl,hz,q⟩:=h;obtain⟨t,rfl⟩:=rx;refine⟨"str",_,F.slot_str_getitem.lookup,typeIs_str s z t,?_⟩;obtain⟨l,hl,el⟩:∃l:Option (Int×Tok),vl=partValue l/\l.map (·.1)=lo:=by
  cases pl with
  |none=>exact⟨none,rfl,rfl⟩
  |int i t=>exact⟨some (i,t),rfl,rfl⟩
 obtain⟨u,hu,eu⟩:∃u:Option (Int×Tok),vu=partValue u/\u.map (·.1)=hi:=by
  cases pu with
  |none=>exact⟨none,rfl,rfl⟩
  |int i t=>exact⟨some (i,t),rfl,rfl⟩
 subst hl hu;refine wpAny_getItem_str_slice (l:=l) (u:=u) (st:=none) hs rfl ?_;have hlen:(Md z lo hi).length<=z.length:=by
  unfold Md Str.length;simp only[Zzn,Zz7,Zxr];have:z.cps.toList.length=z.cps.size:=by simp
  lia
 unfold sliceMade slicePicked;rw[el,eu];show Made.post (if ((1:Int) == 1&&(Zy6 lo hi 1 z.length).length == z.length)=true then _ else _) _ _;by_cases hw:((1:Int) == 1&&(Zy6 lo hi 1 z.length).length == z.length)=true
 ·rw[FZ hw];have hw:(Zy6 lo hi 1 z.length).length=z.length:=by simpa using hw
  rw[ba] at hw;have h1:=HT.qc z.length z.length (Zzq _) hi;have e:Md z lo hi=z:=by
   unfold Md;by_cases h0:z.length=0
   ·have h0':z.cps=#[]:=by
     have:z.cps.size=0:=h0;exact Array.eq_empty_of_size_eq_zero this
    obtain⟨c⟩:=z;simp only at h0' ⊢;subst h0';simp
   ·have h2:HT.sIx z.length 0 lo=0:=by lia
    have h3:HT.sIx z.length z.length hi=z.length:=by lia
    rw[h2,h3];obtain⟨c⟩:=z;simp only[Str.length,List.drop_zero,Nat.sub_zero];rw[Zwq (by simp)]
  exact⟨.str z,H,I,⟨t,rfl⟩,by rw[e] at q;exact q⟩
 ·rw[FY hw];show Made.post (Made.str ⟨((Zy6 lo hi 1 z.length).filterMap (z.cps[·]?)).toArray⟩) _ _;rw[A0o];exact⟨Zzd hlen hz,.str (Md z lo hi),H,I.tok _,⟨_,rfl⟩,q⟩
def Z3:R2:=λx y H Q=>∃l k xs,x=.ref l/\y=.int k/\H l=some (.tup xs)/\xs≠[]/\2<=k/\k<=1000/\xs.length*k.toNat<=10000 /\
 ∀p,H p=none->Q (.ref p) (upd H p (.tup (Zy8 k.toNat xs).flatten))
def fw:R2:=λx y H Q=>(∃i j,x=.int i/\y=.int j/\EI i j/\Q (.int (i*j)) H)\/Z3 x y H Q
theorem AK.weak{f:Value}{r r':List V->Hp->VK->Prop}(h:AK X f r)(w:∀xs H Q,r' xs H Q->r xs H Q):AK X f r':=λpins s Z H xs us Q I rv q=>h pins s Z H xs us Q I rv (w _ _ _ q)
def lenQ:List V->Hp->VK->Prop:=λxs H Q=>∃p ys,xs=[.ref p]/\(H p=some (.lst ys)\/H p=some (.tup ys))/\Q (.int ys.length) H
theorem Bs:AK X (.builtin "len") lenQ:=BU.weak λ_ _ _ h=>.inl h
def EB:List V->Hp->VK->Prop:=λxs H Q=>∃z,xs=[.str z]/\z.length<=sizeLine/\Q (.int z.length) H
theorem dj:AK X (.builtin "len") EB:=BU.weak λ_ _ _ h=>.inr (.inl h)
def yp:List V->Hp->VK->Prop:=λxs H Q=>∃p kvs,xs=[.ref p]/\H p=some (.dK kvs)/\Q (.int kvs.length) H
def FN:V->V->V->Hp->(Hp->Prop)->Prop:=λo i v H Q=>∃p kvs k,o=.ref p/\i=kV k/\H p=some (.dK kvs)/\kvs.length<sizeLine/\Q (upd H p (.dK (Gx kvs k v)))
theorem Gm(hu:X.A.units+1<cLine):wo X FN:=λpins s Z H o i v ov iv u Q I ro ri rv h=>xi hu pins s Z H o i v ov iv u Q I ro ri rv (.inr h)
theorem Nq:PIp X .Add (rI0 λi j=>.int (i+j)):=λpins s Z H x y v u Q I rx ry q=>yz pins s Z H x y v u Q I rx ry q
def ga:R2:=λx y H Q=>∃i j,x=.str i/\y=.str j/\i.length+j.length<=sizeLine/\Q (.str (i++j)) H
def uo(te:TE):TI:=λZ H R=>te Z H λx H1=>∃a xs,x=.ref a/\H1 a=some (.lst xs)/\R (ItL a xs) H1
def ul(te:TE):TI:=λZ H R=>te Z H λx H1=>∃a xs,x=.ref a/\H1 a=some (.tup xs)/\R (ItT a xs) H1
def z6(te:TE):TI:=λZ H R=>te Z H λx H1=>∃z,x=.str z/\R (Its z) H1
theorem Cq{l:Expr}(hl:PE X l te):PI X tg l (uo te):=by
 intro pins s Z H R I h;refine thn (hl pins s Z H _ I h) λv s1 z0=>?_;obtain⟨x,H1,I1,r1,q1⟩:=z0;obtain⟨a,xs,e,ha,q⟩:=q1;subst e;cases r1;obtain⟨its,rv,hli,hlt⟩:=Av I1 ha;refine wpAny_pyIter_list hli ?_;refine⟨s1.heap.objs.size,[s1.heap.objs.size],_,_,H1,rfl,I1.kept (t':=s1.toks) λb o e=>Zzx _ e,Ue a _ xs,⟨_,Zzj _ rfl,rfl,rfl⟩,λb hb=>?_,q⟩;have e:b=s1.heap.objs.size:=by simpa using hb
 subst e;exact I1.fpOk (Zzq _) (I1.hok.fresh (Zzq _))
theorem Ca{l:Expr}(hl:PE X l te):PI X tg l (ul te):=by
 intro pins s Z H R I h;refine thn (hl pins s Z H _ I h) λv s1 z0=>?_;obtain⟨x,H1,I1,r1,q1⟩:=z0;obtain⟨a,xs,e,ha,q⟩:=q1;subst e;cases r1;obtain⟨hz,its,rv,p⟩:=I1.hok a _ ha;refine wpAny_pyIter_tuple (show s1.heap.IsTuple a its.toArray from p) ?_;refine⟨s1.heap.objs.size,[s1.heap.objs.size],_,_,H1,rfl,I1.kept (t':=s1.toks) λb o e=>Zzx _ e,Ud a _ xs,⟨_,Zzj _ rfl,rfl,rfl⟩,λb hb=>?_,q⟩;have e:b=s1.heap.objs.size:=by simpa using hb
 subst e;exact I1.fpOk (Zzq _) (I1.hok.fresh (Zzq _))
end L2
namespace NP
open PySem L2
theorem Cw:bootBuiltins "isinstance" = some (.builtin "isinstance"):=by decide +kernel
theorem Jy:bootBuiltins "all" = some (.builtin "all"):=by decide +kernel
theorem vy:bootBuiltins "min" = some (.builtin "min"):=by decide +kernel
theorem Me:bootBuiltins "max" = some (.builtin "max"):=by decide +kernel
theorem Ct:bootBuiltins "len" = some (.builtin "len"):=by decide +kernel
theorem Vx:bootBuiltins "sorted" = some (.builtin "sorted"):=by decide +kernel
theorem vx:bootBuiltins "sum" = some (.builtin "sum"):=by decide +kernel
theorem Ow:bootBuiltins "int" = some (.type "int"):=by decide +kernel
theorem zm:bootBuiltins "bool" = some (.type "bool"):=by decide +kernel
theorem Dz:bootBuiltins "str" = some (.type "str"):=by decide +kernel
theorem D2:bootBuiltins "tuple" = some (.type "tuple"):=by decide +kernel
theorem Xv:bootBuiltins "list" = some (.type "list"):=by decide +kernel
theorem Q2:bootBuiltins "reversed" = some (.type "reversed"):=by decide +kernel
theorem Xw:bootBuiltins "enumerate" = some (.type "enumerate"):=by decide +kernel
theorem dm:bootBuiltins "zip" = some (.type "zip"):=by decide +kernel
def But(st:Addr)(H H':Hp):Prop:=∀b o,b≠st->H b=some o->H' b=some o
theorem But.refl(st:Addr)(H:Hp):But st H H:=λ_ _ _ h=>h
theorem But.trans{H1 H2:Hp}(a:But st H H1)(b:But st H1 H2):But st H H2:=λc o n h=>b c o n (a c o n h)
theorem E8(s:AA H H'):But st H H':=λb o _ h=>s b o h
theorem A4(hp:H p=none):AA H (upd H p o):=λb u h=>by rw[Ab (A5 h hp)];exact h
theorem Qv(hp:H p=none):But st H (upd H p o):=E8 (A4 hp)
theorem Xu:But st H (upd H st o):=λb u n h=>by rw[Ab n];exact h
inductive D where
 |non | bl (b:Bool) | int (i:Int) | str (x:Str) | tup (ds:List D) | lst | dct
mutual
def Rep(H:Hp):D->V->Prop
 |.non,v=>v=.non
 |.bl b,v=>v=.bl b
 |.int i,v=>v=.int i
 |.str x,v=>v=.str x/\x.length<=1000
 |.tup ds,v=>∃a xs,v=.ref a/\H a=some (.tup xs)/\ds.length<=1000/\CO H ds xs
 |.lst,v=>∃a xs,v=.ref a/\H a=some (.lst xs)
 |.dct,v=>∃a kvs,v=.ref a/\H a=some (.dK kvs)
def CO(H:Hp):List D->List V->Prop
 |[],xs=>xs=[]
 |d::ds,xs=>∃x r,xs=x::r/\Rep H d x/\CO H ds r
end
def A0g(H H':Hp):Prop:=(∀a xs,H a=some (.tup xs)->H' a=some (.tup xs))/\(∀a xs,H a=some (.lst xs)->∃ys,H' a=some (.lst ys))/\∀a kvs,H a=some (.dK kvs)->∃kvs',H' a=some (.dK kvs')
mutual
theorem Rep.keep(k:A0g H H'):∀(d:D) (v:V),Rep H d v->Rep H' d v
 |.non,v,h=>by rw[Rep] at h ⊢;exact h
 |.bl b,v,h=>by rw[Rep] at h ⊢;exact h
 |.int i,v,h=>by rw[Rep] at h ⊢;exact h
 |.str x,v,h=>by rw[Rep] at h ⊢;exact h
 |.tup ds,v,h=>by
  rw[Rep] at h ⊢;obtain⟨a,xs,e,h,z,r⟩:=h;exact⟨a,xs,e,k.1 a xs h,z,CO.keep k ds xs r⟩
 |.lst,v,h=>by
  rw[Rep] at h ⊢;obtain⟨a,xs,e,h⟩:=h;obtain⟨ys,h'⟩:=k.2.1 a xs h;exact⟨a,ys,e,h'⟩
 |.dct,v,h=>by
  rw[Rep] at h ⊢;obtain⟨a,kvs,e,h⟩:=h;obtain⟨ys,h'⟩:=k.2.2 a kvs h;exact⟨a,ys,e,h'⟩
theorem CO.keep(k:A0g H H'):∀(ds:List D) (xs:List V),CO H ds xs->CO H' ds xs
 |[],xs,h=>by rw[CO] at h ⊢;exact h
 |d::ds,xs,h=>by
  rw[CO] at h ⊢;obtain⟨x,r,e,h1,h2⟩:=h;exact⟨x,r,e,Rep.keep k d x h1,CO.keep k ds r h2⟩
end
def D.ty:D->String
 |.non => "NoneType"
 |.bl _ => "bool"
 |.int _ => "int"
 |.str _ => "str"
 |.tup _ => "tuple"
 |.lst => "list"
 |.dct => "dict"
def W4(J:It)(own:List Str)(cap:List Nat)(g:TG)(tt:TT)(te:TE)(Z:St)(H1:Hp)(Q:VK):Prop:=∃W:Nat->Nat->List V->Hp->Prop,(∃m,W 0 m [] H1)/\∀i m acc H,W i m acc H->acc.length<=sizeLine /\
 ((J.stop i H/\∀p,H p=none->Q (.ref p) (upd H p (.lst acc))) \/
  (J.go i H/\acc.length<sizeLine/\∃N:List V->Hp->Prop,(∀acc' H',N acc' H'->∃m',m'<m/\W (i+1) m' acc' H')/\∀x H',J.yld i H x H'->g x (Jm own cap Z) H' λσ2 H2=>tt σ2 H2 λb H3=>if b=true then te σ2 H3 λy H4=>N (acc++[y]) H4 else N acc H3))
theorem Mj(own:List Str)(cap:List Nat)(wi:TI)(g:TG)(tt:TT)(te:TE)(Z:St)(H:Hp)(Q:VK):ot own cap wi g tt te Z H Q=wi Z H λJ H1=>W4 J own cap g tt te Z H1 Q:=rfl
def A00(J:It)(g:TG)(tb:TS)(D:P4)(Z:St)(H1:Hp):Prop:=∃W:Nat->Nat->St->Hp->Prop,(∃m,W 0 m Z H1)/\∀i m Z H,W i m Z H ->
 (J.stop i H/\D.nx Z H)\/(J.go i H/\∃N:St->Hp->Prop,(∀Z' H',N Z' H'->∃m',m'<m/\W (i+1) m' Z' H')/\∀x H',J.yld i H x H'->g x Z H' λσ2 H2=>tb {D with nx:=N,ct:=N,bk:=D.nx} σ2 H2)
theorem Qe(wi:TI)(g:TG)(tb:TS)(D:P4)(Z:St)(H:Hp):A22 wi g tb D Z H=wi Z H λJ H1=>A00 J g tb D Z H1:=rfl
theorem Qq(te:TE)(Z:St)(H:Hp)(R:It->Hp->Prop):A2e te Z H R=te Z H λx H1=>(∃a xs,x=.ref a/\H1 a=some (.lst xs)/\R (ItL a xs) H1)\/(∃a xs,x=.ref a/\H1 a=some (.tup xs)/\R (ItT a xs) H1)\/(∃z,x=.str z/\R (Its z) H1):=rfl
theorem Qm:("int" ∈ ["bool", "int", "str", "list", "tuple", "dict"])=True:=eq_true (by decide)
theorem Ni:("bool" ∈ ["bool", "int", "str", "list", "tuple", "dict"])=True:=eq_true (by decide)
theorem Ql:("str" ∈ ["bool", "int", "str", "list", "tuple", "dict"])=True:=eq_true (by decide)
theorem Nf:("list" ∈ ["bool", "int", "str", "list", "tuple", "dict"])=True:=eq_true (by decide)
theorem Lm:("tuple" ∈ ["bool", "int", "str", "list", "tuple", "dict"])=True:=eq_true (by decide)
theorem Ng:("dict" ∈ ["bool", "int", "str", "list", "tuple", "dict"])=True:=eq_true (by decide)
theorem E5:D5 "NoneType" "bool" = false:=by decide
theorem Ed:D5 "NoneType" "int" = false:=by decide
theorem Ec:D5 "NoneType" "str" = false:=by decide
theorem E3:D5 "NoneType" "list" = false:=by decide
theorem Du:D5 "NoneType" "tuple" = false:=by decide
theorem E4:D5 "NoneType" "dict" = false:=by decide
theorem Gi:D5 "bool" "bool" = true:=by decide
theorem Ht:D5 "bool" "int" = true:=by decide
theorem Hs:D5 "bool" "str" = false:=by decide
theorem Gg:D5 "bool" "list" = false:=by decide
theorem Fn:D5 "bool" "tuple" = false:=by decide
theorem Gh:D5 "bool" "dict" = false:=by decide
theorem Ho:D5 "int" "bool" = false:=by decide
theorem J0:D5 "int" "int" = true:=by decide
theorem Iz:D5 "int" "str" = false:=by decide
theorem Hm:D5 "int" "list" = false:=by decide
theorem Gc:D5 "int" "tuple" = false:=by decide
theorem Hn:D5 "int" "dict" = false:=by decide
theorem Hj:D5 "str" "bool" = false:=by decide
theorem Iy:D5 "str" "int" = false:=by decide
theorem Ix:D5 "str" "str" = true:=by decide
theorem Hh:D5 "str" "list" = false:=by decide
theorem G8:D5 "str" "tuple" = false:=by decide
theorem Hi:D5 "str" "dict" = false:=by decide
theorem Gb:D5 "list" "bool" = false:=by decide
theorem Hl:D5 "list" "int" = false:=by decide
theorem Hk:D5 "list" "str" = false:=by decide
theorem G9:D5 "list" "list" = true:=by decide
theorem Fl:D5 "list" "tuple" = false:=by decide
theorem Ga:D5 "list" "dict" = false:=by decide
theorem Fk:D5 "tuple" "bool" = false:=by decide
theorem G7:D5 "tuple" "int" = false:=by decide
theorem G6:D5 "tuple" "str" = false:=by decide
theorem Fi:D5 "tuple" "list" = false:=by decide
theorem El:D5 "tuple" "tuple" = true:=by decide
theorem Fj:D5 "tuple" "dict" = false:=by decide
theorem Gf:D5 "dict" "bool" = false:=by decide
theorem Hr:D5 "dict" "int" = false:=by decide
theorem Hq:D5 "dict" "str" = false:=by decide
theorem Gd:D5 "dict" "list" = false:=by decide
theorem Fm:D5 "dict" "tuple" = false:=by decide
theorem Ge:D5 "dict" "dict" = true:=by decide
theorem Bg{ok:Hp->Prop}{own:List Str}{g:TG}{Q:VK}(G:Tl J n yl ok)(hn:n<=sizeLine)(hok:∀H',AA H H'->ok H')(ys:List V)(hl:ys.length=n)
  (hs:∀i x H',i<n->yl i x->AA H H'->∀(N:V->Hp->Prop) (M:Hp->Prop),(∀y H4,AA H H4->ys[i]?=some y->N y H4)->g x (Jm own cap Z) H' λσ2 H2=>tt σ2 H2 λb H3=>if b=true then te σ2 H3 N else M H3)
  (hd:∀H',AA H H'->∀p,H' p=none->Q (.ref p) (upd H' p (.lst ys))):W4 J own cap g tt te Z H Q:=by
 refine Vr G hn (λi acc H'=>AA H H'/\acc=ys.take i) ⟨AA.refl H,by simp⟩ (λi acc H' _ h=>hok H' h.1) (λi acc H' h=>by rw[h.2,Zz7];lia) (λi x acc H' hi hx h=>?_) (λacc H' h p hp=>?_)
 ·obtain⟨s',rfl⟩:=h;refine hs i x H' hi hx s' _ _ λy H4 s4 hy=>⟨s4,?_⟩;rw[Zzb,hy];rfl
 ·obtain⟨s',e⟩:=h;rw[e,Zwq (by lia)];exact hd H' s' p hp
theorem Cp{ok:Hp->Prop}{g:TG}{tb:TS}{D:P4}(G:Tl J n yl ok)(Pv:Nat->St->Hp->Prop)(h0:Pv 0 Z H)(hok:∀i Z H,i<=n->Pv i Z H->ok H)
  (hs:∀i x Z H,i<n->yl i x->Pv i Z H->g x Z H λσ2 H2=>tb {D with nx:=Pv (i+1),ct:=Pv (i+1),bk:=D.nx} σ2 H2) (hd:∀Z H,Pv n Z H->D.nx Z H):A00 J g tb D Z H:=va G Pv h0 hok hs hd
theorem But.new{H1:Hp}{l:Addr}(h:But st H H1)(hl:H1 l=none):But st H (L2.upd H1 l o):=h.trans (Qv hl)
theorem But.same{H1 H2:Hp}(h:But st H H1)(s:AA H1 H2):But st H H2:=h.trans (E8 s)
theorem But.none{H1:Hp}{l:Addr}(h:But st H H1)(n:l≠st)(hl:H1 l=none):H l=none:=by
 cases e:H l with
 |none=>rfl
 |some o=>rw[h l o n e] at hl;cases hl
theorem Ag(h:n<=1000):n<=sizeLine:=Zzd h (by decide)
end NP
namespace L2
open PySem PySem.Spec PyProof.Rows
noncomputable def Cm:List Expr->Bool
 |[]=>true
 |.Starred ..::_=>false
 |_::r=>Cm r
theorem Ce{env:Env}:∀{es:List Expr},Cm es=true->starEach es env=es.map λe=>(false,eval e env)
 |[],_=>rfl
 |e::r,h=>by
  cases e<;>first
   | (exact absurd h Zz8)
   | (rw[Zza,<- Ce (env:=env) (es:=r) h];rfl)
theorem C1(h:Cm [e]=true):starEach (e::es) env=(false,eval e env)::starEach es env:=by
 cases e<;>first
  | (exact absurd h Zz8)
  |rfl
theorem Bd(h:Cm (e::es)=true):Cm [e]=true/\Cm es=true:=by
 cases e<;>first
  | (exact absurd h Zz8)
  |exact⟨rfl,h⟩
theorem D3(h:Cm es=true):(backTo pos (starEach es env)).any (·.1)=false:=by
 rw[Ce h];unfold backTo;rw[Zz1,List.any_map];induction es with
 |nil=>rfl
 |cons e r ih =>
  rw[Zw3];exact ih (Bd h).2
theorem dq(h:Cm es=true):(backTo pos (starEach es env)).all (λx=>!x.1)=true:=by
 rw[Ce h];unfold backTo;rw[Zz1,List.all_map];induction es with
 |nil=>rfl
 |cons e r ih =>
  rw[Zw4];exact ih (Bd h).2
section
variable {p cpos:Pos}{o:Expr}{to:TE}{id:String}{r:List V->Hp->VK->Prop}{k:Nat}
theorem A3(ha:PE X e te)(hr:PA X es t)(hn:Cm [e]=true:=by rfl):PA X (e::es) (Uk te t):=ya ha hr (C1 hn)
theorem A7(h:Has X.prog X.w X.K X.mg X.base x k ps sp)(hr:AM k X.A)(hg:Gl X x)(ha:PA X (e::es) t)(hn:Cm (e::es)=true:=by rfl)(hdb:(x == ("__debug__" : Str))=false:=by decide) :
  PE X (.Call (.Name x p) (e::es) [] pos) (Rf sp [] E0 t):=r9 h hr hg ha hdb (C1 (Bd hn).1) (D3 (Bd hn).2)
theorem Ai(hc:AK X (.builtin id) r)(hg:Gl X x)(hm:X.mg x=none)(hv:bootBuiltins x=some (.builtin id))(ha:PA X (e::es) t)(hn:Cm (e::es)=true:=by rfl)(hnm:x ≠ "__name__" := by decide)(hdb:(x == ("__debug__" : Str))=false:=by decide) :
  PE X (.Call (.Name x p) (e::es) [] pos) (tCB r t):=rf hc hg hm hv ha hnm hdb (C1 (Bd hn).1) (D3 (Bd hn).2)
theorem As(hc:AK X (.type T) r)(hg:Gl X x)(hm:X.mg x=none)(hv:bootBuiltins x=some (.type T))(ha:PA X (e::es) t)(hn:Cm (e::es)=true:=by rfl)(hnm:x ≠ "__name__" := by decide)(hdb:(x == ("__debug__" : Str))=false:=by decide) :
  PE X (.Call (.Name x p) (e::es) [] pos) (tCB r t):=jp hc hg hm hv ha hnm hdb (C1 (Bd hn).1) (D3 (Bd hn).2)
theorem Cf(pa:PlainAttrs T)(slot:Slot T name id)(hty:typeOf (.builtin id)=pure (.type "method_descriptor"))(hm:MtR X id rm)(ho:PE X o to)(ha:PA X (e::es) t)(hT:T = "list" \/ T = "dict" \/ T = "str" := by decide)
  (hbase:attributeBase o name X.env (eval o X.env)=eval o X.env:=by rfl) (hn:Cm (e::es)=true:=by rfl) (hlen:(e::es).length<20:=by decide) (hline:(apos.endLine == cpos.line)=true:=by rfl) :
  PE X (.Call (.Attribute o name apos) (e::es) [] cpos) (tBA T rm to t):=by
 refine A28 pa slot hty hm ho ha hT hbase ?_ hline (C1 (Bd hn).1) (D3 (Bd hn).2);rw[dq hn,Zuy];have e1:(backToKw cpos (keywordEach [] X.env)).all (λx=>x.1.isSome)=true:=rfl;rw[e1,Zuy];refine FW ?_;show (e::es).length+0+0<30;lia
theorem Cl{ta:TA}(hg:Gl X "range")(hm:X.mg "range" = none)(ha:PA X [e] ta)(hn:Cm [e]=true:=by rfl):PI X tg (.Call (.Name "range" p) [e] [] pos) (Ve ta):=jo hg hm ha (Ce hn)
theorem S4{ta:TA}(hg:Gl X "range")(hm:X.mg "range" = none)(ha:PA X [e,e2] ta)(hn:Cm [e,e2]=true:=by rfl):PI X tg (.Call (.Name "range" p) [e,e2] [] pos) (Vd ta):=jn hg hm ha (Ce hn) (Ce (Bd hn).2)
end
mutual
def RD(H:Hp):PyData->V->Prop
 |.none,v=>v=.non
 |.bool b,v=>v=.bl b
 |.int i,v=>v=.int i
 |.str x,v=>v=.str x
 |.list ds,v=>∃a xs,v=.ref a/\H a=some (.lst xs)/\RDs H ds xs
 |.tuple ds,v=>∃a xs,v=.ref a/\H a=some (.tup xs)/\RDs H ds xs
 |.dict _,_=>False
def RDs(H:Hp):List PyData->List V->Prop
 |[],xs=>xs=[]
 |d::ds,xs=>∃x r,xs=x::r/\RD H d x/\RDs H ds r
end
mutual
theorem RD.reads(ok:HOk P w H h):∀(d:PyData) (v:V) (u:Value),RD H d v->AD v u->∃as,Reads h u d as
 |.none,v,u,r,e=>by
  rw[RD] at r;subst r;cases e;exact⟨_,.none⟩
 |.bool b,v,u,r,e=>by
  rw[RD] at r;subst r;cases e;exact⟨_,.bool b⟩
 |.int i,v,u,r,e=>by
  rw[RD] at r;subst r;obtain⟨t,rfl⟩:=e;exact⟨_,.int i t⟩
 |.str x,v,u,r,e=>by
  rw[RD] at r;subst r;obtain⟨t,rfl⟩:=e;exact⟨_,.str x t⟩
 |.list ds,v,u,r,e=>by
  rw[RD] at r;obtain⟨a,xs,rfl,ha,r⟩:=r;cases e;obtain⟨hz,its,n,rv,eo⟩:=ok a _ ha;obtain⟨as,q⟩:=RDs.reads ok ds xs its r rv;exact⟨_,.list (vs:=its.toArray) eo rfl rfl q⟩
 |.tuple ds,v,u,r,e=>by
  rw[RD] at r;obtain⟨a,xs,rfl,ha,r⟩:=r;cases e;obtain⟨hz,its,rv,o,ho,hc,n,hd⟩:=ok a _ ha;obtain⟨as,q⟩:=RDs.reads ok ds xs its r rv;exact⟨_,.tuple (vs:=its.toArray) ho hc hd q⟩
 |.dict _,v,u,r,e=>by
  rw[RD] at r;exact r.elim
theorem RDs.reads(ok:HOk P w H h):∀(ds:List PyData) (xs:List V) (us:List Value),RDs H ds xs->AC xs us->∃as,ReadsAll h us ds as
 |[],xs,us,r,e=>by
  rw[RDs] at r;subst r;cases e;exact⟨_,.nil⟩
 |d::ds,xs,us,r,e=>by
  rw[RDs] at r;obtain⟨x,r',rfl,h1,h2⟩:=r;cases e with
  |cons r1 r2 =>
   obtain⟨as,q1⟩:=RD.reads ok d x _ h1 r1;obtain⟨bs,q2⟩:=RDs.reads ok ds r' _ h2 r2;exact⟨_,.cons q1 q2⟩
end
noncomputable def okD(d:PyData):Bool:=d.canLay0&&decide (d.depth<=50)
def xo:R2:=λx y H Q=>∃d e,RD H d x/\RD H e y/\okD d=true/\okD e=true/\Q (.bl (PyData.eqv d e)) H
def rNeD:R2:=λx y H Q=>∃d e,RD H d x/\RD H e y/\okD d=true/\okD e=true/\Q (.bl (!PyData.eqv d e)) H
theorem rk{d e:PyData}(h:okD d=true)(hu:A.units+64<cLine):A.units+min d.depth e.depth<cLine:=by
 have h1:d.depth<=50:=FV (Zuo.mp h).2;have h2:min d.depth e.depth<=d.depth:=Nat.min_le_left _ _;lia
theorem Wo(hu:X.A.units+64<cLine):OpR X (compareOp .NotEq) rNeD:=by
 intro pins s Z H x y v u Q I rx ry h;obtain⟨d,e,rd,re,hd,he,q⟩:=h;obtain⟨as,r1⟩:=RD.reads I.hok d x v rd rx;obtain⟨bs,r2⟩:=RD.reads I.hok e y u re ry;exact SeqAt.compareNe_reads r1 r2 (Zuo.mp hd).1 (Zuo.mp he).1 (rk hd hu) ⟨.bl _,H,I,rfl,q⟩
theorem Qr{k:Nat}(hr:AM k A):A.units+64<cLine:=by
 have:=hr.un;lia
def Wd(ns:List Int):PyData:=.list (ns.map .int)
theorem Z1:∀ns:List Int,RDs H (ns.map .int) (ns.map V.int)
 |[]=>by rw[Zxn,Zxn,RDs]
 |n::r=>by
  rw[Zza,Zza,RDs];exact⟨_,_,rfl,by rw[RD],Z1 r⟩
theorem qj(h:H a=some (.lst (ns.map V.int))):RD H (Wd ns) (.ref a):=by
 unfold Wd;rw[RD];exact⟨a,_,rfl,h,Z1 ns⟩
theorem Q1:∀ns:List Int,PyData.canLayAll0 (ns.map .int)=true
 |[]=>rfl
 |n::r=>by
  rw[Zza,PyData.canLayAll0,PyData.canLay0,Q1 r];rfl
theorem T3:∀ns:List Int,PyData.depthAll (ns.map .int)=0
 |[]=>rfl
 |n::r=>by
  rw[Zza,PyData.depthAll,PyData.depth,T3 r];rfl
theorem gu(ns:List Int):okD (Wd ns)=true:=by
 unfold okD Wd;rw[PyData.canLay0,Q1,PyData.depth,T3];rfl
theorem Pz:∀ns ms:List Int,PyData.eqvAll (ns.map .int) (ms.map .int)=decide (ns=ms)
 |[],[]=>by simp[PyData.eqvAll]
 |[],m::s=>by simp[PyData.eqvAll]
 |n::r,[]=>by simp[PyData.eqvAll]
 |n::r,m::s=>by
  rw[Zza,Zza,PyData.eqvAll,PyData.eqv,Pz r s];by_cases h:n=m
  ·subst h;simp
  ·simp[h]
theorem vd(ns ms:List Int):PyData.eqv (Wd ns) (Wd ms)=decide (ns=ms):=by
 unfold Wd;rw[PyData.eqv];exact Pz ns ms
theorem HOk.but(x:HOk P w H h)(k:∀b o,b∉wr->h.get? b=some o->h'.get? b=some o)(n:∀b∈wr,H b=none):HOk P w H h':=λa o e =>
 (x a o e).stay (λb u hb q=>k b u (λz=>by
  rcases hb with hb | hb
  ·rw[hb] at z;rw[n a z] at e;cases e
  ·rw[n b z] at hb;cases hb) q) (λ_ q=>q) λ_ _ q=>q
theorem Inv.turnedL(I:Inv X pins Z H s)(k:∀b o,b∉wr->s.heap.get? b=some o->h'.get? b=some o)(f:∀b∈wr,Kf X pins H b):Inv X pins Z H {s with heap:=h',toks:=t'}:=by
 refine I.step (g':=s.gens) (d':=s.drawn) (ch:=wr) (λb hb=>?_) (λb o _ _ hc e _=>k b o hc e) (λb o _ _ hc e _=>⟨o.slots,k b o hc e⟩) (λ_ _ _ _ n=>n)
  (λb o hc e=>⟨o,k b o hc e⟩) (λ_ _ e=>e) (λ_ _ _ e=>e) (λb ps e=>⟨#[],by rw[e];simp⟩) (λm hm=>?_) (I.hok.but k λb hb=>(f b hb).1) I.bare
 ·obtain⟨f0,f1,f2,f3,f4,f5⟩:=f b hb;exact⟨f3,f1,f4,f5⟩
 ·obtain⟨o,es,ep,ho,r⟩:=hm;exact⟨o,es,ep,k _ o (λz=>(f _ z).2.1 rfl) ho,r⟩
theorem Inv.turnedT(I:Inv X pins Z H s)(k:∀b o,b∉wr->s.heap.get? b=some o->h'.get? b=some o)(f:∀b∈wr,Kf X pins H b)(hp:s.heap.objs.size<=p)
  (ht:IsTup h' p its.toArray) (rv:AC xs its) (hz:xs.length<=sizeLine):Inv X pins Z (upd H p (.tup xs)) {s with heap:=h',toks:=t'}:=by
 have hn:H p=none:=I.hok.fresh hp;have ne:∀b o,s.heap.get? b=some o->b≠p:=λb o e=>D4 (Zzg e) hp;refine I.step (g':=s.gens) (d':=s.drawn) (ch:=wr) (λb hb=>?_) (λb o _ _ hc e _=>k b o hc e) (λb o _ _ hc e _=>⟨o.slots,k b o hc e⟩) (λb o _ e n=>by rw[Ab (ne b o e)];exact n)
  (λb o hc e=>⟨o,k b o hc e⟩) (λb ys e=>by rw[Ab (A5 e hn)];exact e) (λb o u e=>by rw[Ab (A5 e hn)];exact e) (λb ps e=>⟨#[],by rw[Ab (A5 e hn),e];simp⟩) (λm hm=>?_) (λb u e=>?_) I.bare
 ·obtain⟨f0,f1,f2,f3,f4,f5⟩:=f b hb;exact⟨f3,f1,f4,f5⟩
 ·obtain⟨o,es,ep,ho,r⟩:=hm;exact⟨o,es,ep,k _ o (λz=>(f _ z).2.1 rfl) ho,r⟩
 ·by_cases hb:b=p
  ·subst hb;rw[A0] at e;cases e;exact⟨hz,its,rv,ht⟩
  ·rw[Ab hb] at e;refine(I.hok.but k (λb hb=>(f b hb).1) b u e).stay (λ_ _ _ q=>q) (λc q=>?_) λc ys q=>?_
   ·rw[Ab (A5 q hn)];exact q
   ·rw[Ab (A5 q hn)];exact q
theorem Xm{it:Addr}{Pt:Nat->Array Value->Prop}{St:Nat->Heap->Prop}{Mid:Nat->Addr->Heap->Prop}{k:Nat}{Y:List V->Prop}
  (W:WalksT P w X.A it fp wr n Pt St Mid) (hi:i<n) (I:Inv X pins Z H s) (st:St i s.heap) (hf:∀b∈wr,Kf X pins H b) (hv:∀vals,Pt i vals->∃xs,AC xs vals.toList/\xs.length<=100/\Y xs) :
  wpAny (model P w) X.A (pyNext (.ref it)) (λr s1=>∃u,r=some u/\wpAny (model P w) X.A (letOwnedTupleGo (.Tuple elts k pos) (.ref it) u) (λ_ s2 =>
   ∃p xs,u=.ref p/\s.heap.objs.size<=p/\H p=none/\Inv X pins Z (upd H p (.tup xs)) s2/\Y xs/\St (i+1) s2.heap) E s1) E s:=by
 refine W.item i s _ E hi st λT vals h1 tk hP hT ht hm hk=>⟨.ref T,rfl,?_⟩;obtain⟨xs,rv,hz,hY⟩:=hv vals hP;refine W.go elts k pos i T {s with heap:=h1,toks:=tk} _ E hm λh2 st2 hk2=>?_;have hTw:T∉wr:=W.apart i T h1 hm;have ht2:IsTup h2 T vals.toList.toArray:=by
  obtain⟨o,ho,hc,m,hd⟩:=ht;exact⟨o,hk2 T o hTw ho,hc,m,by simpa using hd⟩
 exact⟨T,xs,rfl,hT,I.hok.fresh hT,I.turnedT (t':=tk) (λb o hb e=>hk2 b o hb (hk b o hb e)) hf hT ht2 rv (Zzd hz (by decide)),hY,st2⟩
structure W3(J:It)(n:Nat)(yl:Nat->List V->Prop)(ok:Hp->Prop):Prop where
 go:∀i H,i<n->ok H->J.go i H
 yld:∀i H x H',i<n->ok H->J.yld i H x H'->∃p ys,x=.ref p/\H p=none/\H'=upd H p (.tup ys)/\yl i ys
 stop:∀H,ok H->J.stop n H
theorem Zz{yl:Nat->List V->Prop}{ok:Hp->Prop}{g:TG}{tb:TS}{D:P4}(G:W3 J n yl ok)(Pv:Nat->St->Hp->Prop)(h0:Pv 0 Z H)(hok:∀i Z H,i<=n->Pv i Z H->ok H)
  (hs:∀i ys p Z H,i<n->yl i ys->Pv i Z H->H p=none->g (.ref p) Z (upd H p (.tup ys)) λσ2 H2=>tb {D with nx:=Pv (i+1),ct:=Pv (i+1),bk:=D.nx} σ2 H2) (hd:∀Z H,Pv n Z H->D.nx Z H):NP.A00 J g tb D Z H:=by
 refine⟨λi m Z H=>m=n - i/\i<=n/\Pv i Z H,⟨n,by simp,Zyz _,h0⟩,?_⟩;rintro i m Z H ⟨rfl,hi,p⟩;have q:=hok i Z H hi p;by_cases hlt:i<n
 ·refine .inr ⟨G.go i H hlt q,Pv (i+1),λZ' H' p'=>⟨n - (i+1),by lia,rfl,hlt,p'⟩,λx H' y=>?_⟩;obtain⟨a,ys,e1,e2,e3,y'⟩:=G.yld i H x H' hlt q y;subst e1 e3;exact hs i ys a Z H hlt y' p e2
 ·have e:i=n:=by lia
  subst e;exact .inl ⟨G.stop H q,hd Z H p⟩
theorem gT2{x:V}{Q:St->Hp->Prop}(h:Q ((Z.set i (some x)).set j (some y)) (upd H p (.tup [x,y]))):Zy K 2 (Ea (Cv i) (Ea (Cv j) CZ)) (.ref p) Z (upd H p (.tup [x,y])) Q :=
 ⟨p,_,rfl,SqT.of A0,rfl,_,_,rfl,_,_,rfl,rfl,h⟩
theorem gT3{k:Nat}{x z:V}{Q:St->Hp->Prop}(h:Q (((Z.set i (some x)).set j (some y)).set k (some z)) (upd H p (.tup [x,y,z]))) :
  Zy K 3 (Ea (Cv i) (Ea (Cv j) (Ea (Cv k) CZ))) (.ref p) Z (upd H p (.tup [x,y,z])) Q :=
 ⟨p,_,rfl,SqT.of A0,rfl,_,_,rfl,_,_,rfl,_,_,rfl,rfl,h⟩
noncomputable def ItE(a:Addr)(xs:List V):It:=⟨λi H=>H a=some (.lst xs)/\i<xs.length,λi H x H'=>∃p y,x=.ref p/\H p=none/\xs[i]?=some y/\H'=upd H p (.tup [.int i,y]),λi H=>H a=some (.lst xs)/\i=xs.length⟩
theorem A08(a:Addr)(xs:List V):W3 (ItE a xs) xs.length (λi ys=>∃y,xs[i]?=some y/\ys=[.int i,y]) (λH=>H a=some (.lst xs)) :=
 ⟨λi H h o=>⟨o,h⟩,λi H x H' h o y=>by obtain⟨p,z,e1,e2,e3,e4⟩:=y;exact⟨p,_,e1,e2,e4,z,e3,rfl⟩,λH o=>⟨o,rfl⟩⟩
theorem je{k:Nat}(e it a:Addr)(xs:List V)(hei:e≠it):O5 P w K (.Tuple elts k pos) (ItE a xs) [e,it] e (λi h=>(∃old,IsEnum h e it i old)/\h.IsListIter it a i) where
 mem:=by simp
 obj:=λi h st b hb=>by
  obtain⟨⟨old,he⟩,o,ho,c,d⟩:=st;rcases Zzs.mp hb with q | q
  ·rw[q];exact⟨_,he,λv z=>by cases z⟩
  ·rw[Zzc.mp q];exact⟨o,ho,λv z=>by rw[d] at z;cases z⟩
 keep:=λi h h' st k=>by
  obtain⟨⟨old,he⟩,hi⟩:=st;exact⟨⟨old,k e (by simp) _ he⟩,hi.at λo q=>k it (by simp) o q⟩
 item:=by
  intro X hP hw hK hc i pins s Z H E I hf st hg;subst hP hw hK;obtain⟨hq,hlt⟩:=hg;obtain⟨its,rv,hl,hal⟩:=Av I hq;have f1:=hf e (by simp);have f2:=hf it (by simp);have hae:a≠e:=A5 hq f1.1;have hai:a≠it:=A5 hq f2.1;have hlen:=rv.length;have hv:∀vals:Array Value,(∃t x,its.toArray[i]?=some x/\vals=#[.int i t,x])->∃ys,AC ys vals.toList/\ys.length<=100/\∃y,xs[i]?=some y/\ys=[V.int i,y]:=by
   rintro vals ⟨t,x,hx,rfl⟩;obtain⟨u,hu,ru⟩:=rv.get (x:=xs[i]) (i:=i) (by simp[hlt]);have hx:its[i]?=some x:=by simpa using hx
   rw[hx] at hu;cases hu;exact⟨[.int i,xs[i]],.cons ⟨t,rfl⟩ (.cons ru .nil),by simp,xs[i],by simp[hlt],rfl⟩
  refine thn (Xm (E:=E) (WalksT.enumerate (I.ok.hd hc) e it a hei hae hai its.toArray) (by rw[Zzn];lia) I ⟨st.1,st.2,hl⟩ hf hv) λr s1 ⟨u,hr,h3⟩=>⟨u,hr,thn h3 λ_ s2 z0=>?_⟩;obtain⟨p,ys,hu,hp,hn,I2,⟨y,hy,e2⟩,st2⟩:=z0;subst hu e2;refine⟨.ref p,_,I2,rfl,⟨p,y,rfl,hn,hy,rfl⟩,⟨st2.1,st2.2.1⟩,λb hb=>?_⟩;have hbl:b<s.heap.objs.size:=by
   obtain⟨⟨old,he⟩,o,ho,c,d⟩:=st;rcases Zzs.mp hb with q | q
   ·rw[q];exact Zzg he
   ·rw[Zzc.mp q];exact Zzg ho
  rw[Ab (D4 hbl hp)];exact(hf b hb).1
 done:=by
  intro X hP hw hK hc i pins s Z H E I hf st hg;subst hP hw hK;obtain⟨hq,hlt⟩:=hg;obtain⟨its,rv,hl,hal⟩:=Av I hq;have f1:=hf e (by simp);have f2:=hf it (by simp);have hlen:=rv.length;have hi:its.toArray.size=i:=by rw[Zzn];lia
  refine(WalksT.enumerate (I.ok.hd hc) e it a hei (A5 hq f1.1) (A5 hq f2.1) its.toArray).done s _ E ?_ λh' tk hk=>⟨rfl,I.turnedL hk hf⟩;rw[hi];exact⟨st.1,st.2,hl⟩
 self:=λ_ _ _ _ _ st h=>by
  obtain⟨⟨old,he⟩,_⟩:=st;exact wpAny_pyIter_enum he h
def Zw(ta:TA):TI:=λZ H R=>ta Z H λvs H1=>∃a xs,vs=[.ref a]/\H1 a=some (.lst xs)/\R (ItE a xs) H1
theorem gj{k:Nat}{pt p:Pos}{ta:TA}(hg:Gl X "enumerate")(hm:X.mg "enumerate" = none)(ha:PA X [e] ta)(hn:Cm [e]=true:=by rfl):PI X (.Tuple elts k pt) (.Call (.Name "enumerate" p) [e] [] pos) (Zw ta):=by
 intro pins s Z H R I h;refine Call_ (Er I hg hm NP.Xw (Zyb (thn (ha pos pins s Z H _ I h) λus s1 ⟨vs,H1,I1,r1,q1⟩=>?_) (Ce hn) rfl));obtain⟨a,xs,e,hq,q⟩:=q1;subst e;obtain⟨u,rfl,ru⟩:=Fc r1;cases ru;obtain⟨its,rv,hl,hal⟩:=Av I1 hq;refine call_enumerate_list hl λh' he hi hz hk=>wpAny_pyIter_enum he ?_;have I2:Inv X pins Z H1 {s1 with heap:=h'}:=I1.kept (t':=s1.toks) hk;refine⟨s1.heap.objs.size+1,[s1.heap.objs.size+1,s1.heap.objs.size],_,_,H1,rfl,I2,je _ _ a xs (Zux _),⟨⟨_,he⟩,hi⟩,λb hb=>?_,q⟩;have hb':s1.heap.objs.size<=b:=by
  rcases Zzs.mp hb with z | z
  ·rw[z];exact Zu6 _
  ·rw[Zzc.mp z];exact Zzq _
 exact I1.fpOk hb' (I1.hok.fresh hb')
theorem Pu(ns:List Int):∀n,n<=ns.length->preSum (λi=>(ns[i]?).getD 0) n=(ns.take n).sum
 |0,_=>by simp[preSum]
 |n+1,h=>by
  have hn:n<ns.length:=h;rw[preSum,Pu ns n (by lia),Zzb,List.sum_append];simp only[Zzr hn,Zvq,Option.toList_some,List.sum_cons,List.sum_nil,Zxy]
theorem bi(ns:List Int):preSum (λi=>(ns[i]?).getD 0) ns.length=ns.sum:=by
 rw[Pu ns _ (Zzq _),Zzf]
theorem R0:∀{ns:List Int} {us:List Value} {i:Nat} {u:Value},AC (ns.map V.int) us->us[i]?=some u->∃t,u=.int ((ns[i]?).getD 0) t
 |[],_,i,u,.nil,e=>by simp at e
 |n::r,_,0,u,.cons h t,e=>by
  obtain⟨t',h⟩:=h;simp at e;subst e;exact⟨t',by rw[h];rfl⟩
 |n::r,_,i+1,u,.cons h t,e=>by
  obtain⟨t',q⟩:=R0 (ns:=r) (i:=i) (u:=u) t (by simpa using e);exact⟨t',by rw[q];simp⟩
def rSum:List V->Hp->VK->Prop:=λxs H Q=>∃(a:Addr) (ns:List Int),xs=[.ref a]/\H a=some (.lst (ns.map V.int))/\Q (.int ns.sum) H
theorem Vs(hc:X.calm=true):AK X (.builtin "sum") rSum:=by
 intro pins s Z H xs us Q I r h;obtain⟨a,ns,rfl,ha,q⟩:=h;obtain⟨u,rfl,ru⟩:=Fc r;cases ru;obtain⟨its,rv,hl,hlt⟩:=Av I ha;have hlen:its.length=ns.length:=by have:=rv.length;rw[Zzz] at this;exact this.symm
 refine call_sum_walkG (wpAny_pyIter_list hl ?_);refine⟨s.heap.objs.size,[s.heap.objs.size,a],[s.heap.objs.size],its.toArray.size,_,_,λi=>(ns[i]?).getD 0,rfl,Walks.list (A:=X.A.in1) (I.ok.hd hc) _ a (Zz2 hlt) its.toArray,
  ⟨⟨_,Zzj _ rfl,rfl,rfl⟩,hl.push _⟩,λb hb=>?_,λi v hP=>?_,λh' tk t' hk=>?_⟩
 ·have e:(s.heap.push {cls:=.type "list_iterator",data:=.fields #[.ref a,.int 0 0]}).objs.size=s.heap.objs.size+1:=Zye ..
  show b<(s.heap.push {cls:=.type "list_iterator",data:=.fields #[.ref a,.int 0 0]}).objs.size;rw[e];rcases Zzs.mp hb with z | z
  ·rw[z];exact Nat.lt_succ_self _
  ·rw[Zzc.mp z];exact Zx7 hlt
 ·have hP:its[i]?=some v:=by simpa using hP
  exact R0 rv hP
 ·rw[Zzn,hlen,bi];exact⟨.int ns.sum,H,I.walked hk,⟨_,rfl⟩,q⟩
def Qh:V->List V->Hp->VK->Prop:=λx vs H Q=>∃l xs i y,x=.ref l/\vs=[.int i,y]/\H l=some (.lst xs)/\0<=i/\i<2^60/\xs.length<1000000/\Q .non (upd H l (.lst (xs.take (min i.toNat xs.length)++y::xs.drop (min i.toNat xs.length))))
def FO:List V->Hp->VK->Prop:=λxs H Q=>∃i j,xs=[.int i,.int j]/\Q (.int (if j > i then j else i)) H
theorem Ou(hc:X.calm=true):AK X (.builtin "max") FO:=mh hc
theorem q9{d:Nat}{k:Int}(h:0<=k):HT.sIx n d (some k)=min k.toNat n:=by
 unfold HT.sIx;simp only;split<;>lia
theorem Nx{j:Int}(hj:0<=j):E7 xs none (some j)=xs.take j.toNat:=by
 unfold E7;rw[q9 hj];have e:HT.sIx xs.length 0 none=0:=rfl;rw[e,List.drop_zero,Nat.sub_zero];apply Zxf;intro k;simp only[Zxd];by_cases h:k<xs.length
 ·by_cases h2:k<j.toNat
  ·rw[FZ (by lia),FZ h2]
  ·rw[FY (by lia),FY h2]
 ·rw[Zyt (by lia)];split<;>split<;>rfl
def EG(i j:Int):Prop:=EI i j\/(i.natAbs<10^3000/\j.natAbs<10^3000)
theorem iw{i:Int}(h:i.natAbs<10^3000):Builtin.Int.intBits i<=2^20:=by
 unfold Builtin.Int.intBits;split
 ·exact Zyz _
 ·rename_i h0;have h1:i.natAbs≠0:=by
   intro e;exact h0 (by simpa using e)
  have h2:i.natAbs.log2<2^19:=by
   rw[Nat.log2_lt h1];refine Zz3 h (Zzd (Nat.pow_le_pow_left (by decide:(10:Nat)<=2^4) 3000) ?_);rw[<- Nat.pow_mul];exact Zun (by decide) (by decide)
  have:(2:Nat)^20=2^19+2^19:=by decide
  have:(1:Nat)<=2^19:=by decide
  lia
theorem EG.ok{i j:Int}(h:EG i j):IntMulOk i j:=h.elim EI.ok λh=>.of_bits (iw h.1) (iw h.2)
theorem G5:OpR X (binaryOp .Mult) (rI EG λi j=>.int (i*j)):=opI λ_ _ _ _ _ _ _ hc q=>mul_int q hc.ok
noncomputable def A1t(a b:Addr)(xs ys:List V):It:=⟨λi H=>H a=some (.lst xs)/\H b=some (.lst ys)/\i<min xs.length ys.length,
 λi H x H'=>∃p y z,x=.ref p/\H p=none/\xs[i]?=some y/\ys[i]?=some z/\H'=upd H p (.tup [y,z]),λi H=>H a=some (.lst xs)/\H b=some (.lst ys)/\i=min xs.length ys.length⟩
theorem v5(a b:Addr)(xs ys:List V):W3 (A1t a b xs ys) (min xs.length ys.length) (λi us=>∃y z,xs[i]?=some y/\ys[i]?=some z/\us=[y,z]) (λH=>H a=some (.lst xs)/\H b=some (.lst ys)) :=
 ⟨λi H h o=>⟨o.1,o.2,h⟩,λi H x H' h o y=>by obtain⟨p,u,v,e1,e2,e3,e4,e5⟩:=y;exact⟨p,_,e1,e2,e5,u,v,e3,e4,rfl⟩,λH o=>⟨o.1,o.2,rfl⟩⟩
theorem jd{k:Nat}(z TI TO i1 i2 a b:Addr)(xs ys:List V)(nd:[z,TI,TO,i1,i2].Nodup) :
  O5 P w K (.Tuple elts k pos) (A1t a b xs ys) [z,TI,TO,i1,i2] z (λi h=>IsZip h z TI TO .none/\IsPair h TI (.ref i1) (.ref i2)/\(∃u v,IsPair h TO u v)/\h.IsListIter i1 a i/\h.IsListIter i2 b i):=by
 have nd':=nd;simp only[Zyj,Zzs,Zzk,or_false,not_or] at nd';obtain⟨⟨n1,n2,n3,n4⟩,⟨n5,n6,n7⟩,⟨n8,n9⟩,n10,_⟩:=nd';have objs:∀(i:Nat) (h:Heap),(IsZip h z TI TO .none/\IsPair h TI (.ref i1) (.ref i2)/\(∃u v,IsPair h TO u v)/\h.IsListIter i1 a i/\h.IsListIter i2 b i)->∀c∈[z,TI,TO,i1,i2],∃o,h.get? c=some o/\∀v,o.data≠.cell v:=by
  rintro i h ⟨hz,hT,⟨u,v,hO⟩,⟨o1,g1,c1,d1⟩,⟨o2,g2,c2,d2⟩⟩ c hc;simp only[Zzs,Zzk,or_false] at hc;rcases hc with q | q | q | q | q<;>subst q
  ·exact⟨_,hz,λ_ y=>by cases y⟩
  ·exact⟨_,hT,λ_ y=>by cases y⟩
  ·exact⟨_,hO,λ_ y=>by cases y⟩
  ·exact⟨o1,g1,λ_ y=>by rw[d1] at y;cases y⟩
  ·exact⟨o2,g2,λ_ y=>by rw[d2] at y;cases y⟩
 have apart:∀{X:Cx} {pins:List (Addr×Obj)} {H:Hp},(∀c∈[z,TI,TO,i1,i2],Kf X pins H c)->∀{us vs:List V},H a=some (.lst us)->H b=some (.lst vs)->ZipApart z TI TO i1 i2 a b:=by
  intro X pins H hf us vs ha hb;have fr:∀c∈[z,TI,TO,i1,i2],a≠c/\b≠c:=λc hc=>⟨A5 ha (hf c hc).1,A5 hb (hf c hc).1⟩;exact⟨λe=>n1 e.symm,λe=>n2 e.symm,λe=>n3 e.symm,λe=>n4 e.symm,n5,n6,n7,n8,n9,n10,(fr z (by simp)).1,(fr TO (by simp)).1,(fr i1 (by simp)).1,(fr i2 (by simp)).1,(fr z (by simp)).2,(fr TO (by simp)).2,(fr i1 (by simp)).2,(fr i2 (by simp)).2⟩
 refine⟨by simp,objs,?_,?_,?_,?_⟩
 ·rintro i h h' ⟨hz,hT,⟨u,v,hO⟩,g1,g2⟩ kp;exact⟨kp z (by simp) _ hz,kp TI (by simp) _ hT,⟨u,v,kp TO (by simp) _ hO⟩,g1.at λo e=>kp i1 (by simp) o e,g2.at λo e=>kp i2 (by simp) o e⟩
 ·intro X hP hw hK hc i pins s Z H E I hf st hg;subst hP hw hK;obtain⟨ha,hb,hlt⟩:=hg;obtain⟨its,rv,hl,hal⟩:=Av I ha;obtain⟨its2,rv2,hl2,hal2⟩:=Av I hb;have AE:=rv.length;have AR:=rv2.length;obtain⟨s1,s2,s3,s4,s5⟩:=id st;have hv:∀vals:Array Value,(∃x y,its.toArray[i]?=some x/\its2.toArray[i]?=some y/\vals=#[x,y])->∃us,AC us vals.toList/\us.length<=100/\∃y z,xs[i]?=some y/\ys[i]?=some z/\us=[y,z]:=by
   rintro vals ⟨x,y,hx,hy,rfl⟩;have l1:i<xs.length:=by lia
   have l2:i<ys.length:=by lia
   obtain⟨u,hu,ru⟩:=rv.get (x:=xs[i]) (i:=i) (by simp[l1]);obtain⟨u',hu',ru'⟩:=rv2.get (x:=ys[i]) (i:=i) (by simp[l2]);have hx:its[i]?=some x:=by simpa using hx
   have hy:its2[i]?=some y:=by simpa using hy
   rw[hx] at hu;rw[hy] at hu';cases hu;cases hu';exact⟨[xs[i],ys[i]],.cons ru (.cons ru' .nil),by simp,xs[i],ys[i],by simp[l1],by simp[l2],rfl⟩
  have sub:∀c∈[z,TO,i1,i2],c∈[z,TI,TO,i1,i2]:=λc hc=>by simp at hc ⊢;rcases hc with h | h | h | h<;>simp[h]
  refine thn (Xm (E:=E) (WalksT.zip2 (I.ok.hd hc) z TI TO i1 i2 a b (apart hf ha hb) its.toArray its2.toArray) (by rw[Zzn,Zzn];lia) I ⟨s1,s2,s3,s4,s5,hl,hl2⟩ (λc hc=>hf c (sub c hc)) hv) λr t1 ⟨u,hr,h3⟩ =>
   ⟨u,hr,thn h3 λ_ t2 ⟨p,us,hu,hp,hn,I2,⟨y,y',hy,hy',e2⟩,st2⟩=>?_⟩
  subst hu e2;refine⟨.ref p,_,I2,rfl,⟨p,y,y',rfl,hn,hy,hy',rfl⟩,⟨st2.1,st2.2.1,st2.2.2.1,st2.2.2.2.1,st2.2.2.2.2.1⟩,λc hc=>?_⟩;obtain⟨o,ho,_⟩:=objs i _ st c hc;rw[Ab (D4 (Zzg ho) hp)];exact(hf c hc).1
 ·intro X hP hw hK hc i pins s Z H E I hf st hg;subst hP hw hK;obtain⟨ha,hb,hlt⟩:=hg;obtain⟨its,rv,hl,hal⟩:=Av I ha;obtain⟨its2,rv2,hl2,hal2⟩:=Av I hb;have AE:=rv.length;have AR:=rv2.length;obtain⟨s1,s2,s3,s4,s5⟩:=id st;have sub:∀c∈[z,TO,i1,i2],c∈[z,TI,TO,i1,i2]:=λc hc=>by simp at hc ⊢;rcases hc with h | h | h | h<;>simp[h]
  have hi:min its.toArray.size its2.toArray.size=i:=by rw[Zzn,Zzn];lia
  refine(WalksT.zip2 (I.ok.hd hc) z TI TO i1 i2 a b (apart hf ha hb) its.toArray its2.toArray).done s _ E ?_ λh' tk hk=>⟨rfl,I.turnedL hk λc hc=>hf c (sub c hc)⟩;rw[hi];exact⟨s1,s2,s3,s4,s5,hl,hl2⟩
 ·intro A i s Q E st h;exact wpAny_pyIter_zip st.1 h
def Zv(ta:TA):TI:=λZ H R=>ta Z H λvs H1=>∃a b xs ys,vs=[.ref a,.ref b]/\H1 a=some (.lst xs)/\H1 b=some (.lst ys)/\R (A1t a b xs ys) H1
theorem gh{k:Nat}{pt p:Pos}{ta:TA}(hg:Gl X "zip")(hm:X.mg "zip" = none)(ha:PA X [e,e2] ta)(hn:Cm [e,e2]=true:=by rfl):PI X (.Tuple elts k pt) (.Call (.Name "zip" p) [e,e2] [] pos) (Zv ta):=by
 intro pins s Z H R I h;refine Call_ (Er I hg hm NP.dm (Zyb (thn (ha pos pins s Z H _ I h) λus s1 ⟨vs,H1,I1,r1,q1⟩=>?_) (C1 (Bd hn).1) (D3 (Bd hn).2)));obtain⟨a,b,xs,ys,e,ha,hb,q⟩:=q1;subst e;obtain⟨u,u',rfl,ru,ru'⟩:=R5 r1;cases ru;cases ru';obtain⟨its,rv,hl,hal⟩:=Av I1 ha;obtain⟨its2,rv2,hl2,hal2⟩:=Av I1 hb;refine call_zip_2 hl hl2 λh' g1 g2 g3 g4 g5 hz hk=>wpAny_pyIter_zip g1 ?_;have I2:Inv X pins Z H1 {s1 with heap:=h'}:=I1.kept (t':=s1.toks) hk;have nd:[s1.heap.objs.size+4,s1.heap.objs.size+2,s1.heap.objs.size+3,s1.heap.objs.size,s1.heap.objs.size+1].Nodup:=by
  simp only[Zyj,Zzs,Zzk,or_false,not_or,Zwy,and_true,not_false_eq_true];refine⟨⟨?_,?_,?_,?_⟩,⟨?_,?_,?_⟩,⟨?_,?_⟩,?_⟩<;>(intro z;have z':(_:Nat)=_:=z;lia)
 refine⟨s1.heap.objs.size+4,[s1.heap.objs.size+4,s1.heap.objs.size+2,s1.heap.objs.size+3,s1.heap.objs.size,s1.heap.objs.size+1],_,_,H1,rfl,I2,jd _ _ _ _ _ a b xs ys nd,⟨g1,g2,⟨_,_,g3⟩,g4,g5⟩,λc hc=>?_,q⟩;have hb':s1.heap.objs.size<=c:=by
  simp only[Zzs,Zzk,or_false] at hc;rcases hc with q | q | q | q | q<;>rw[q]<;>first | exact Zuw _ _ | exact Zzq _
 exact I1.fpOk hb' (I1.hok.fresh hb')
abbrev Dp(h:Heap)(T:Addr)(a b c:Value):Prop:=h.get? T=some {cls:=.type "tuple",data:=.seq #[a,b,c]}
theorem Mi{T:Addr}{a b c x:Value}{k:Nat}{Q:Unit->Shared->Prop}(hT:Dp s.heap T a b c)
  (h:∀h',h'.get? T=some {cls:=.type "tuple",data:=.seq ((#[a,b,c]:Array Value).setIfInBounds k x)}->Zy7 T s.heap h'->Q () {s with heap:=h'}) :
  wpAny (model prog w) A (updateSeq T (·.setIfInBounds k x)) Q E s:=wpAny_updateSeq hT rfl (h _ (by rw[Zwz _ hT rfl];simp[Obj.mapSeq]) (Zud ..))
structure Y5(z TI TO i1 i2 i3:Addr)(ls:List Addr):Prop where
 nd:[z,TI,TO,i1,i2,i3].Nodup
 ls:∀l∈ls,l∉[z,TI,TO,i1,i2,i3]
theorem j6{z TI TO i1 i2 i3 l1 l2 l3:Addr}{k:Nat}{xs ys zs:Array Value}{x y v a b c:Value}(D:Y5 z TI TO i1 i2 i3 [l1,l2,l3])
  (hZ:IsZip s.heap z TI TO .none) (hI:Dp s.heap TI (.ref i1) (.ref i2) (.ref i3)) (hO:Dp s.heap TO a b c)
  (g1:s.heap.IsListIter i1 l1 k) (g2:s.heap.IsListIter i2 l2 k) (g3:s.heap.IsListIter i3 l3 k) (m1:s.heap.IsList l1 xs) (m2:s.heap.IsList l2 ys) (m3:s.heap.IsList l3 zs) (e1:xs[k]?=some x) (e2:ys[k]?=some y) (e3:zs[k]?=some v)
  (hQ:∀h',IsZip h' z TI TO (rawInt s.heap.objs.size)->Dp h' TO x y v->h'.IsListIter i1 l1 (k+1)->h'.IsListIter i2 l2 (k+1)->h'.IsListIter i3 l3 (k+1)->Dp h' s.heap.objs.size x y v->h'.objs.size=s.heap.objs.size+1 ->
   (∀c o,c∉[z,TO,i1,i2,i3]->s.heap.get? c=some o->h'.get? c=some o)->Q (.ref s.heap.objs.size) {s with heap:=h'}) :
  wpAny (model prog w) A (Builtin.«zip.__next__» ⟨[.ref z],[]⟩) (λfin s'=>∃v,fin=.done (.ret v)/\Q v s') E s:=by
 obtain⟨nd,ls⟩:=D;have a1:=ls l1 (by simp);have a2:=ls l2 (by simp);have a3:=ls l3 (by simp);simp only[Zyj,Zzs,Zzk,or_false,not_or] at nd a1 a2 a3;obtain⟨⟨zI,zO,z1,z2,z3⟩,⟨IO,I1,I2,I3⟩,⟨O1,O2,O3⟩,⟨n12,n13⟩,n23,_⟩:=nd;obtain⟨a1z,a1I,a1O,a11,a12,a13⟩:=a1;obtain⟨a2z,a2I,a2O,a21,a22,a23⟩:=a2;obtain⟨a3z,a3I,a3O,a31,a32,a33⟩:=a3;show wpAny _ _ (field (.ref z) 2 >>= _) _ _ _;refine GA (wpAny_field hZ rfl (x:=.bool false) rfl (show wpAny _ _ (field (.ref z) 3 >>= _) _ _ _ from ?_));refine GA (wpAny_field hZ rfl (x:=.ref TI) rfl (GA (wpAny_seqItems hI rfl ?_)));refine GA (m:=Zyd (.ref z)) ?_;unfold Zyd;refine GA (wpAny_field hZ rfl (x:=.none) rfl (GB ?_));simp only[if_true];refine GA (wpAny_rule (GA (wpAny_field hZ rfl (x:=.ref TO) rfl (GA (wpAny_setField_rec hZ (by simp) λh₁ w₁ s₁=>?_)))));replace w₁:IsZip h₁ z TI TO .ellipsis:=w₁;have K1:∀c o,c≠z->s.heap.get? c=some o->h₁.get? c=some o:=λc o n e=>s₁.extBut c o n e;refine GA ?_;simp only[Zuv,Zum,Zvz,Zu9];refine GA (GA (wpAny_onRaise (show wpAny _ _ (Zyq (.ref i1) >>= _) _ _ _ from ?_)));refine GA (wpAny_nextOf_list_item (g1.at λo e=>K1 _ o (Zzi z1) e) (m1.at λo e=>K1 _ o a1z e) e1 λh₂ q₂ s₂=>GB ?_);replace s₂:Zy7 i1 h₁ h₂:=s₂;have K2:∀c o,c≠z->c≠i1->s.heap.get? c=some o->h₂.get? c=some o:=λc o n n' e=>s₂.extBut c o n' (K1 c o n e);have O₂:Dp h₂ TO a b c:=K2 _ _ (Zzi zO) O1 hO;refine GA (wpAny_seqItems O₂ rfl (GA (Mi O₂ λh₃ O₃ s₃=>GA (wpAny_letGo (GB ?_)))));replace O₃:Dp h₃ TO x b c:=O₃;replace s₃:Zy7 TO h₂ h₃:=s₃;have K3:∀c o,c≠z->c≠i1->c≠TO->s.heap.get? c=some o->h₃.get? c=some o:=λc o n n' n2 e=>s₃.extBut c o n2 (K2 c o n n' e);refine GA (GA (wpAny_onRaise (show wpAny _ _ (Zyq (.ref i2) >>= _) _ _ _ from ?_)));refine GA (wpAny_nextOf_list_item (g2.at λo e=>K3 _ o (Zzi z2) (Zzi n12) (Zzi O2) e) (m2.at λo e=>K3 _ o a2z a21 a2O e) e2 λh₄ q₄ s₄=>GB ?_);replace s₄:Zy7 i2 h₃ h₄:=s₄;have O₄:Dp h₄ TO x b c:=s₄.extBut _ _ O2 O₃;refine GA (wpAny_seqItems O₄ rfl (GA (Mi O₄ λh₅ O₅ s₅=>GA (wpAny_letGo (GB ?_)))));replace O₅:Dp h₅ TO x y c:=O₅;replace s₅:Zy7 TO h₄ h₅:=s₅;have K5:∀c o,c≠z->c≠i1->c≠TO->c≠i2->s.heap.get? c=some o->h₅.get? c=some o:=λc o n n' n2 n3 e=>s₅.extBut c o n2 (s₄.extBut c o n3 (K3 c o n n' n2 e));refine GA (GA (wpAny_onRaise (show wpAny _ _ (Zyq (.ref i3) >>= _) _ _ _ from ?_)));refine GA (wpAny_nextOf_list_item (g3.at λo e=>K5 _ o (Zzi z3) (Zzi n13) (Zzi O3) (Zzi n23) e) (m3.at λo e=>K5 _ o a3z a31 a3O a32 e) e3 λh₆ q₆ s₆=>GB ?_);replace s₆:Zy7 i3 h₅ h₆:=s₆;have O₆:Dp h₆ TO x y c:=s₆.extBut _ _ O3 O₅;refine GA (wpAny_seqItems O₆ rfl (GA (Mi O₆ λh₇ O₇ s₇=>GA (wpAny_letGo (GB (GB ?_))))));replace O₇:Dp h₇ TO x y v:=O₇;replace s₇:Zy7 TO h₆ h₇:=s₇;have K7:∀c o,c∉[z,TO,i1,i2,i3]->s.heap.get? c=some o->h₇.get? c=some o:=λc o n e=>by
  simp only[Zzs,Zzk,or_false,not_or] at n;exact s₇.extBut c o n.2.1 (s₆.extBut c o n.2.2.2.2 (K5 c o n.1 n.2.2.1 n.2.1 n.2.2.2.1 e))
 refine GA (wpAny_seqItems O₇ rfl (GA (wpAny_newTuple ?_)));have sz:h₇.objs.size=s.heap.objs.size:=by rw[s₇.1,s₆.1,s₅.1,s₄.1,s₃.1,s₂.1,s₁.1]
 have Z₇:IsZip h₇ z TI TO .ellipsis:=s₇.extBut _ _ zO (s₆.extBut _ _ z3 (s₅.extBut _ _ zO (s₄.extBut _ _ z2 (s₃.extBut _ _ zO (s₂.extBut _ _ z1 w₁)))));have r1:h₇.IsListIter i1 l1 (k+1):=((((q₂.extBut s₃.extBut (Zzi O1)).extBut s₄.extBut n12).extBut s₅.extBut (Zzi O1)).extBut s₆.extBut n13).extBut s₇.extBut (Zzi O1);have r2:h₇.IsListIter i2 l2 (k+1):=((q₄.extBut s₅.extBut (Zzi O2)).extBut s₆.extBut n23).extBut s₇.extBut (Zzi O2);have r3:h₇.IsListIter i3 l3 (k+1):=q₆.extBut s₇.extBut (Zzi O3);have zl:z<h₇.objs.size:=Zzg Z₇;refine GA (m:=Zxc (.ref z) (.ref h₇.objs.size)) ?_;unfold Zxc;have Z₈:IsZip (h₇.push {cls:=.type "tuple",data:=.seq #[x,y,v]}) z TI TO .ellipsis:=Zzx _ Z₇;refine GA (wpAny_setField_rec Z₈ (by simp) λh₈ w₈ s₈=>?_);replace w₈:IsZip h₈ z TI TO (rawInt h₇.objs.size):=w₈;refine wpAny_setField_rec w₈ (by simp) λh₉ w₉ s₉=>?_;replace w₉:IsZip h₉ z TI TO (rawInt h₇.objs.size):=w₉;have K9:∀c o,c≠z->h₇.get? c=some o->h₉.get? c=some o:=λc o n e=>s₉.extBut _ _ n (s₈.extBut _ _ n (Zzx _ e));have T₉:Dp h₉ h₇.objs.size x y v:=s₉.extBut _ _ (Zxt zl) (s₈.extBut _ _ (Zxt zl) (Zzj _ rfl));have sz9:h₉.objs.size=h₇.objs.size+1:=by rw[s₉.1,s₈.1,Zye]
 rw[sz] at w₉ T₉ sz9;refine GB ⟨_,rfl,(show Q (.ref h₇.objs.size) _ from ?_)⟩;rw[sz];refine hQ h₉ w₉ (K9 _ _ (Zzi zO) O₇) (r1.at λo e=>K9 _ o (Zzi z1) e) (r2.at λo e=>K9 _ o (Zzi z2) e) (r3.at λo e=>K9 _ o (Zzi z3) e) T₉ sz9 λc o n e=>K9 c o (λq=>n (by simp[q])) (K7 c o n e)
theorem mr{z TI TO i1 i2 i3 l1 l2 l3:Addr}{k:Nat}{xs ys zs:Array Value}{a b c:Value}{Q:Fin->Shared->Prop}(hh:A.handled=none)(D:Y5 z TI TO i1 i2 i3 [l1,l2,l3])
  (hZ:IsZip s.heap z TI TO .none) (hI:Dp s.heap TI (.ref i1) (.ref i2) (.ref i3)) (hO:Dp s.heap TO a b c)
  (g1:s.heap.IsListIter i1 l1 k) (g2:s.heap.IsListIter i2 l2 k) (g3:s.heap.IsListIter i3 l3 k) (m1:s.heap.IsList l1 xs) (m2:s.heap.IsList l2 ys) (m3:s.heap.IsList l3 zs) (he:xs[k]?=none\/ys[k]?=none\/zs[k]?=none)
  (hE:∀h' e,(∀c o,c∉[z,TO,i1,i2,i3]->s.heap.get? c=some o->h'.get? c=some o)->(∃o,h'.get? e=some o/\o.cls=.type "StopIteration")->E (.ref e) {s with heap:=h'}) :
  wpAny (model prog w) A (Builtin.«zip.__next__» ⟨[.ref z],[]⟩) Q E s:=by
 obtain⟨nd,ls⟩:=D;have a1:=ls l1 (by simp);have a2:=ls l2 (by simp);have a3:=ls l3 (by simp);simp only[Zyj,Zzs,Zzk,or_false,not_or] at nd a1 a2 a3;obtain⟨⟨zI,zO,z1,z2,z3⟩,⟨IO,I1,I2,I3⟩,⟨O1,O2,O3⟩,⟨n12,n13⟩,n23,_⟩:=nd;obtain⟨a1z,a1I,a1O,a11,a12,a13⟩:=a1;obtain⟨a2z,a2I,a2O,a21,a22,a23⟩:=a2;obtain⟨a3z,a3I,a3O,a31,a32,a33⟩:=a3;show wpAny _ _ (field (.ref z) 2 >>= _) _ _ _;refine GA (wpAny_field hZ rfl (x:=.bool false) rfl (show wpAny _ _ (field (.ref z) 3 >>= _) _ _ _ from ?_));refine GA (wpAny_field hZ rfl (x:=.ref TI) rfl (GA (wpAny_seqItems hI rfl ?_)));refine GA (m:=Zyd (.ref z)) ?_;unfold Zyd;refine GA (wpAny_field hZ rfl (x:=.none) rfl (GB ?_));simp only[if_true];refine GA (wpAny_rule (GA (wpAny_field hZ rfl (x:=.ref TO) rfl (GA (wpAny_setField_rec hZ (by simp) λh₁ w₁ s₁=>?_)))));replace w₁:IsZip h₁ z TI TO .ellipsis:=w₁;have K1:∀c o,c≠z->s.heap.get? c=some o->h₁.get? c=some o:=λc o n e=>s₁.extBut c o n e;refine GA ?_;simp only[Zuv,Zum,Zvz,Zu9];have fin:∀{h:Heap} {e:Addr} {Q':Unit->Shared->Prop},IsZip h z TI TO .ellipsis->(∃o,h.get? e=some o/\o.cls=.type "StopIteration")->(∀c o,c∉[z,TO,i1,i2,i3]->s.heap.get? c=some o->h.get? c=some o) ->
   wpAny (model prog w) A (setField (.ref z) 0 .none) (λ_ s'=>E (.ref e) s') E {s with heap:=h}:=λ{h e Q'} w ⟨o,ho,hc⟩ kk=>by
  have ne:e≠z:=λq=>by subst q;rw[w] at ho;cases ho;simp at hc
  refine wpAny_setField_rec w (by simp) λh' _ s'=>hE h' e (λc o n q=>s'.extBut _ _ (λq=>n (by simp[q])) (kk c o n q)) ⟨o,s'.extBut _ _ ne ho,hc⟩
 refine GA (GA (wpAny_onRaise (show wpAny _ _ (Zyq (.ref i1) >>= _) _ _ _ from ?_)));cases e1:xs[k]? with
 |none =>
  refine GA (wpAny_nextOf_list_end hh (g1.at λo e=>K1 _ o (Zzi z1) e) (m1.at λo e=>K1 _ o a1z e) e1 λh₂ e s₂ he=>?_);replace s₂:Heap.ExtBut i1 h₁ h₂:=s₂;refine fin (Q':=λ_ _=>True) (s₂ _ _ z1 w₁) he λc o n q=>?_;simp only[Zzs,Zzk,or_false,not_or] at n;exact s₂ _ _ n.2.2.1 (K1 _ _ n.1 q)
 |some x =>
 refine GA (wpAny_nextOf_list_item (g1.at λo e=>K1 _ o (Zzi z1) e) (m1.at λo e=>K1 _ o a1z e) e1 λh₂ q₂ s₂=>GB ?_);replace s₂:Zy7 i1 h₁ h₂:=s₂;have K2:∀c o,c≠z->c≠i1->s.heap.get? c=some o->h₂.get? c=some o:=λc o n n' e=>s₂.extBut c o n' (K1 c o n e);have O₂:Dp h₂ TO a b c:=K2 _ _ (Zzi zO) O1 hO;refine GA (wpAny_seqItems O₂ rfl (GA (Mi O₂ λh₃ O₃ s₃=>GA (wpAny_letGo (GB ?_)))));replace O₃:Dp h₃ TO x b c:=O₃;replace s₃:Zy7 TO h₂ h₃:=s₃;have K3:∀c o,c≠z->c≠i1->c≠TO->s.heap.get? c=some o->h₃.get? c=some o:=λc o n n' n2 e=>s₃.extBut c o n2 (K2 c o n n' e);have Z₃:IsZip h₃ z TI TO .ellipsis:=s₃.extBut _ _ zO (s₂.extBut _ _ z1 w₁);refine GA (GA (wpAny_onRaise (show wpAny _ _ (Zyq (.ref i2) >>= _) _ _ _ from ?_)));cases e2:ys[k]? with
 |none =>
  refine GA (wpAny_nextOf_list_end hh (g2.at λo e=>K3 _ o (Zzi z2) (Zzi n12) (Zzi O2) e) (m2.at λo e=>K3 _ o a2z a21 a2O e) e2 λh₄ e s₄ he=>?_);replace s₄:Heap.ExtBut i2 h₃ h₄:=s₄;refine fin (Q':=λ_ _=>True) (s₄ _ _ z2 Z₃) he λc o n q=>?_;simp only[Zzs,Zzk,or_false,not_or] at n;exact s₄ _ _ n.2.2.2.1 (K3 _ _ n.1 n.2.2.1 n.2.1 q)
 |some y =>
 refine GA (wpAny_nextOf_list_item (g2.at λo e=>K3 _ o (Zzi z2) (Zzi n12) (Zzi O2) e) (m2.at λo e=>K3 _ o a2z a21 a2O e) e2 λh₄ q₄ s₄=>GB ?_);replace s₄:Zy7 i2 h₃ h₄:=s₄;have O₄:Dp h₄ TO x b c:=s₄.extBut _ _ O2 O₃;refine GA (wpAny_seqItems O₄ rfl (GA (Mi O₄ λh₅ O₅ s₅=>GA (wpAny_letGo (GB ?_)))));replace s₅:Zy7 TO h₄ h₅:=s₅;have K5:∀c o,c≠z->c≠i1->c≠TO->c≠i2->s.heap.get? c=some o->h₅.get? c=some o:=λc o n n' n2 n3 e=>s₅.extBut c o n2 (s₄.extBut c o n3 (K3 c o n n' n2 e));have Z₅:IsZip h₅ z TI TO .ellipsis:=s₅.extBut _ _ zO (s₄.extBut _ _ z2 Z₃);refine GA (GA (wpAny_onRaise (show wpAny _ _ (Zyq (.ref i3) >>= _) _ _ _ from ?_)));have e3:zs[k]?=none:=by
  rcases he with h | h | h
  ·rw[e1] at h;cases h
  ·rw[e2] at h;cases h
  ·exact h
 refine GA (wpAny_nextOf_list_end hh (g3.at λo e=>K5 _ o (Zzi z3) (Zzi n13) (Zzi O3) (Zzi n23) e) (m3.at λo e=>K5 _ o a3z a31 a3O a32 e) e3 λh₆ e s₆ he=>?_);replace s₆:Heap.ExtBut i3 h₅ h₆:=s₆;refine fin (Q':=λ_ _=>True) (s₆ _ _ z3 Z₅) he λc o n q=>?_;simp only[Zzs,Zzk,or_false,not_or] at n;exact s₆ _ _ n.2.2.2.2 (K5 _ _ n.1 n.2.2.1 n.2.1 n.2.2.2.1 q)
theorem az(a b c:Value):checkTypeCall "zip" ⟨[a,b,c],[]⟩=pure ():=by kernel_rfl
theorem cj(a b c:Value):checkBuiltinCall "zip.__new__" ⟨[.type "zip",a,b,c],[]⟩=pure ():=by kernel_rfl
theorem l7(a b c d:Value):argsOk "object.__init__" ⟨[a,b,c,d],[]⟩:=by
 unfold argsOk;rw[signature?_of (id := "object.__init__") (n:=['_','_','t','i','n','i','_','_']) (o:=['t','c','e','j','b','o']) (by kernel_rfl) F.owner_object];kernel_rfl
abbrev z3a(h:Heap)(l:Addr):Heap:=h.push {cls:=.type "list_iterator",data:=.fields #[.ref l,.int 0 0]}
abbrev z3t(h:Heap)(x y z:Value):Heap:=h.push {cls:=.type "tuple",data:=.seq #[x,y,z]}
abbrev z3i(h:Heap)(l1 l2 l3:Addr):Heap:=z3t (z3a (z3a (z3a h l1) l2) l3) (.ref h.objs.size) (.ref (z3a h l1).objs.size) (.ref (z3a (z3a h l1) l2).objs.size)
abbrev z3o(h:Heap)(l1 l2 l3:Addr):Heap:=z3t (z3i h l1 l2 l3) .none .none .none
abbrev z3z(h:Heap)(l1 l2 l3:Addr):Heap:=(z3o h l1 l2 l3).push {cls:=.type "zip",data:=.fields #[.none,.bool false,.bool false,.ref (z3a (z3a (z3a h l1) l2) l3).objs.size,.ref (z3i h l1 l2 l3).objs.size]}
theorem sg(l1 l2 l3:Addr)(xs ys zs:Array Value) :
  Meets (Builtin.«zip.__new__» ⟨[.type "zip",.ref l1,.ref l2,.ref l3],[]⟩) (λ_ R s=>s.heap.IsList l1 xs/\s.heap.IsList l2 ys/\s.heap.IsList l3 zs/\R (.ok (.ret (.ref (z3o s.heap l1 l2 l3).objs.size))) {s with heap:=z3z s.heap l1 l2 l3}) :=
 .of_wp λprog w A R s h=>by
  obtain⟨hp,g,d,tk,os⟩:=s;obtain⟨m1,m2,m3,h⟩:=h;have hsub:=sub_zip;have q1:Heap.IsList (Shared.heap ⟨hp,g,d,tk,os⟩) l1 xs:=m1;have q2:Heap.IsList (Shared.heap ⟨z3a hp l1,g,d,tk,os⟩) l2 ys:=m2.push _;have q3:Heap.IsList (Shared.heap ⟨z3a (z3a hp l1) l2,g,d,tk,os⟩) l3 zs:=(m3.push _).push _;wp_walk using wpAny_pyIter_list q1,wpAny_pyIter_list q2,wpAny_pyIter_list q3;exact⟨_,rfl,h⟩
theorem lw{l1 l2 l3:Addr}{xs ys zs:Array Value}(m1:s.heap.IsList l1 xs)(m2:s.heap.IsList l2 ys)(m3:s.heap.IsList l3 zs)
  (h:∀h' n,n=s.heap.objs.size->IsZip h' (n+5) (n+3) (n+4) .none->Dp h' (n+3) (.ref n) (.ref (n+1)) (.ref (n+2))->Dp h' (n+4) .none .none .none->h'.IsListIter n l1 0->h'.IsListIter (n+1) l2 0->h'.IsListIter (n+2) l3 0 ->
   (∀c o,s.heap.get? c=some o->h'.get? c=some o)->Q (.ref (n+5)) {s with heap:=h'}) :
  wpAny (model prog w) A (call (.type "zip") [.ref l1,.ref l2,.ref l3]) Q E s:=by
 refine callType_new F.called_zip (by decide) (az _ _ _) (cj _ _ _) (λobj=>l7 obj _ _ _) F.entry_zip_new (sg l1 l2 l3 xs ys zs) ⟨m1,m2,m3,?_⟩;have y1:(z3a s.heap l1).objs.size=s.heap.objs.size+1:=Zye ..;have y2:(z3a (z3a s.heap l1) l2).objs.size=s.heap.objs.size+2:=by rw[Zye,y1]
 have y3:(z3a (z3a (z3a s.heap l1) l2) l3).objs.size=s.heap.objs.size+3:=by rw[Zye,y2]
 have y4:(z3i s.heap l1 l2 l3).objs.size=s.heap.objs.size+4:=by rw[Zye,y3]
 have y5:(z3o s.heap l1 l2 l3).objs.size=s.heap.objs.size+5:=by rw[Zye,y4]
 have k5:(z3z s.heap l1 l2 l3).get? (z3o s.heap l1 l2 l3).objs.size=some _:=Zzj _ rfl;have k4:(z3z s.heap l1 l2 l3).get? (z3i s.heap l1 l2 l3).objs.size=some _:=Zzx _ (Zzj _ rfl);have k3:(z3z s.heap l1 l2 l3).get? (z3a (z3a (z3a s.heap l1) l2) l3).objs.size=some _:=Zzx _ (Zzx _ (Zzj _ rfl));have k2:(z3z s.heap l1 l2 l3).get? (z3a (z3a s.heap l1) l2).objs.size=some _:=Zzx _ (Zzx _ (Zzx _ (Zzj _ rfl)));have k1:(z3z s.heap l1 l2 l3).get? (z3a s.heap l1).objs.size=some _:=Zzx _ (Zzx _ (Zzx _ (Zzx _ (Zzj _ rfl))));have k0:(z3z s.heap l1 l2 l3).get? s.heap.objs.size=some _:=Zzx _ (Zzx _ (Zzx _ (Zzx _ (Zzx _ (Zzj _ rfl)))));show _/\_;rw[y5,y3,y4] at k5;rw[y4] at k4;rw[y3,y1,y2] at k3;rw[y2] at k2;rw[y1] at k1;rw[y5];exact⟨⟨_,k5,rfl⟩,h _ _ rfl k5 k3 k4 ⟨_,k0,rfl,rfl⟩ ⟨_,k1,rfl,rfl⟩ ⟨_,k2,rfl,rfl⟩ λc o e =>
  Zzx _ (Zzx _ (Zzx _ (Zzx _ (Zzx _ (Zzx _ e)))))⟩
theorem Qy(hh:A.handled=none)(z TI TO i1 i2 i3 l1 l2 l3:Addr)(D:Y5 z TI TO i1 i2 i3 [l1,l2,l3])(xs ys zs:Array Value) :
  WalksT prog w A z [z,TI,TO,i1,i2,i3,l1,l2,l3] [z,TO,i1,i2,i3] (min xs.size (min ys.size zs.size))
   (λi vals=>∃x y v,xs[i]?=some x/\ys[i]?=some y/\zs[i]?=some v/\vals=#[x,y,v])
   (λi h=>IsZip h z TI TO .none/\Dp h TI (.ref i1) (.ref i2) (.ref i3)/\(∃a b c,Dp h TO a b c)/\h.IsListIter i1 l1 i/\h.IsListIter i2 l2 i/\h.IsListIter i3 l3 i/\h.IsList l1 xs/\h.IsList l2 ys/\h.IsList l3 zs)
   (λi T h=>(IsZip h z TI TO (rawInt T)/\Dp h TI (.ref i1) (.ref i2) (.ref i3)/\(∃a b c,Dp h TO a b c)/\h.IsListIter i1 l1 (i+1)/\h.IsListIter i2 l2 (i+1)/\h.IsListIter i3 l3 (i+1)/\h.IsList l1 xs/\h.IsList l2 ys/\h.IsList l3 zs)/\T∉[z,TO,i1,i2,i3]):=by
 have hTI:TI∉[z,TO,i1,i2,i3]:=by
  have nd:=D.nd;simp only[Zyj,Zzs,Zzk,or_false,not_or] at nd ⊢;exact⟨λe=>nd.1.1 e.symm,nd.2.1⟩
 have hls:∀l∈[l1,l2,l3],l∉[z,TO,i1,i2,i3]:=λl hl hm=>D.ls l hl (by
  simp only[Zzs,Zzk,or_false] at hm ⊢
  rcases hm with e | e | e | e | e<;>simp[e])
 have nz:∀c∈[TI,TO,i1,i2,i3],c≠z:=λc hc e=>by
  have nd:=D.nd;rw[Zyj] at nd;exact nd.1 (e▸hc)
 have nzl:∀c∈[l1,l2,l3],c≠z:=λc hc e=>hls c hc (by simp[e]);refine⟨λb hb=>?_,λi h h' st kp=>?_,λi s Q E hi st hQ=>?_,λelts k pos i T s Q E hm hQ=>?_,λi T h hm=>hm.2,λs Q E st hQ=>?_,λi s Q E st hQ=>wpAny_pyIter_zip st.1 hQ⟩
 ·simp only[Zzs,Zzk,or_false] at hb ⊢;rcases hb with e | e | e | e | e<;>simp[e]
 ·obtain⟨p1,p2,⟨a,b,c,p3⟩,p4,p5,p6,p7,p8,p9⟩:=st;exact⟨kp z (by simp) _ p1,kp TI (by simp) _ p2,⟨a,b,c,kp TO (by simp) _ p3⟩,p4.at λo e=>kp i1 (by simp) o e,p5.at λo e=>kp i2 (by simp) o e,p6.at λo e=>kp i3 (by simp) o e,
   p7.at λo e=>kp l1 (by simp) o e,p8.at λo e=>kp l2 (by simp) o e,p9.at λo e=>kp l3 (by simp) o e⟩
 ·obtain⟨p1,p2,⟨a,b,c,p3⟩,p4,p5,p6,p7,p8,p9⟩:=st;have b1:i<xs.size:=by lia
  have b2:i<ys.size:=by lia
  have b3:i<zs.size:=by lia
  have hT:s.TypeIs (.ref z) "zip" := ⟨_,p1,rfl⟩;unfold pyNext;refine GA (wpAny_attempt (wpAny_callSpecial?_slot (name:=Str.ofString "__next__") hT F.slot_zip_next (wpAny_call_entry F.slot_zip_next hT F.entry_zip_next
   (j6 D p1 p2 p3 p4 p5 p6 p7 p8 p9 (Zyc b1) (Zyc b2) (Zyc b3) λh' r1 r2 r3 r4 r5 r6 r7 r8=>GB ?_) (F.args_zip_next_1 _))))
  have lt:∀{c o},s.heap.get? c=some o->s.heap.objs.size≠c:=λe=>Zxt (Zzg e);refine hQ s.heap.objs.size #[xs[i],ys[i],zs[i]] h' s.toks ⟨_,_,_,Zyc b1,Zyc b2,Zyc b3,rfl⟩ (Zzq _) ⟨_,r6,rfl,_,rfl⟩
   ⟨⟨r1,r8 _ _ hTI p2,⟨_,_,_,r2⟩,r3,r4,r5,p7.at λo e=>r8 _ o (hls l1 (by simp)) e,p8.at λo e=>r8 _ o (hls l2 (by simp)) e,p9.at λo e=>r8 _ o (hls l3 (by simp)) e⟩,λhm=>?_⟩ r8
  simp only[Zzs,Zzk,or_false] at hm;obtain⟨o4,q4,_⟩:=p4;obtain⟨o5,q5,_⟩:=p5;obtain⟨o6,q6,_⟩:=p6;rcases hm with e | e | e | e | e
  ·exact lt p1 e
  ·exact lt p3 e
  ·exact lt q4 e
  ·exact lt q5 e
  ·exact lt q6 e
 ·obtain⟨⟨p1,p2,⟨a,b,c,p3⟩,p4,p5,p6,p7,p8,p9⟩,_⟩:=hm;refine wpAny_letOwnedTupleGo_zip p1 λh' z' s'=>hQ h' ⟨z',s'.extBut _ _ (nz TI (by simp)) p2,⟨a,b,c,s'.extBut _ _ (nz TO (by simp)) p3⟩,p4.extBut s'.extBut (nz i1 (by simp)),p5.extBut s'.extBut (nz i2 (by simp)),p6.extBut s'.extBut (nz i3 (by simp)),
   p7.extBut s'.extBut (nzl l1 (by simp)),p8.extBut s'.extBut (nzl l2 (by simp)),p9.extBut s'.extBut (nzl l3 (by simp))⟩ λc o hc e=>s'.extBut _ _ (λq=>hc (by simp[q])) e
 ·obtain⟨p1,p2,⟨a,b,c,p3⟩,p4,p5,p6,p7,p8,p9⟩:=st;have hT:s.TypeIs (.ref z) "zip" := ⟨_,p1,rfl⟩;have fin:xs[min xs.size (min ys.size zs.size)]?=none\/ys[min xs.size (min ys.size zs.size)]?=none\/zs[min xs.size (min ys.size zs.size)]?=none:=by
   have:min xs.size (min ys.size zs.size)=xs.size\/min xs.size (min ys.size zs.size)=ys.size\/min xs.size (min ys.size zs.size)=zs.size:=by lia
   rcases this with e | e | e
   ·exact .inl (Zwp (Zwo e.symm))
   ·exact .inr (.inl (Zwp (Zwo e.symm)))
   ·exact .inr (.inr (Zwp (Zwo e.symm)))
  unfold pyNext;refine GA (wpAny_attempt (wpAny_callSpecial?_slot (name:=Str.ofString "__next__") hT F.slot_zip_next (wpAny_call_entry F.slot_zip_next hT F.entry_zip_next
   (mr hh D p1 p2 p3 p4 p5 p6 p7 p8 p9 fin λh' e kp ⟨o,ho,hc⟩=>?_) (F.args_zip_next_1 _))))
  exact GA (wpAny_isInstance (T := "StopIteration") (b:=true) ⟨o,ho,hc⟩ isSubtype_stop (GB (hQ _ s.toks kp)))
noncomputable def A1s(a b c:Addr)(xs ys zs:List V):It:=⟨λi H=>(H a=some (.lst xs)/\H b=some (.lst ys)/\H c=some (.lst zs))/\i<min xs.length (min ys.length zs.length),
 λi H x H'=>∃p y z v,x=.ref p/\H p=none/\xs[i]?=some y/\ys[i]?=some z/\zs[i]?=some v/\H'=upd H p (.tup [y,z,v]),λi H=>(H a=some (.lst xs)/\H b=some (.lst ys)/\H c=some (.lst zs))/\i=min xs.length (min ys.length zs.length)⟩
theorem A1e(a b c:Addr)(xs ys zs:List V):W3 (A1s a b c xs ys zs) (min xs.length (min ys.length zs.length)) (λi us=>∃y z v,xs[i]?=some y/\ys[i]?=some z/\zs[i]?=some v/\us=[y,z,v]) (λH=>H a=some (.lst xs)/\H b=some (.lst ys)/\H c=some (.lst zs)) :=
 ⟨λi H h o=>⟨o,h⟩,λi H x H' h o y=>by obtain⟨p,u,v,w,e1,e2,e3,e4,e5,e6⟩:=y;exact⟨p,_,e1,e2,e6,u,v,w,e3,e4,e5,rfl⟩,λH o=>⟨o,rfl⟩⟩
theorem jc{k:Nat}(z TI TO i1 i2 i3 a b c:Addr)(xs ys zs:List V)(nd:[z,TI,TO,i1,i2,i3].Nodup) :
  O5 P w K (.Tuple elts k pos) (A1s a b c xs ys zs) [z,TI,TO,i1,i2,i3] z (λi h=>IsZip h z TI TO .none/\Dp h TI (.ref i1) (.ref i2) (.ref i3)/\(∃u v t,Dp h TO u v t)/\h.IsListIter i1 a i/\h.IsListIter i2 b i/\h.IsListIter i3 c i):=by
 have objs:∀(i:Nat) (h:Heap),(IsZip h z TI TO .none/\Dp h TI (.ref i1) (.ref i2) (.ref i3)/\(∃u v t,Dp h TO u v t)/\h.IsListIter i1 a i/\h.IsListIter i2 b i/\h.IsListIter i3 c i)->∀d∈[z,TI,TO,i1,i2,i3],∃o,h.get? d=some o/\∀v,o.data≠.cell v:=by
  rintro i h ⟨hz,hT,⟨u,v,t,hO⟩,⟨o1,g1,c1,d1⟩,⟨o2,g2,c2,d2⟩,⟨o3,g3,c3,d3⟩⟩ d hd;simp only[Zzs,Zzk,or_false] at hd;rcases hd with q | q | q | q | q | q<;>subst q
  ·exact⟨_,hz,λ_ y=>by cases y⟩
  ·exact⟨_,hT,λ_ y=>by cases y⟩
  ·exact⟨_,hO,λ_ y=>by cases y⟩
  ·exact⟨o1,g1,λ_ y=>by rw[d1] at y;cases y⟩
  ·exact⟨o2,g2,λ_ y=>by rw[d2] at y;cases y⟩
  ·exact⟨o3,g3,λ_ y=>by rw[d3] at y;cases y⟩
 have apart:∀{X:Cx} {pins:List (Addr×Obj)} {H:Hp},(∀d∈[z,TI,TO,i1,i2,i3],Kf X pins H d)->∀{us vs ws:List V},H a=some (.lst us)->H b=some (.lst vs)->H c=some (.lst ws)->Y5 z TI TO i1 i2 i3 [a,b,c]:=by
  intro X pins H hf us vs ws ha hb hc;refine⟨nd,λl hl hm=>?_⟩;have hn:=(hf l hm).1;simp only[Zzs,Zzk,or_false] at hl;rcases hl with e | e | e<;>rw[e] at hn
  ·rw[hn] at ha;cases ha
  ·rw[hn] at hb;cases hb
  ·rw[hn] at hc;cases hc
 have sub:∀d∈[z,TO,i1,i2,i3],d∈[z,TI,TO,i1,i2,i3]:=λd hd=>by simp at hd ⊢;rcases hd with h | h | h | h | h<;>simp[h]
 refine⟨by simp,objs,?_,?_,?_,?_⟩
 ·rintro i h h' ⟨hz,hT,⟨u,v,t,hO⟩,g1,g2,g3⟩ kp;exact⟨kp z (by simp) _ hz,kp TI (by simp) _ hT,⟨u,v,t,kp TO (by simp) _ hO⟩,g1.at λo e=>kp i1 (by simp) o e,g2.at λo e=>kp i2 (by simp) o e,g3.at λo e=>kp i3 (by simp) o e⟩
 ·intro X hP hw hK hc i pins s Z H E I hf st hg;subst hP hw hK;obtain⟨⟨ha,hb,hd⟩,hlt⟩:=hg;obtain⟨its,rv,hl,_⟩:=Av I ha;obtain⟨its2,rv2,hl2,_⟩:=Av I hb;obtain⟨its3,rv3,hl3,_⟩:=Av I hd;have AE:=rv.length;have AR:=rv2.length;have AY:=rv3.length;obtain⟨s1,s2,s3,s4,s5,s6⟩:=id st;have hv:∀vals:Array Value,(∃x y v,its.toArray[i]?=some x/\its2.toArray[i]?=some y/\its3.toArray[i]?=some v/\vals=#[x,y,v])->∃us,AC us vals.toList/\us.length<=100/\∃y z v,xs[i]?=some y/\ys[i]?=some z/\zs[i]?=some v/\us=[y,z,v]:=by
   rintro vals ⟨x,y,v,hx,hy,hv,rfl⟩;have l1:i<xs.length:=by lia
   have l2:i<ys.length:=by lia
   have l3:i<zs.length:=by lia
   obtain⟨u,hu,ru⟩:=rv.get (x:=xs[i]) (i:=i) (by simp[l1]);obtain⟨u',hu',ru'⟩:=rv2.get (x:=ys[i]) (i:=i) (by simp[l2]);obtain⟨u'',hu'',ru''⟩:=rv3.get (x:=zs[i]) (i:=i) (by simp[l3]);have hx:its[i]?=some x:=by simpa using hx
   have hy:its2[i]?=some y:=by simpa using hy
   have hv:its3[i]?=some v:=by simpa using hv
   rw[hx] at hu;rw[hy] at hu';rw[hv] at hu'';cases hu;cases hu';cases hu'';exact⟨[xs[i],ys[i],zs[i]],.cons ru (.cons ru' (.cons ru'' .nil)),by simp,xs[i],ys[i],zs[i],by simp[l1],by simp[l2],by simp[l3],rfl⟩
  refine thn (Xm (E:=E) (Qy (I.ok.hd hc) z TI TO i1 i2 i3 a b c (apart hf ha hb hd) its.toArray its2.toArray its3.toArray) (by rw[Zzn,Zzn,Zzn];lia) I ⟨s1,s2,s3,s4,s5,s6,hl,hl2,hl3⟩ (λc hc=>hf c (sub c hc)) hv) λr t1 ⟨u,hr,h3⟩ =>
   ⟨u,hr,thn h3 λ_ t2 ⟨p,us,hu,hp,hn,I2,⟨y,y',y'',hy,hy',hy'',e2⟩,st2⟩=>?_⟩
  subst hu e2;refine⟨.ref p,_,I2,rfl,⟨p,y,y',y'',rfl,hn,hy,hy',hy'',rfl⟩,⟨st2.1,st2.2.1,st2.2.2.1,st2.2.2.2.1,st2.2.2.2.2.1,st2.2.2.2.2.2.1⟩,λc hc=>?_⟩;obtain⟨o,ho,_⟩:=objs i _ st c hc;rw[Ab (D4 (Zzg ho) hp)];exact(hf c hc).1
 ·intro X hP hw hK hc i pins s Z H E I hf st hg;subst hP hw hK;obtain⟨⟨ha,hb,hd⟩,hlt⟩:=hg;obtain⟨its,rv,hl,_⟩:=Av I ha;obtain⟨its2,rv2,hl2,_⟩:=Av I hb;obtain⟨its3,rv3,hl3,_⟩:=Av I hd;have AE:=rv.length;have AR:=rv2.length;have AY:=rv3.length;obtain⟨s1,s2,s3,s4,s5,s6⟩:=id st;have hi:min its.toArray.size (min its2.toArray.size its3.toArray.size)=i:=by rw[Zzn,Zzn,Zzn];lia
  refine(Qy (I.ok.hd hc) z TI TO i1 i2 i3 a b c (apart hf ha hb hd) its.toArray its2.toArray its3.toArray).done s _ E ?_ λh' tk hk=>⟨rfl,I.turnedL hk λc hc=>hf c (sub c hc)⟩;rw[hi];exact⟨s1,s2,s3,s4,s5,s6,hl,hl2,hl3⟩
 ·intro A i s Q E st h;exact wpAny_pyIter_zip st.1 h
def Zu(ta:TA):TI:=λZ H R=>ta Z H λvs H1=>∃a b c xs ys zs,vs=[.ref a,.ref b,.ref c]/\H1 a=some (.lst xs)/\H1 b=some (.lst ys)/\H1 c=some (.lst zs)/\R (A1s a b c xs ys zs) H1
theorem xw{k:Nat}{pt p:Pos}{e3:Expr}{ta:TA}(hg:Gl X "zip")(hm:X.mg "zip" = none)(ha:PA X [e,e2,e3] ta)(hn:Cm [e,e2,e3]=true:=by rfl):PI X (.Tuple elts k pt) (.Call (.Name "zip" p) [e,e2,e3] [] pos) (Zu ta):=by
 intro pins s Z H R I h;refine Call_ (Er I hg hm NP.dm (Zyb (thn (ha pos pins s Z H _ I h) λus s1 ⟨vs,H1,I1,r1,q1⟩=>?_) (C1 (Bd hn).1) (D3 (Bd hn).2)));obtain⟨a,b,c,xs,ys,zs,e,ha,hb,hc,q⟩:=q1;subst e;cases r1 with
 |cons ru r2 =>
 obtain⟨u',u'',rfl,ru',ru''⟩:=R5 r2;cases ru;cases ru';cases ru'';obtain⟨its,rv,hl,_⟩:=Av I1 ha;obtain⟨its2,rv2,hl2,_⟩:=Av I1 hb;obtain⟨its3,rv3,hl3,_⟩:=Av I1 hc;refine lw hl hl2 hl3 λh' n hn g1 g2 g3 g4 g5 g6 hk=>wpAny_pyIter_zip g1 ?_;have I2:Inv X pins Z H1 {s1 with heap:=h'}:=I1.kept (t':=s1.toks) hk;have nd:[n+5,n+3,n+4,n,n+1,n+2].Nodup:=by
  simp only[Zyj,Zzs,Zzk,or_false,not_or,Zwy,and_true,not_false_eq_true];refine⟨⟨?_,?_,?_,?_,?_⟩,⟨?_,?_,?_,?_⟩,⟨?_,?_,?_⟩,⟨?_,?_⟩,?_⟩<;>(intro z;have z':(_:Nat)=_:=z;lia)
 refine⟨n+5,[n+5,n+3,n+4,n,n+1,n+2],_,_,H1,rfl,I2,jc _ _ _ _ _ _ a b c xs ys zs nd,⟨g1,g2,⟨_,_,_,g3⟩,g4,g5,g6⟩,λd hd=>?_,q⟩;have hb':s1.heap.objs.size<=d:=by
  rw[<- hn];simp only[Zzs,Zzk,or_false] at hd;rcases hd with q | q | q | q | q | q<;>rw[q]<;>first | exact Zuw _ _ | exact Zzq _
 exact I1.fpOk hb' (I1.hok.fresh hb')
theorem A1k{t u:TS}{D:P4}(M:St->Hp->Prop)(hrest:∀Z' H',M Z' H'->u D Z' H')(h:∀KK:St->Hp->Prop,(∀Z' H',M Z' H'->KK Z' H')->t {D with nx:=KK} Z H):Rc t u D Z H:=h (u D) hrest
theorem zh{t t2 u:TS}{D:P4}(M:St->Hp->Prop)(hrest:∀Z' H',M Z' H'->u D Z' H')(h:∀KK:St->Hp->Prop,(∀Z' H',M Z' H'->KK Z' H')->t {D with nx:=λZ H=>t2 {D with nx:=KK} Z H} Z H):Rc t (Rc t2 u) D Z H:=h (u D) hrest
theorem cut3{t t2 t3 u:TS}{D:P4}(M:St->Hp->Prop)(hrest:∀Z' H',M Z' H'->u D Z' H')
  (h:∀KK:St->Hp->Prop,(∀Z' H',M Z' H'->KK Z' H')->t {D with nx:=λZ H=>t2 {D with nx:=λZ H=>t3 {D with nx:=KK} Z H} Z H} Z H):Rc t (Rc t2 (Rc t3 u)) D Z H:=h (u D) hrest
theorem Ds(h:H a=some (.lst xs)):Oa H (.ref a)=some "list" := by unfold Oa;simp only[h]
theorem A0i(h:H a=some (.tup xs)):Oa H (.ref a)=some "tuple" := by unfold Oa;simp only[h]
theorem gt2{x:V}{Q:St->Hp->Prop}(e:H p=some (.tup [x,y]))(h:Q ((Z.set i (some x)).set j (some y)) H):Zy K 2 (Ea (Cv i) (Ea (Cv j) CZ)) (.ref p) Z H Q :=
 ⟨p,_,rfl,SqT.of e,rfl,_,_,rfl,_,_,rfl,rfl,h⟩
theorem Inv.freeze(I:Inv X pins Z H s)(h:H a=some (.dK kvs)):∃o,s.heap.get? a=some o/\Inv X pins Z (upd H a (.frz o (.dK kvs))) s:=by
 obtain⟨hz,hS,vs,r,o,es,ep,ho,AU⟩:=I.hok a _ h;have ne:∀b u,H b=some u->u≠.dK kvs->b≠a:=λb u e n z=>by rw[z,h] at e;exact n (Zzh e).symm
 refine⟨o,ho,I.un (t':=s.toks) ⟨λb ob e n _ _=>e,λb ob e n _ _=>⟨ob.slots,e⟩,λb ob e n _=>?_,λb ob e _=>⟨ob,e⟩,λb xs e=>?_,λb ob u e=>?_,λb ps e=>⟨#[],?_⟩⟩ λb u e=>?_⟩
 ·rw[Ab (λz=>by rw[z,h] at n;cases n)];exact n
 ·rw[Ab (ne b _ e (λz=>by cases z))];exact e
 ·rw[Ab (ne b _ e (λz=>by cases z))];exact e
 ·rw[Ab (ne b _ e (λz=>by cases z)),e];simp
 ·by_cases hb:b=a
  ·subst hb;rw[A0] at e;cases e;exact⟨ho,hz,hS,vs,r,o,es,ep,ho,AU⟩
  ·rw[Ab hb] at e;refine(I.hok b u e).stay (λ_ _ _ q=>q) (λc q=>?_) λc ys q=>?_
   ·rw[Ab (ne c _ q (λz=>by cases z))];exact q
   ·rw[Ab (ne c _ q (λz=>by cases z))];exact q
noncomputable def ItD(a:Addr)(o:Obj)(kvs:List (Key×V)):It:=⟨λi H=>H a=some (.frz o (.dK kvs))/\i<kvs.length,λi H x H'=>H'=H/\∃k v,kvs[i]?=some (k,v)/\x=kV k,λi H=>H a=some (.frz o (.dK kvs))/\kvs.length<=i⟩
theorem A2i(a:Addr)(o:Obj)(kvs:List (Key×V)):Tl (ItD a o kvs) kvs.length (λi x=>∃k v,kvs[i]?=some (k,v)/\x=kV k) (λH=>H a=some (.frz o (.dK kvs))) :=
 ⟨λ_ _ h o=>⟨o,h⟩,λ_ _ _ _ _ _ y=>y,λ_ o=>⟨o,Zzq _⟩⟩
theorem uh{κ:Type}:∀{kvs:List (κ×V)} {vs:List (κ×Value)} {i:Nat} {k:κ} {v:V},KV kvs vs->kvs[i]?=some (k,v)->∃u,vs[i]?=some (k,u)
 |_,_,_,_,_,.nil,e=>by simp at e
 |_,(k',u')::_,0,k,v,.cons r _,e=>by
  simp at e;subst e;exact⟨u',by simp;exact r.1.symm⟩
 |_,_::_,i+1,k,v,.cons _ t,e=>by
  obtain⟨u,h⟩:=uh (i:=i) t (by simpa using e);exact⟨u,by simpa using h⟩
theorem A2c{k:Key}(h:(Bm P w).is k u=true):AD (kV k) u:=by
 rcases Cu h with ⟨i,t,rfl,rfl⟩ | ⟨x,t,rfl,rfl⟩
 ·exact⟨t,rfl⟩
 ·exact⟨t,rfl⟩
theorem jf(a it:Addr)(o:Obj)(kvs:List (Key×V))(es:Array DictEntry)(ep:Nat)(hd:o.data=.dict es ep) :
  O5 P w K tg (ItD a o kvs) [it] it (λi h=>h.IsKeyIter it a i kvs.length ep) where
 mem:=by simp
 obj:=λi h st b hb=>by
  have e:b=it:=by simpa using hb
  subst e;obtain⟨o,e,c,d⟩:=st;exact⟨o,e,λv z=>by rw[d] at z;cases z⟩
 keep:=λi h h' st k=>st.at λo e=>k it (by simp) o e;item:=by
  intro X hP hw hK hc i pins s Z H E I hf st hg;subst hP hw hK;obtain⟨hq,hlt⟩:=hg;obtain⟨ho,hz,hS,vs,rel,o',es',ep',ho',c',d',kk,pp,nn⟩:=I.hok a _ hq;rw[ho] at ho';cases ho';rw[hd] at d';cases d';have hm:s.heap.DictAt (Bm X.prog X.w) a vs ep:=⟨o,es,ho,c',hd,kk,pp,nn⟩;obtain⟨f0,f1,f2,f3,f4,f5⟩:=hf it (by simp);have hlen:kvs.length=vs.length:=rel.length;obtain⟨u,hu⟩:=uh (k:=kvs[i].1) (v:=kvs[i].2) (i:=i) rel (by simp[hlt]);have st':s.heap.IsKeyIter it a i vs.length ep:=by rw[<- hlen];exact st
  refine wpAny_pyNext_dict_item st' hm hu λkey h' hk hit sb=>?_;have I1:Inv X pins Z H {s with heap:=h'}:=I.turned (t':=s.toks) (λb o hb e=>(sb.2 b hb).trans e) f0 f1 f3 f4 f5;obtain⟨oi,ei,ci,di⟩:=id hit;refine⟨key,rfl,Vg (s:={s with heap:=h'}) ei ci di (by decide) ⟨kV kvs[i].1,H,I1,A2c hk,⟨rfl,kvs[i].1,kvs[i].2,by simp[hlt],rfl⟩,?_,λb hb=>(hf b hb).1⟩⟩;rw[hlen];exact hit
 done:=by
  intro X hP hw hK hc i pins s Z H E I hf st hg;subst hP hw hK;obtain⟨hq,hlt⟩:=hg;obtain⟨ho,hz,hS,vs,rel,o',es',ep',ho',c',d',kk,pp,nn⟩:=I.hok a _ hq;rw[ho] at ho';cases ho';rw[hd] at d';cases d';have hm:s.heap.DictAt (Bm X.prog X.w) a vs ep:=⟨o,es,ho,c',hd,kk,pp,nn⟩;obtain⟨f0,f1,f2,f3,f4,f5⟩:=hf it (by simp);have hlen:kvs.length=vs.length:=rel.length;have st':s.heap.IsKeyIter it a i vs.length ep:=by rw[<- hlen];exact st
  exact wpAny_pyNext_dict_end (I.ok.hd hc) st' hm (by simp;lia) λh' eb=>⟨rfl,I.turned (t':=s.toks) (λb o hb e=>eb b o hb e) f0 f1 f3 f4 f5⟩
 self:=λ_ _ _ _ _ st h=>wpAny_pyIter_keyiter st h
def ur(te:TE):TI:=λZ H R=>te Z H λx H1=>∃a kvs,x=.ref a/\H1 a=some (.dK kvs)/\∀o,R (ItD a o kvs) (upd H1 a (.frz o (.dK kvs)))
theorem A0u{l:Expr}(hl:PE X l te):PI X tg l (ur te):=by
 intro pins s Z H R I h;refine thn (hl pins s Z H _ I h) λv s1 z0=>?_;obtain⟨x,H1,I1,r1,q1⟩:=z0;obtain⟨a,kvs,e,ha,q⟩:=q1;subst e;cases r1;obtain⟨o,ho,I2⟩:=I1.freeze ha;obtain⟨hz,hS,vs,rel,o',es,ep,ho',c',d',kk,pp,nn⟩:=I1.hok a _ ha;rw[ho] at ho';cases ho';have hm:s1.heap.DictAt (Bm X.prog X.w) a vs ep:=⟨o,es,ho,c',d',kk,pp,nn⟩;have hlen:kvs.length=vs.length:=rel.length;refine wpAny_pyIter_dict hS hm ?_;refine⟨s1.heap.objs.size,[s1.heap.objs.size],_,_,_,rfl,I2.kept (t':=s1.toks) λb o e=>Zzx _ e,jf a _ o kvs es ep d',?_,λb hb=>?_,q o⟩
 ·rw[hlen];exact⟨_,Zzj _ rfl,rfl,rfl⟩
 ·have e:b=s1.heap.objs.size:=by simpa using hb
  subst e;exact I2.fpOk (Zzq _) (I2.hok.fresh (Zzq _))
def Ye(ta:TE):TT:=λZ H Q=>ta Z H λx H'=>∃a xs,x=.ref a/\H' a=some (.lst xs)/\Q (!xs.isEmpty) H'
def Yf(ta:TE):TT:=λZ H Q=>ta Z H λx H'=>∃a kvs,x=.ref a/\H' a=some (.dK kvs)/\Q (!kvs.isEmpty) H'
theorem ge{a:Expr}(ha:PE X a ta)(he:∀whole,isTrue a X.env whole=(do let v <- whole;standAt a.pos;holding [v] (truthy v)):=by intro _;rfl):PT X a (Ye ta):=by
 intro pins s Z H Q I h;refine isTrue_plain (thn (ha pins s Z H _ I h) λv s1 ⟨x,H1,I1,r1,q1⟩=>?_) (he _);obtain⟨a,xs,e,hx,q⟩:=q1;exact ni pins s1 Z H1 x v Q I1 r1 ⟨_,by subst e;exact .inl ⟨xs,SqL.of hx,rfl⟩,q⟩
theorem xr{a:Expr}(ha:PE X a ta)(he:∀whole,isTrue a X.env whole=(do let v <- whole;standAt a.pos;holding [v] (truthy v)):=by intro _;rfl):PT X a (Yf ta):=by
 intro pins s Z H Q I h;refine isTrue_plain (thn (ha pins s Z H _ I h) λv s1 ⟨x,H1,I1,r1,q1⟩=>?_) (he _);obtain⟨a,xs,e,hx,q⟩:=q1;exact ni pins s1 Z H1 x v Q I1 r1 ⟨_,by subst e;exact .inr (.inr ⟨xs,hx,rfl⟩),q⟩
mutual
def Ef:PyData->Bool
 |.none | .bool _ | .int _ | .str _=>true
 |.list _=>false
 |.tuple ds=>Dt ds
 |.dict _=>false
def Dt:List PyData->Bool
 |[]=>true
 |d::ds=>Ef d&&Dt ds
end
def AS(H H':Hp):Prop:=∀a xs,H a=some (.tup xs)->H' a=some (.tup xs)
theorem AS.trans{H1 H2:Hp}(a:AS H H1)(b:AS H1 H2):AS H H2:=λc xs h=>b c xs (a c xs h)
theorem AA.ku(s:AA H H'):AS H H':=λa xs h=>s a _ h
theorem A14(h:H p=none):AS H (upd H p o):=λa xs e=>by rw[Ab (A5 e h)];exact e
theorem Xk{u:HO}(h:H p=some u)(n:∀xs,u≠.tup xs):AS H (upd H p o):=λa xs e=>by
 rw[Ab (λz=>by rw[z,h] at e;exact n xs (Zzh e))];exact e
mutual
theorem RD.ku(k:AS H H'):∀(d:PyData) (v:V),Ef d=true->RD H d v->RD H' d v
 |.none,v,_,h=>by rw[RD] at h ⊢;exact h
 |.bool b,v,_,h=>by rw[RD] at h ⊢;exact h
 |.int i,v,_,h=>by rw[RD] at h ⊢;exact h
 |.str x,v,_,h=>by rw[RD] at h ⊢;exact h
 |.list ds,v,n,h=>by rw[Ef] at n;cases n
 |.tuple ds,v,n,h=>by
  rw[Ef] at n;rw[RD] at h ⊢;obtain⟨a,xs,e,ha,r⟩:=h;exact⟨a,xs,e,k a xs ha,RDs.ku k ds xs n r⟩
 |.dict _,v,n,h=>by rw[Ef] at n;cases n
theorem RDs.ku(k:AS H H'):∀(ds:List PyData) (xs:List V),Dt ds=true->RDs H ds xs->RDs H' ds xs
 |[],xs,_,h=>by rw[RDs] at h ⊢;exact h
 |d::ds,xs,n,h=>by
  rw[Dt,Zyy] at n;rw[RDs] at h ⊢;obtain⟨x,r,e,h1,h2⟩:=h;exact⟨x,r,e,RD.ku k d x n.1 h1,RDs.ku k ds r n.2 h2⟩
end
mutual
theorem RD.same(k:AA H H'):∀(d:PyData) (v:V),RD H d v->RD H' d v
 |.none,v,h=>by rw[RD] at h ⊢;exact h
 |.bool b,v,h=>by rw[RD] at h ⊢;exact h
 |.int i,v,h=>by rw[RD] at h ⊢;exact h
 |.str x,v,h=>by rw[RD] at h ⊢;exact h
 |.list ds,v,h=>by
  rw[RD] at h ⊢;obtain⟨a,xs,e,ha,r⟩:=h;exact⟨a,xs,e,k a _ ha,RDs.same k ds xs r⟩
 |.tuple ds,v,h=>by
  rw[RD] at h ⊢;obtain⟨a,xs,e,ha,r⟩:=h;exact⟨a,xs,e,k a _ ha,RDs.same k ds xs r⟩
 |.dict _,v,h=>by rw[RD] at h;exact h.elim
theorem RDs.same(k:AA H H'):∀(ds:List PyData) (xs:List V),RDs H ds xs->RDs H' ds xs
 |[],xs,h=>by rw[RDs] at h ⊢;exact h
 |d::ds,xs,h=>by
  rw[RDs] at h ⊢;obtain⟨x,r,e,h1,h2⟩:=h;exact⟨x,r,e,RD.same k d x h1,RDs.same k ds r h2⟩
end
theorem RDs.len:∀{ds:List PyData} {xs:List V},RDs H ds xs->xs.length=ds.length
 |[],xs,h=>by rw[RDs] at h;rw[h];rfl
 |d::ds,xs,h=>by
  rw[RDs] at h;obtain⟨x,r,e,_,h2⟩:=h;rw[e,Zys,Zys,RDs.len h2]
theorem RDs.get'{H:Hp}:∀{ds:List PyData} {xs:List V} {i:Nat} {x:V},RDs H ds xs->xs[i]?=some x->∃d,ds[i]?=some d/\RD H d x
 |[],xs,i,x,h,e=>by rw[RDs] at h;rw[h] at e;cases e
 |d::ds,xs,i,x,h,e=>by
  rw[RDs] at h;obtain⟨y,r,ey,h1,h2⟩:=h;rw[ey] at e;cases i with
  |zero=>cases e;exact⟨d,rfl,h1⟩
  |succ i=>exact RDs.get' (ds:=ds) (xs:=r) (i:=i) h2 (by simpa using e)
theorem RDs.app:∀{ds es:List PyData} {xs ys:List V},RDs H ds xs->RDs H es ys->RDs H (ds++es) (xs++ys)
 |[],es,xs,ys,h,h'=>by rw[RDs] at h;rw[h];exact h'
 |d::ds,es,xs,ys,h,h'=>by
  rw[RDs] at h;obtain⟨x,r,e,h1,h2⟩:=h;rw[e,Zx2,Zx2,RDs];exact⟨x,_,rfl,h1,RDs.app h2 h'⟩
theorem RDs.one{d:PyData}{x:V}(h:RD H d x):RDs H [d] [x]:=by
 rw[RDs];refine⟨x,_,rfl,h,?_⟩;rw[RDs]
theorem RDs.nil:RDs H [] []:=by rw[RDs]
theorem RDs.cons{d:PyData}{x:V}(h:RD H d x)(t:RDs H ds xs):RDs H (d::ds) (x::xs):=by
 rw[RDs];exact⟨x,_,rfl,h,t⟩
theorem RD.str_mk:RD H (.str x) (.str x):=by rw[RD]
theorem RD.int_mk{i:Int}:RD H (.int i) (.int i):=by rw[RD]
theorem RD.tup_mk(h:H a=some (.tup xs))(r:RDs H ds xs):RD H (.tuple ds) (.ref a):=by
 rw[RD];exact⟨a,xs,rfl,h,r⟩
theorem RD.tup_of(h:RD H (.tuple ds) v):∃a xs,v=.ref a/\H a=some (.tup xs)/\RDs H ds xs:=by rw[RD] at h;exact h
theorem RD.str_of(h:RD H (.str x) v):v=.str x:=by rw[RD] at h;exact h
theorem RD.int_of{x:Int}(h:RD H (.int x) v):v=.int x:=by rw[RD] at h;exact h
theorem RDs.nil_of(h:RDs H [] xs):xs=[]:=by rw[RDs] at h;exact h
theorem RDs.cons_of{d:PyData}(h:RDs H (d::ds) xs):∃x r,xs=x::r/\RD H d x/\RDs H ds r:=by rw[RDs] at h;exact h
end L2
namespace NP
open PySem L2
structure Wr where
 name:Str
 lag:Int
 gives:Int
 floor:Int
 stock:Int
 coming:List (Int×Int)
 parts:List (Str×Int)
def Ox(p:Int×Int):PyData:=.tuple [.int p.1,.int p.2]
def Ew(p:Str×Int):PyData:=.tuple [.str p.1,.int p.2]
def Wr.d(w:Wr):PyData:=.tuple [.str w.name,.int w.lag,.int w.gives,.int w.floor,.int w.stock,.tuple (w.coming.map Ox),.tuple (w.parts.map Ew)]
abbrev Wt:=Str×Int×Int
def Ha(p:Wt):PyData:=.tuple [.str p.1,.int p.2.1,.int p.2.2]
structure Sh where
 wares:List Wr
 wants:List Wt
def Sh.d(S:Sh):PyData:=.tuple [.tuple (S.wares.map Wr.d),.tuple (S.wants.map Ha)]
theorem D0{α:Type}(f:α->PyData)(h:∀x,Ef (f x)=true):∀xs:List α,Dt (xs.map f)=true
 |[]=>by rw[Zxn,Dt]
 |x::r=>by rw[Zza,Dt,h x,D0 f h r];rfl
theorem cg(p:Int×Int):Ef (Ox p)=true:=by unfold Ox;simp only[Ef,Dt,Zvn]
theorem Iw(p:Str×Int):Ef (Ew p)=true:=by unfold Ew;simp only[Ef,Dt,Zvn]
theorem Qk(p:Wt):Ef (Ha p)=true:=by unfold Ha;simp only[Ef,Dt,Zvn]
theorem yj(w:Wr):Ef w.d=true:=by
 unfold Wr.d;simp only[Ef,Dt,D0 Ox cg,D0 Ew Iw,Zvn]
theorem E2(S:Sh):Ef S.d=true:=by
 unfold Sh.d;simp only[Ef,Dt,D0 Wr.d yj,D0 Ha Qk,Zvn]
theorem Bt{w:Wr}(h:RD H w.d v):∃(a:Addr) (c p:V),v=.ref a/\H a=some (.tup [.str w.name,.int w.lag,.int w.gives,.int w.floor,.int w.stock,c,p])/\RD H (.tuple (w.coming.map Ox)) c/\RD H (.tuple (w.parts.map Ew)) p:=by
 unfold Wr.d at h;obtain⟨a,xs,rfl,ha,r⟩:=RD.tup_of h;obtain⟨x1,r1,rfl,h1,r⟩:=RDs.cons_of r;obtain⟨x2,r2,rfl,h2,r⟩:=RDs.cons_of r;obtain⟨x3,r3,rfl,h3,r⟩:=RDs.cons_of r;obtain⟨x4,r4,rfl,h4,r⟩:=RDs.cons_of r;obtain⟨x5,r5,rfl,h5,r⟩:=RDs.cons_of r;obtain⟨x6,r6,rfl,h6,r⟩:=RDs.cons_of r;obtain⟨x7,r7,rfl,h7,r⟩:=RDs.cons_of r;have:=RDs.nil_of r;subst this;rw[RD.str_of h1,RD.int_of h2,RD.int_of h3,RD.int_of h4,RD.int_of h5] at ha;exact⟨a,x6,x7,rfl,ha,h6,h7⟩
theorem Cb{S:Sh}(h:RD H S.d v):∃(a b c:Addr) (ws us:List V),v=.ref a/\H a=some (.tup [.ref b,.ref c])/\H b=some (.tup ws)/\H c=some (.tup us)/\RDs H (S.wares.map Wr.d) ws/\RDs H (S.wants.map Ha) us:=by
 unfold Sh.d at h;obtain⟨a,xs,rfl,ha,r⟩:=RD.tup_of h;obtain⟨x1,r1,rfl,h1,r⟩:=RDs.cons_of r;obtain⟨x2,r2,rfl,h2,r⟩:=RDs.cons_of r;have:=RDs.nil_of r;subst this;obtain⟨b,ws,rfl,hb,rb⟩:=RD.tup_of h1;obtain⟨c,us,rfl,hc,rc⟩:=RD.tup_of h2;exact⟨a,b,c,ws,us,rfl,ha,hb,hc,rb,rc⟩
theorem G3{p:Wt}(h:RD H (Ha p) v):∃a:Addr,v=.ref a/\H a=some (.tup [.str p.1,.int p.2.1,.int p.2.2]):=by
 unfold Ha at h;obtain⟨a,xs,rfl,ha,r⟩:=RD.tup_of h;obtain⟨x1,r1,rfl,h1,r⟩:=RDs.cons_of r;obtain⟨x2,r2,rfl,h2,r⟩:=RDs.cons_of r;obtain⟨x3,r3,rfl,h3,r⟩:=RDs.cons_of r;have:=RDs.nil_of r;subst this;rw[RD.str_of h1,RD.int_of h2,RD.int_of h3] at ha;exact⟨a,rfl,ha⟩
theorem Iv{p:Str×Int}(h:RD H (Ew p) v):∃a:Addr,v=.ref a/\H a=some (.tup [.str p.1,.int p.2]):=by
 unfold Ew at h;obtain⟨a,xs,rfl,ha,r⟩:=RD.tup_of h;obtain⟨x1,r1,rfl,h1,r⟩:=RDs.cons_of r;obtain⟨x2,r2,rfl,h2,r⟩:=RDs.cons_of r;have:=RDs.nil_of r;subst this;rw[RD.str_of h1,RD.int_of h2] at ha;exact⟨a,rfl,ha⟩
theorem Te{p:Int×Int}(h:RD H (Ox p) v):∃a:Addr,v=.ref a/\H a=some (.tup [.int p.1,.int p.2]):=by
 unfold Ox at h;obtain⟨a,xs,rfl,ha,r⟩:=RD.tup_of h;obtain⟨x1,r1,rfl,h1,r⟩:=RDs.cons_of r;obtain⟨x2,r2,rfl,h2,r⟩:=RDs.cons_of r;have:=RDs.nil_of r;subst this;rw[RD.int_of h1,RD.int_of h2] at ha;exact⟨a,rfl,ha⟩
theorem Ax{α:Type}{f:α->PyData}{xs:List α}{vs:List V}(h:RDs H (xs.map f) vs)(e:vs[i]?=some v):∃x,xs[i]?=some x/\RD H (f x) v:=by
 obtain⟨d,hd,r⟩:=RDs.get' h e;rw[Zzy] at hd;cases ex:xs[i]? with
 |none=>rw[ex] at hd;cases hd
 |some x=>rw[ex] at hd;cases hd;exact⟨x,rfl,r⟩
theorem Aw{α:Type}{f:α->PyData}{xs:List α}{vs:List V}(h:RDs H (xs.map f) vs):vs.length=xs.length:=by have:=RDs.len h;rw[Zzz] at this;exact this
abbrev Gr:=List (Str×List Str)
variable {G:Gr}
def Bf(G:Gr):List Str:=G.map (·.1)
def Sz(ks:List Str)(ps:List Str):List Str:=ps.filter λx=>decide (x∈ks)
def Dv(ks:List Str)(e:Str×List Str):Option (Str×List Str):=if Sz ks e.2=[] then none else some (e.1,Sz ks e.2)
noncomputable def lj(G:Gr):Gr:=G.filterMap (Dv (Bf G))
noncomputable def T6:Nat->Gr->Gr
 |0,G=>G
 |n+1,G=>lj (T6 n G)
def Il(S:Sh):Gr:=S.wares.map λw=>(w.name,w.parts.map (·.1))
theorem BR{ks:List Str}:∀{G:Gr},(Bf (G.filterMap (Dv ks))).Sublist (Bf G)
 |[]=>.slnil
 |e::r=>by
  unfold Bf;rw[Zvm];cases h:Dv ks e with
  |none=>exact .cons _ (BR (G:=r))
  |some q =>
   have e1:q.1=e.1:=by
    unfold Dv at h;split at h
    ·cases h
    ·cases h;rfl
   show (q.1::Bf (r.filterMap (Dv ks))).Sublist (e.1::Bf r);rw[e1];exact .cons₂ _ (BR (G:=r))
theorem df(h:(Bf G).Nodup):(Bf (lj G)).Nodup:=BR.nodup h
theorem T5(h:(Bf G).Nodup):∀n,(Bf (T6 n G)).Nodup
 |0=>h
 |n+1=>df (T5 h n)
theorem vm(G:Gr):(lj G).length<=G.length:=List.length_filterMap_le _ _
theorem ae(G:Gr):∀n,(T6 n G).length<=G.length
 |0=>Zzq _
 |n+1=>Zzd (vm _) (ae G n)
theorem T7{e:Str×List Str}(h:e∈lj G):∃ps,(e.1,ps)∈G/\(∀x∈e.2,x∈ps/\x∈Bf G)/\e.2≠[]/\e.2.length<=ps.length:=by
 unfold lj at h;obtain⟨q,hq,hc⟩:=Zw2.mp h;unfold Dv at hc;split at hc
 ·cases hc
 ·rename_i hn;cases hc;refine⟨q.2,hq,λx hx=>?_,hn,Zyh _ _⟩;have:=Zyf.mp hx;exact⟨this.1,FV this.2⟩
theorem Jx:∀(n:Nat) {e:Str×List Str},e∈T6 n G->∃ps,(e.1,ps)∈G/\(∀x∈e.2,x∈ps)/\e.2.length<=ps.length
 |0,e,h=>⟨e.2,h,λx hx=>hx,Zzq _⟩
 |n+1,e,h=>by
  obtain⟨ps,h1,h2,_,h3⟩:=T7 h;obtain⟨qs,q1,q2,q3⟩:=Jx n h1;exact⟨qs,q1,λx hx=>q2 x (h2 x hx).1,by have h3':e.2.length<=ps.length:=h3;have q3':ps.length<=qs.length:=q3;lia⟩
def Low(G:Gr)(r:Str->Nat):Prop:=∀e∈G,∀x∈e.2,r x<r e.1
theorem gz{r:Str->Nat}(h:Low G r):∀(n:Nat) (e:Str×List Str),e∈T6 n G->n<=r e.1
 |0,e,_=>Zyz _
 |n+1,e,he=>by
  obtain⟨ps,h1,h2,h3,_⟩:=T7 he;obtain⟨qs,q1,q2,_⟩:=Jx n h1;cases hx:e.2 with
  |nil=>exact absurd hx h3
  |cons x t =>
   have hm:x∈e.2:=by rw[hx];exact Zzm
   obtain⟨m1,m2⟩:=h2 x hm;obtain⟨y,hy,ey⟩:=Zzv.mp m2;have lo:=gz h n y hy;have lt:=h _ q1 x (q2 x m1);rw[ey] at lo;have lt:r x<r e.1:=lt;lia
theorem ad{r:Str->Nat}(h:Low G r)(hr:∀e∈G,r e.1<n):T6 n G=[]:=by
 cases hc:T6 n G with
 |nil=>rfl
 |cons e t =>
  have he:e∈T6 n G:=by rw[hc];exact Zzm
  have h1:=gz h n e he;obtain⟨ps,h2,_⟩:=Jx n he;have h3:=hr _ h2;have h3:r e.1<n:=h3;lia
def PDk(H:Hp)(kvs:List (Key×V))(G:Gr):Prop:=Paired (λ(e:Str×List Str) (kv:Key×V)=>kv.1=.inr e.1/\∃l,kv.2=.ref l/\H l=some (.lst (e.2.map V.str))) G kvs
theorem PDk.mono(h:PDk H kvs G)(k:∀l xs,H l=some (.lst xs)->H' l=some (.lst xs)):PDk H' kvs G :=
 Paired.mapP h λe kv ⟨h1,l,h2,h3⟩=>⟨h1,l,h2,k l _ h3⟩
theorem PDk.keys:∀{H:Hp} {kvs:List (Key×V)} {G:Gr},PDk H kvs G->kvs.map (·.1)=(Bf G).map Zy4
 |_,_,_,.nil=>rfl
 |_,_,_,.cons r t=>by
  unfold Bf;rw[Zza,Zza,Zza,r.1];exact congrArg _ (PDk.keys t)
theorem PDk.get:∀{H:Hp} {kvs:List (Key×V)} {G:Gr} {i:Nat} {e:Str×List Str},PDk H kvs G->G[i]?=some e->∃l,kvs[i]?=some (.inr e.1,.ref l)/\H l=some (.lst (e.2.map V.str))
 |_,_,_,_,_,.nil,h=>by simp at h
 |_,(k,v)::_,_,0,e,.cons r _,h=>by
  simp at h;subst h;obtain⟨h1,l,h2,h3⟩:=r;have h1:k=_:=h1;have h2:v=_:=h2;exact⟨l,by rw[h1,h2];rfl,h3⟩
 |_,_::_,_,i+1,e,.cons _ t,h=>by
  obtain⟨l,q⟩:=PDk.get (i:=i) (e:=e) t (by simpa using h);exact⟨l,by simpa using q.1,q.2⟩
theorem PDk.get':∀{H:Hp} {kvs:List (Key×V)} {G:Gr} {i:Nat} {k:Key} {v:V},PDk H kvs G->kvs[i]?=some (k,v)->∃e l,G[i]?=some e/\k=.inr e.1/\v=.ref l/\H l=some (.lst (e.2.map V.str))
 |_,_,_,_,_,_,.nil,h=>by simp at h
 |_,_,e::_,0,k,v,.cons r _,h=>by
  simp at h;subst h;obtain⟨h1,l,h2,h3⟩:=r;exact⟨e,l,rfl,h1,h2,h3⟩
 |_,_,_::_,i+1,k,v,.cons _ t,h=>by
  obtain⟨e,l,q⟩:=PDk.get' (i:=i) t (by simpa using h);exact⟨e,l,by simpa using q.1,q.2⟩
theorem R6{κ:Type}[DecidableEq κ]:∀{kvs:List (κ×V)} {i:Nat} {k:κ} {v:V},(kvs.map (·.1)).Nodup->kvs[i]?=some (k,v)->Cy kvs k=some v
 |[],_,_,_,_,h=>by simp at h
 |p::r,0,k,v,hn,h=>by
  simp at h;subst h;exact Dl rfl
 |p::r,i+1,k,v,hn,h=>by
  have h':r[i]?=some (k,v):=by simpa using h
  have hn':(p.1::r.map (·.1)).Nodup:=hn;obtain⟨h1,h2⟩:=Zyj.mp hn';have hm:k∈r.map (·.1):=Zzv.mpr ⟨(k,v),Zzu h',rfl⟩;rw[D9 (λe=>h1 (e▸hm))];exact R6 h2 h'
theorem mz{κ:Type}[DecidableEq κ](kvs:List (κ×V))(k:κ):(Cy kvs k).isSome=decide (k∈kvs.map (·.1)):=by
 rw[<- Gj];induction kvs with
 |nil=>rfl
 |cons p r ih =>
  rw[Zw3,ih,Zza];by_cases h:p.1=k
  ·subst h;simp
  ·have h':¬ k=p.1:=λe=>h e.symm
   simp[h,h']
theorem l6{xs:List Str}(h:xs.Nodup):(xs.map (Zy4:Str->Key)).Nodup:=by
 induction xs with
 |nil=>exact Zwy
 |cons x r ih =>
  obtain⟨h1,h2⟩:=Zyj.mp h;rw[Zza];refine Zyj.mpr ⟨λm=>?_,ih h2⟩;obtain⟨y,hy,e⟩:=Zzv.mp m;cases e;exact h1 hy
theorem PDk.has(h:PDk H kvs G)(x:Str):(Cy kvs (.inr x)).isSome=decide (x∈Bf G):=by
 rw[mz,h.keys];congr 1;apply propext;constructor
 ·intro m;obtain⟨y,hy,e⟩:=Zzv.mp m;cases e;exact hy
 ·exact λm=>Zzv.mpr ⟨x,m,rfl⟩
theorem S6{α β:Type}{F:α->β->Prop}:∀{a c:List α} {b d:List β},Paired F a b->Paired F c d->Paired F (a++c) (b++d)
 |_,_,_,_,.nil,s=>s
 |_,_,_,_,.cons r t,s=>.cons r (S6 t s)
theorem PDk.snoc{n:Str}{l:Addr}(h:PDk H kvs G)(hn:n∉Bf G)(hl:H l=some (.lst (ps.map V.str))):PDk H (Gx kvs (.inr n) (.ref l)) (G++[(n,ps)]):=by
 have hv:Cy kvs (.inr n)=none:=by
  have:=h.has n;rw[FX hn] at this;cases e:Cy kvs (.inr n) with
  |none=>rfl
  |some v=>rw[e] at this;cases this
 rw[Rz _ hv];exact S6 h (.cons ⟨rfl,l,rfl,hl⟩ .nil)
theorem PDk.len(h:PDk H kvs G):kvs.length=G.length:=(Paired.length h).symm
end NP
open NP
variable {G:Gr}{ws:List Wr}{S:Sh}
namespace L2
open PySem PySem.Spec PyProof.Rows
theorem yo:typeLookup (.type "list_reverseiterator") "__len__" = pure none:=by rw[typeLookup_type,builtinLookup_eq_fast];kernel_rfl
theorem tf:typeLookup (.type "list_reverseiterator") "__length_hint__" = pure (some (.builtin "list_reverseiterator.__length_hint__")):=by rw[typeLookup_type,builtinLookup_eq_fast];kernel_rfl
theorem uw{r l:Addr}{i:Int}{Q:Bool->Shared->Prop}(hr:s.heap.IsRevIter r l i)(h:Q false s):wpAny (model prog w) A (Builtin.List.listLengthHint (.ref r)) Q E s:=by
 unfold Builtin.List.listLengthHint;refine GA (wpAny_specialOf hr.typeIs yo ?_);refine GA (m:=specialOf (Value.ref r) (Str.ofString "__length_hint__")) (wpAny_specialOf hr.typeIs tf ?_);generalize hid:("list_reverseiterator.__length_hint__" : String)=idr;wp_delta;rw[show splitId idr=some ("list_reverseiterator", "__length_hint__") from by subst hid;decide +kernel];subst hid;exact GA (wpAny_isInstance (b:=true) hr.typeIs (by rw[isSubtype_type];kernel_rfl) (GB h))
theorem uk{r l S:Addr}(hh:A.handled=none)(hr:s.heap.IsRevIter r l ((items.size:Int) - 1))(hl:s.heap.IsList l items)(nlr:l≠r)(nSr:S≠r)(nSl:S≠l)(hz:items.size<=sizeLine)
  (hS:s.heap.get? S=some {cls:=.type "list",data:=.seq #[]})
  (hR:∀h' tk acc' c',(∀b o,b∉[S,r]->s.heap.get? b=some o->h'.get? b=some o)->h'.get? S=some {cls:=.type "list",dict:=none,data:=.seq acc' c',slots:=#[]} ->
   ItemsOf (λi v=>items[items.size - 1 - i]?=some v) acc' items.size->R (.ok (.ret .none)) {s with heap:=h',toks:=tk}) :
  wpAny (model prog w) A.in1 (Builtin.«list.__init__» ⟨[.ref S,.ref r],[]⟩)
   (λfin s'=>match fin with | .done f=>R (.ok f) s' | .again c'=>c'.quiet=true/\codeAny (model prog w) A c' R s') (λe s'=>R (.error e) s') s:=by
 have W:=(Walks.listRev (prog:=prog) (w:=w) (A:=A.in1) hh r l nlr items).toS;refine GA (m:=Builtin.List.listItems (.ref S)) ?_;unfold Builtin.List.listItems;refine GA (wpAny_seqItems hS rfl (GB ?_));refine GA (m:=updateSeq S (λ_=>#[])) (wpAny_updateSeq hS rfl ?_);have hS2:=Zwz (Obj.mapSeq (λ_=>(#[]:Array Value))) hS rfl;have K1:∀b o,b≠S->s.heap.get? b=some o->(s.heap.update S (Obj.mapSeq (λ_=>(#[]:Array Value)))).get? b=some o:=λb o n e=>(Zy1 _ _ (Zzi n)).trans e;generalize s.heap.update S (Obj.mapSeq (λ_=>(#[]:Array Value)))=h1 at hS2 K1;refine GA (wpAny_letGo ?_);have r1:h1.IsRevIter r l ((items.size:Int) - 1):=hr.at λo e=>K1 r o (Zzi nSr) e;have l1:h1.IsList l items:=hl.at λo e=>K1 l o (Zzi nSl) e;unfold Builtin.List.listExtendWith;refine GA (wpAny_typeOf (s:={s with heap:=h1}) r1.typeIs ?_);have d1:Builtin.List.listSameRef (.ref S) (.ref r)=false:=by simp[Builtin.List.listSameRef,nSr]
 rw[FY (by rw[d1];decide)];refine GA (wpAny_pyIter_revIter (s:={s with heap:=h1}) r1 (GA (wpAny_holding (uw (s:={s with heap:=h1}) r1 ?_))));rw[FY (by decide)];refine GB ⟨plainId_quiet F.plain_extend_loop _,codeAny_extend_loopS W hz S (by simp[nSr,nSl]) .none items.size 0 _ #[] _ rfl (Zyz _) ⟨Zyz _,by simpa using r1,l1⟩ hS2 (ItemsOf.nil _) λs' acc' c' hm hS' ha=>?_⟩;rw[Moved.eq_with hm];refine hR s'.heap s'.toks acc' c' (λb o n e=>hm.heap b o n (K1 b o (λz=>n (by simp[z])) e)) hS' ha
theorem uc{r l:Addr}(hh:A.handled=none)(hr:s.heap.IsRevIter r l ((items.size:Int) - 1))(hl:s.heap.IsList l items)(nlr:l≠r)(hz:items.size<=sizeLine)
  (hQ:∀h' tk acc' c',(∀b o,b≠r->s.heap.get? b=some o->h'.get? b=some o)->h'.get? s.heap.objs.size=some {cls:=.type "list",dict:=none,data:=.seq acc' c',slots:=#[]} ->
   ItemsOf (λi v=>items[items.size - 1 - i]?=some v) acc' items.size->Q (.ref s.heap.objs.size) {s with heap:=h',toks:=tk}):wpAny (model prog w) A (call (.type "list") [.ref r]) Q E s:=by
 have lr:r<s.heap.objs.size:=by obtain⟨o,e,_⟩:=hr;exact Zzg e
 have ll:l<s.heap.objs.size:=by obtain⟨o,e,_⟩:=hl;exact Zzg e
 refine callType_codes (Q₁:=λobj t=>obj=.ref s.heap.objs.size/\t={s with heap:=s.heap.push {cls:=.type "list",data:=.seq #[]}}) F.called_list (F.typeCall_list_1 _) F.entry_list_init (code_list_new _ ⟨rfl,rfl⟩) λobj t ht=>?_;obtain⟨rfl,rfl⟩:=ht;have nS:(s.heap.push {cls:=.type "list",data:=.seq #[]}).get? s.heap.objs.size=some {cls:=.type "list",data:=.seq #[]}:=Zzj _ rfl;refine⟨⟨_,nS,rfl⟩,F.args_list_init_2 _ _,uk (A:=A.in1) hh (hr.at λo e=>Zzx _ e) (hl.push _) nlr (Zxt lr) (Zxt ll) hz nS λh' tk acc' c' hk hS' ha=>?_⟩;refine⟨rfl,hQ h' tk acc' c' (λb o n e=>hk b o ?_ (Zzx _ e)) hS' ha⟩;simp only[Zzs,Zzk,or_false,not_or];exact⟨Zz2 (Zzg e),n⟩
theorem kr{items:List Value}{acc:Array Value}(h:ItemsOf (λi v=>items.toArray[items.toArray.size - 1 - i]?=some v) acc items.toArray.size):acc=items.reverse.toArray:=by
 obtain⟨h1,h2⟩:=h;have h1:acc.size=items.length:=by rw[h1,Zzn]
 have h2:∀j v,acc[j]?=some v->items[items.length - 1 - j]?=some v:=λj v e=>by simpa using h2 j v e
 have e:acc.toList=items.reverse:=by
  apply Zxf;intro j;cases e:acc[j]? with
  |none =>
   have:acc.size<=j:=by simpa using e
   rw[Zyt (by rw[Zxq];exact this),Zyt (by rw[Zw9];lia)]
  |some v =>
   have q:=h2 j v e;have lt:j<acc.size:=(Array.getElem?_eq_some_iff.mp e).1;rw[List.getElem?_reverse (by lia),q,Zvs,e]
 rw[<- e]
def Yk(te:TE):TE:=λZ H Q=>te Z H λx H1=>∃a xs,x=.ref a/\H1 a=some (.lst xs)/\∀p,H1 p=none->Q (.ref p) (upd H1 p (.lst xs.reverse))
theorem y6{p1 p2 p3 p4:Pos}(hc:X.calm=true)(hg:Gl X "list")(hm:X.mg "list" = none)(hg2:Gl X "reversed")(hm2:X.mg "reversed" = none)(he:PE X e te)(hn:Cm [e]=true:=by rfl) :
  PE X (.Call (.Name "list" p1) [.Call (.Name "reversed" p2) [e] [] p3] [] p4) (Yk te):=by
 intro pins s Z H Q I h;refine wpAny_Call_Name_kw (Er I hg hm NP.Xv ?_ (by decide) (by decide));refine Zyb (Zvf ?_) rfl rfl;refine wpAny_Call_Name_kw (Er I hg2 hm2 NP.Q2 ?_ (by decide) (by decide));refine Zyb (thn ((A3 he A1 hn) p3 pins s Z H (λvs H1=>match vs with | [x]=>∃a xs,x=.ref a/\H1 a=some (.lst xs)/\∀p,H1 p=none->Q (.ref p) (upd H1 p (.lst xs.reverse)) | _=>False) I h) λus s1 ⟨vs,H1,I1,r1,hv⟩=>?_) (Ce hn) rfl;match vs,hv,r1 with
 |[x],⟨a,xs,ea,ha,q⟩,r1 =>
  subst ea;obtain⟨u,rfl,ru⟩:=Fc r1;cases ru;obtain⟨its,rv,hl,hlt⟩:=Av I1 ha;have hlen:=rv.length;obtain⟨hz,_⟩:=I1.hok a _ ha;refine call_reversed_list hl (Zv4 ?_);have sz:(s1.heap.push (revObj a ((its.toArray.size:Int) - 1))).objs.size=s1.heap.objs.size+1:=Zye ..;have fr:=I1.fpOk (Zzq _) (I1.hok.fresh (Zzq _));have nar:a≠s1.heap.objs.size:=Zz2 hlt;refine uc (s:={s1 with heap:=s1.heap.push (revObj a ((its.toArray.size:Int) - 1))}) (I1.ok.hd hc) ⟨_,Zzj _ rfl,rfl,rfl⟩ (hl.push _) nar (by rw[Zzn];lia) λh' tk acc c hk hS ha'=>?_;have ea:=kr ha';subst ea;have sz2:s1.heap.objs.size<=(s1.heap.push (revObj a ((its.toArray.size:Int) - 1))).objs.size:=by rw[sz];exact Zu6 _
  have kk:∀b o,s1.heap.get? b=some o->h'.get? b=some o:=λb o e=>hk b o (Zz2 (Zzg e)) (Zzx _ e);exact⟨.ref _,_,I1.laid (t':=tk) (o:=.lst xs.reverse) kk sz2 ⟨by rw[Zw9];exact hz,its.reverse,c,rv.reverse,hS⟩,rfl,q _ (I1.hok.fresh sz2)⟩
theorem Ex:mn 2 (Zy K 2 (Ea (Cv 0) (Ea (Cv 1) CZ))):=λv Z H Q h=>by
 obtain⟨a,xs,e,hq,hl,v1,r1,e1,v2,r2,e2,e3,q⟩:=h;exact⟨a,xs,e,hq,hl,v1,r1,e1,v2,r2,e2,e3,⟨⟨by simp,λj hj=>by rw[Zy3 (by lia),Zy3 (by lia)]⟩,q⟩⟩
theorem Vf:mn 3 (Zy K 3 (Ea (Cv 0) (Ea (Cv 1) (Ea (Cv 2) CZ)))):=λv Z H Q h=>by
 obtain⟨a,xs,e,hq,hl,v1,r1,e1,v2,r2,e2,v3,r3,e3,e4,q⟩:=h;exact⟨a,xs,e,hq,hl,v1,r1,e1,v2,r2,e2,v3,r3,e3,e4,⟨⟨by simp,λj hj=>by rw[Zy3 (by lia),Zy3 (by lia),Zy3 (by lia)]⟩,q⟩⟩
theorem gt3{k:Nat}{x z:V}{Q:St->Hp->Prop}(e:H p=some (.tup [x,y,z]))(h:Q (((Z.set i (some x)).set j (some y)).set k (some z)) H) :
  Zy K 3 (Ea (Cv i) (Ea (Cv j) (Ea (Cv k) CZ))) (.ref p) Z H Q:=⟨p,_,rfl,SqT.of e,rfl,_,_,rfl,_,_,rfl,_,_,rfl,rfl,h⟩
theorem vp{yl:Nat->List V->Prop}{ok:Hp->Prop}{own:List Str}{g:TG}{Q:VK}(G:W3 J n yl ok)(hn:n<=sizeLine)(Pv:Nat->List V->Hp->Prop)(h0:Pv 0 [] H)(hok:∀i acc H,i<=n->Pv i acc H->ok H)
  (hlen:∀i acc H,Pv i acc H->acc.length<=i)
  (hs:∀i ys p acc H,i<n->yl i ys->Pv i acc H->H p=none->g (.ref p) (Jm own cap Z) (upd H p (.tup ys)) λσ2 H2=>tt σ2 H2 λb H3=>if b=true then te σ2 H3 λy H4=>Pv (i+1) (acc++[y]) H4 else Pv (i+1) acc H3)
  (hd:∀acc H,Pv n acc H->∀p,H p=none->Q (.ref p) (upd H p (.lst acc))):NP.W4 J own cap g tt te Z H Q:=by
 refine⟨λi m acc H=>m=n - i/\i<=n/\Pv i acc H,⟨n,by simp,Zyz _,h0⟩,?_⟩;rintro i m acc H ⟨rfl,hi,p⟩;have q:=hok i acc H hi p;have hl:=hlen i acc H p;refine⟨by lia,?_⟩;by_cases hlt:i<n
 ·refine .inr ⟨G.go i H hlt q,by lia,Pv (i+1),λacc' H' p'=>⟨n - (i+1),by lia,rfl,hlt,p'⟩,λx H' y=>?_⟩;obtain⟨a,ys,e1,e2,e3,y'⟩:=G.yld i H x H' hlt q y;subst e1 e3;exact hs i ys a acc H hlt y' p e2
 ·have e:i=n:=by lia
  subst e;exact .inl ⟨G.stop H q,hd acc H p⟩
theorem Et{ok:Hp->Prop}{own:List Str}{g:TG}{Q:VK}(G:Tl J n yl ok)(hn:n<=sizeLine)(Pv:Nat->List V->Hp->Prop)(h0:Pv 0 [] H)(hok:∀i acc H,i<=n->Pv i acc H->ok H)
  (hlen:∀i acc H,Pv i acc H->acc.length<=i)
  (hs:∀i x acc H,i<n->yl i x->Pv i acc H->g x (Jm own cap Z) H λσ2 H2=>tt σ2 H2 λb H3=>if b=true then te σ2 H3 λy H4=>Pv (i+1) (acc++[y]) H4 else Pv (i+1) acc H3)
  (hd:∀acc H,Pv n acc H->∀p,H p=none->Q (.ref p) (upd H p (.lst acc))):NP.W4 J own cap g tt te Z H Q:=Vr G hn Pv h0 hok hlen hs hd
noncomputable def Mf(ns:Nat->Int):Nat->Int
 |0=>ns 0
 |k+1=>if ns (k+1) > Mf ns k then ns (k+1) else Mf ns k
section
variable {I:Addr}{P:Nat->Value->Prop}{St:Nat->Heap->Prop}
theorem z9{a b:Int}{t u:Tok}(h:Q (.bool (decide (b<a))) s):wpAny (model prog w) A (richCompare .Gt (.int a t) (.int b u)) Q E s:=show wpAny _ _ (compareOp .Gt _ _) _ _ _ from gt_int h
theorem kg(kw:List (Str×Value))(W:Walks prog w A.in1 I fp wr n P St)(ns:Nat->Int)(hv:∀i v,P i v->∃t,v=.int (ns i) t)(S:Addr)(hSf:S∉fp) :
  ∀(k j:Nat) (s:Shared) (t:Tok) (c:Nat),n - (j+1)=k->j+1<=n->St (j+1) s.heap->s.heap.get? S=some {cls:=.type "list",dict:=none,data:=.seq #[.int (Mf ns j) t,.int (Mf ns j) t] c,slots:=#[]} ->
  (∀t' h' tk,(∀b o,b∉wr->b≠S->s.heap.get? b=some o->h'.get? b=some o)->R (.ok (.ret (.int (Mf ns (n - 1)) t'))) {s with heap:=h',toks:=tk}) ->
  codeAny (model prog w) A (.builtin "max.loop" ⟨[.ref I,.none,.ref S],kw⟩) R s:=by
 have nSw:S∉wr:=λh=>hSf (W.sub _ h);have nm:(toString "max" ++ toString ".loop" : String) = "max.loop" := by decide
 intro k;induction k with
 |zero =>
  intro j s t c hk hj hst hS hR;have hin:j+1=n:=by lia
  refine codeAny_builtin F.entry_max_loop ?_;rw[Zvp F.plain_max_loop _];refine GA (m:=seqItems? (.ref S)) (wpAny_seqItems hS rfl (GA (m:=tryCatch (pyNext (.ref I)) _) (wpAny_tryCatch (W.done s _ _ (hin▸hst) λh' tk hk'=>?_))));refine GA (m:=updateSeq S (λ_=>#[])) (wpAny_updateSeq (hk' S _ nSw hS) rfl (GA (wpAny_letGo (GB ?_))));have e:n - 1=j:=by lia
  rw[e] at hR;exact hR t _ tk λb o n1 n2 q=>(Zy1 _ _ (Zzi n2)).trans (hk' b o n1 q)
 |succ k ih =>
  intro j s t c hk hj hst hS hR;have hlt:j+1<n:=by lia
  refine codeAny_builtin F.entry_max_loop ?_;rw[Zvp F.plain_max_loop _];refine GA (m:=seqItems? (.ref S)) (wpAny_seqItems hS rfl (GA (m:=tryCatch (pyNext (.ref I)) _) (wpAny_tryCatch (W.item (j+1) s _ _ hlt hst λv h' tk hP hst' hk'=>?_))));obtain⟨u,rfl⟩:=hv _ _ hP;have hS':=hk' S _ nSw hS;refine GA (m:=tryCatch (holding _ (richCompare .Gt _ _ >>= _)) _) (wpAny_tryCatch (wpAny_holding (GA (z9 (GA (wpAny_holding (wpAny_truthy_bool (GA (wpAny_letGo (GB ?_))))))))));by_cases hb:Mf ns j<ns (j+1)
  ·rw[FW hb];simp only[if_true];refine GA (wpAny_updateSeq hS' rfl (GA (wpAny_letGo ?_)));rw[nm];have eb:Mf ns (j+1)=ns (j+1):=FZ hb;refine GB ⟨plainId_quiet F.plain_max_loop _,ih (j+1) _ u _ (by lia) hlt (W.frame _ _ _ hst' λb hbf o e=>?_) (by rw[eb];exact Zwz _ hS' rfl) λt' h'' tk' hk2=>?_⟩
   ·exact(Zy1 _ _ (λh:S=b=>hSf (by rw[h];exact hbf))).trans e
   ·exact hR t' h'' tk' λb o n1 n2 e=>hk2 b o n1 n2 ((Zy1 _ _ (Zzi n2)).trans (hk' b o n1 e))
  ·rw[FX hb];simp only[Bool.false_eq_true,if_false];refine GA (wpAny_letGo ?_);rw[nm];have eb:Mf ns (j+1)=Mf ns j:=FY hb;refine GB ⟨plainId_quiet F.plain_max_loop _,ih (j+1) _ t c (by lia) hlt hst' (by rw[eb];exact hS') λt' h'' tk' hk2=>?_⟩;exact hR t' h'' tk' λb o n1 n2 e=>hk2 b o n1 n2 (hk' b o n1 e)
theorem Sr(kw:List (Str×Value))(W:Walks prog w A.in1 I fp wr n P St)(ns:Nat->Int)(hv:∀i v,P i v->∃t,v=.int (ns i) t)(S:Addr)(hSf:S∉fp)(hn:0<n)(hst:St 0 s.heap)
  (hS:s.heap.get? S=some {cls:=.type "list",dict:=none,data:=.seq #[] c,slots:=#[]})
  (hR:∀t' h' tk,(∀b o,b∉wr->b≠S->s.heap.get? b=some o->h'.get? b=some o)->R (.ok (.ret (.int (Mf ns (n - 1)) t'))) {s with heap:=h',toks:=tk}) :
  codeAny (model prog w) A (.builtin "max.loop" ⟨[.ref I,.none,.ref S],kw⟩) R s:=by
 have nSw:S∉wr:=λh=>hSf (W.sub _ h);have nm:(toString "max" ++ toString ".loop" : String) = "max.loop" := by decide
 refine codeAny_builtin F.entry_max_loop ?_;rw[Zvp F.plain_max_loop _];refine GA (m:=seqItems? (.ref S)) (wpAny_seqItems hS rfl (GA (m:=tryCatch (pyNext (.ref I)) _) (wpAny_tryCatch (W.item 0 s _ _ hn hst λv h' tk hP hst' hk'=>?_))));obtain⟨u,rfl⟩:=hv _ _ hP;have hS':=hk' S _ nSw hS;refine GA (m:=updateSeq S _) (wpAny_updateSeq hS' rfl ?_);rw[nm];refine GB ⟨plainId_quiet F.plain_max_loop _,kg kw W ns hv S hSf _ 0 _ u _ rfl hn (W.frame _ _ _ hst' λb hbf o e=>?_) (Zwz _ hS' rfl) λt' h'' tk' hk2=>?_⟩
 ·exact(Zy1 _ _ (λh:S=b=>hSf (by rw[h];exact hbf))).trans e
 ·exact hR t' h'' tk' λb o n1 n2 e=>hk2 b o n1 n2 ((Zy1 _ _ (Zzi n2)).trans (hk' b o n1 e))
theorem ke{d:Value}(W:Walks prog w A.in1 I fp wr 0 P St)(S:Addr)(hSf:S∉fp)(hst:St 0 s.heap)
  (hS:s.heap.get? S=some {cls:=.type "list",dict:=none,data:=.seq #[] c,slots:=#[]})
  (hR:∀h' tk,(∀b o,b∉wr->b≠S->s.heap.get? b=some o->h'.get? b=some o)->R (.ok (.ret d)) {s with heap:=h',toks:=tk}) :
  codeAny (model prog w) A (.builtin "max.loop" ⟨[.ref I,.none,.ref S],[("default",d)]⟩) R s:=by
 refine codeAny_builtin F.entry_max_loop ?_;rw[Zvp F.plain_max_loop _];refine GA (m:=seqItems? (.ref S)) (wpAny_seqItems hS rfl (GA (m:=tryCatch (pyNext (.ref I)) _) (wpAny_tryCatch (W.done s _ _ hst λh' tk hk'=>?_))));exact GA (wpAny_rule (GB (hR h' tk λb o n1 _ e=>hk' b o n1 e)))
end
noncomputable def Nj(ns:List Int):Int:=Mf (λi=>(ns[i]?).getD 0) (ns.length - 1)
def Fb(ns:List Int):Int:=if ns=[] then 0 else Nj ns
theorem ai(f:Nat->Int):∀k,∃i,i<=k/\Mf f k=f i
 |0=>⟨0,Zzq _,rfl⟩
 |k+1=>by
  rw[Mf];split
  ·exact⟨k+1,Zzq _,rfl⟩
  ·obtain⟨i,h1,h2⟩:=ai f k;exact⟨i,by lia,h2⟩
theorem iy(f:Nat->Int):∀k i,i<=k->f i<=Mf f k
 |0,i,h=>by
  have:i=0:=by lia
  subst this;exact Zz9 _
 |k+1,i,h=>by
  rw[Mf];by_cases hi:i=k+1
  ·subst hi;split<;>lia
  ·have:=iy f k i (by lia)
   split<;>lia
theorem Ii(h:ns≠[]):Nj ns∈ns:=by
 have hl:0<ns.length:=Zuc.mpr h;obtain⟨i,h1,h2⟩:=ai (λi=>(ns[i]?).getD 0) (ns.length - 1);unfold Nj;rw[h2];have hi:i<ns.length:=by lia
 simp only[Zzr hi,Zvq];exact Zwc hi
theorem Xh{x:Int}(h:x∈ns):x<=Nj ns:=by
 obtain⟨i,hi,e⟩:=Zy2.mp h;have:=iy (λi=>(ns[i]?).getD 0) (ns.length - 1) i (by lia);simp only[Zzr hi,Zvq,e] at this;exact this
theorem ym{m:Int}(h1:m∈ns)(h2:∀x∈ns,x<=m):Nj ns=m:=by
 have a:=Xh h1;have b:=h2 _ (Ii (List.ne_nil_of_mem h1));lia
theorem mj(a d:Value):argsOk "max" ⟨[a],[(Str.ofString "default",d)]⟩:=by unfold argsOk;kernel_rfl
theorem Zl{Q:VK}(hc:X.calm=true)(I:Inv X pins Z H s)(ha:H a=some (.lst (ns.map V.int)))(hn:ns≠[])(q:Q (.int (Nj ns)) H) :
  codeAny (model X.prog X.w) X.A (.builtin "max.loop" ⟨[.ref s.heap.objs.size,.none,.ref (s.heap.objs.size+1)],kw⟩) (λr s'=>match r with | .ok (.ret v)=>EP X pins Z Q v s' | .ok _=>False | .error e=>E e s')
   {s with heap:=(s.heap.push {cls:=.type "list_iterator",data:=.fields #[.ref a,.int 0 0]}).push {cls:=.type "list",data:=.seq #[]}}:=by
 obtain⟨its,rv,hl,hlt⟩:=Av I ha;have hlen:its.length=ns.length:=by have:=rv.length;rw[Zzz] at this;exact this.symm
 have sz:(s.heap.push {cls:=.type "list_iterator",data:=.fields #[.ref a,.int 0 0]}).objs.size=s.heap.objs.size+1:=Zye ..;have gI:((s.heap.push {cls:=.type "list_iterator",data:=.fields #[.ref a,.int 0 0]}).push {cls:=.type "list",data:=.seq #[]}).get? s.heap.objs.size=some {cls:=.type "list_iterator",data:=.fields #[.ref a,.int 0 0]}:=Zzx _ (Zzj _ rfl);have gS:((s.heap.push {cls:=.type "list_iterator",data:=.fields #[.ref a,.int 0 0]}).push {cls:=.type "list",data:=.seq #[]}).get? (s.heap.objs.size+1)=some {cls:=.type "list",data:=.seq #[]}:=by
  have:=Zzj (s.heap.push {cls:=.type "list_iterator",data:=.fields #[.ref a,.int 0 0]}) (o:={cls:=.type "list",data:=.seq #[]}) rfl;rw[sz] at this;exact this
 have hpos:0<its.toArray.size:=by rw[Zzn,hlen];exact Zuc.mpr hn
 have nS:(s.heap.objs.size+1:Addr)∉[s.heap.objs.size,a]:=by
  simp only[Zzs,Zzk,or_false,not_or];exact⟨Zux _,Zxt (Zx7 hlt)⟩
 refine Sr kw (Walks.list (prog:=X.prog) (w:=X.w) (A:=X.A.in1) (I.ok.hd hc) s.heap.objs.size a (Zz2 hlt) its.toArray) (λi=>(ns[i]?).getD 0) (λi v hP=>R0 rv (by simpa using hP)) (s.heap.objs.size+1) nS hpos ⟨⟨_,gI,rfl,rfl⟩,(hl.push _).push _⟩ gS λt' h' tk hk=>?_;rw[Zzn,hlen];refine⟨.int (Nj ns),H,I.kept λb o e=>hk b o ?_ ?_ (Zzx _ (Zzx _ e)),⟨_,rfl⟩,q⟩
 ·simp only[Zzs,Zzk,or_false];exact Zz2 (Zzg e)
 ·exact Zz2 (Zx7 (Zzg e))
def FP:List V->Hp->VK->Prop:=λvs H Q=>∃a ns,vs=[.ref a]/\H a=some (.lst (ns.map V.int))/\ns≠[]/\Q (.int (Nj ns)) H
theorem Vv(hc:X.calm=true):AK X (.builtin "max") FP:=by
 intro pins s Z H xs us Q I r h;obtain⟨a,ns,rfl,ha,hn,q⟩:=h;obtain⟨u,rfl,ru⟩:=Fc r;cases ru;obtain⟨its,rv,hl,hlt⟩:=Av I ha;have nm:(toString "max" ++ toString ".loop" : String) = "max.loop" := by decide
 have sz:(s.heap.push {cls:=.type "list_iterator",data:=.fields #[.ref a,.int 0 0]}).objs.size=s.heap.objs.size+1:=Zye ..;refine call_function_tree F.kind_max F.plain_max F.entry_max (F.args_max1 _) ?_;refine GA (m:=Zxj "max" ["key", "default"] 0 ⟨[],[]⟩) (wpAny_of_eq (show Zxj "max" ["key", "default"] 0 ⟨[],[]⟩=pure [none,none] from rfl) (GA (GB (GA (wpAny_pyIter_list hl (GA (wpAny_newObj_type ?_)))))));rw[nm];refine GB ⟨plainId_quiet F.plain_max_loop _,?_⟩;have:=Zl (E:=X.xe) (kw:=[]) hc I ha hn q;rw[<- sz] at this;exact this
def Yi(te:TE):TE:=λZ H Q=>te Z H λx H1=>∃a ns,x=.ref a/\H1 a=some (.lst (ns.map V.int))/\Q (.int (Fb ns)) H1
theorem gl{p1 p2 p3 kp:Pos}{j}(hc:X.calm=true)(hg:Gl X "max")(hm:X.mg "max" = none)(he:PE X e te)(hn:Cm [e]=true:=by rfl) :
  PE X (.Call (.Name "max" p1) [e] [⟨some "default",.Constant (.int 0) j p3,kp⟩] p2) (Yi te):=by
 intro pins s Z H Q I h;refine wpAny_Call_Name_kw (Er I hg hm NP.Me ?_ (by decide) (by decide));refine callWith_kw (thn ((A3 he A1 hn) p2 pins s Z H (λvs H1=>match vs with | [x]=>∃a ns,x=.ref a/\H1 a=some (.lst (ns.map V.int))/\Q (.int (Fb ns)) H1 | _=>False) I h) λus s1 ⟨vs,H1,I1,r1,hv⟩=>kws_cons (wpAny_Constant_int (kws_nil ?_))) ?_ ?_ rfl rfl
 ·match vs,hv,r1 with
  |[x],⟨a,ns,ea,ha,q⟩,r1 =>
  subst ea;obtain⟨u,rfl,ru⟩:=Fc r1;cases ru;have I2:=I1.tok (s1.toks+1);obtain⟨its,rv,hl,hlt⟩:=Av I2 ha;have nm:(toString "max" ++ toString ".loop" : String) = "max.loop" := by decide
  have sz:(s1.heap.push {cls:=.type "list_iterator",data:=.fields #[.ref a,.int 0 0]}).objs.size=s1.heap.objs.size+1:=Zye ..;refine kmk_tree F.kind_max F.plain_max F.entry_max (mj _ _) ?_;refine GA (m:=Zxj "max" ["key", "default"] 0 ⟨[],[(Str.ofString "default",.int 0 s1.toks)]⟩) (wpAny_of_eq (show Zxj "max" ["key", "default"] 0 ⟨[],[(Str.ofString "default",.int 0 s1.toks)]⟩=pure [none,some (.int 0 s1.toks)] from rfl) (GA (GB (GA (wpAny_pyIter_list hl (GA (wpAny_newObj_type ?_)))))));rw[nm];refine GB ⟨plainId_quiet F.plain_max_loop _,?_⟩;by_cases hz:ns=[]
  ·subst hz;have gI:((s1.heap.push {cls:=.type "list_iterator",data:=.fields #[.ref a,.int 0 0]}).push {cls:=.type "list",data:=.seq #[]}).get? s1.heap.objs.size=some {cls:=.type "list_iterator",data:=.fields #[.ref a,.int 0 0]}:=Zzx _ (Zzj _ rfl);have gS:((s1.heap.push {cls:=.type "list_iterator",data:=.fields #[.ref a,.int 0 0]}).push {cls:=.type "list",data:=.seq #[]}).get? (s1.heap.push {cls:=.type "list_iterator",data:=.fields #[.ref a,.int 0 0]}).objs.size=some {cls:=.type "list",data:=.seq #[]}:=Zzj _ rfl;have e0:its=[]:=by cases rv;rfl
   subst e0;have nS:(s1.heap.push {cls:=.type "list_iterator",data:=.fields #[.ref a,.int 0 0]}).objs.size∉[s1.heap.objs.size,a]:=by
    rw[sz];simp only[Zzs,Zzk,or_false,not_or];exact⟨Zux _,Zxt (Zx7 hlt)⟩
   refine ke (Walks.list (prog:=X.prog) (w:=X.w) (A:=X.A.in1) (I.ok.hd hc) s1.heap.objs.size a (Zz2 hlt) ([]:List Value).toArray) _ nS ⟨⟨_,gI,rfl,rfl⟩,(hl.push _).push _⟩ gS λh' tk hk=>?_;refine⟨.int 0,H1,I1.kept λb o e=>hk b o ?_ ?_ (Zzx _ (Zzx _ e)),⟨_,rfl⟩,q⟩
   ·simp only[Zzs,Zzk,or_false];exact Zz2 (Zzg e)
   ·rw[sz];exact Zz2 (Zx7 (Zzg e))
  ·have q':Q (.int (Nj ns)) H1:=by unfold Fb at q;rw[FY hz] at q;exact q
   have:=Zl (E:=X.xe) (kw:=[("default",.int 0 s1.toks)]) hc I2 ha hz q';rw[<- sz] at this;exact this
 ·rw[Ce hn];rfl
 ·exact D3 hn
def FQ:V->V->Hp->VK->Prop:=λo i H Q=>∃p xs k v,o=.ref p/\i=.int k/\H p=some (.lst xs)/\0<=k/\xs[k.toNat]?=some v/\Q v H
theorem ig:A2z X FQ:=by
 intro pins s Z H o i ov iv Q I ro ri h;obtain⟨p,xs,k,v,rfl,rfl,hp,h0,hv,q⟩:=h;cases ro;obtain⟨t,rfl⟩:=ri;obtain⟨its,rv,hl,hlt⟩:=Av I hp;obtain⟨u,hu,ru⟩:=rv.get hv;have hlen:=rv.length;obtain⟨hz,_⟩:=I.hok p _ hp;have hk:k.toNat<xs.length:=(Zze.mp hv).1;have h63:=L3;exact wpAny_getItem_list hl h0 (by lia) (by simpa using hu) ⟨v,H,I,ru,q⟩
end L2
namespace NP
open PySem L2
def Ap(n:Nat)(f:Nat->Int):List Int:=(Zyi n).map f
theorem Al(n:Nat)(f:Nat->Int):(Ap n f).length=n:=by simp[Ap]
theorem Bi{f:Nat->Int}(h:i<n):(Ap n f)[i]?=some (f i):=by simp[Ap,h]
theorem Bn{f:Nat->Int}(h:i<n):(Ap n f).getD i 0=f i:=by rw[Zzp,Bi h];rfl
theorem C4{f g:Nat->Int}(h:∀i,i<n->f i=g i):Ap n f=Ap n g:=by
 apply Zxf;intro i;by_cases hi:i<n
 ·rw[Bi hi,Bi hi,h i hi]
 ·rw[Zyt (by rw[Al];lia),Zyt (by rw[Al];lia)]
theorem Jf{f:Nat->Int}{v:Int}:(Ap n f).set j v=Ap n λd=>if d=j then v else f d:=by
 apply Zxf;intro i;by_cases hi:i<n
 ·rw[Bi hi];by_cases hj:j=i
  ·subst hj;rw[Zvy (by rw[Al];exact hi),FZ rfl]
  ·rw[Zy3 hj,Bi hi,FY (λe=>hj e.symm)]
 ·rw[Zyt (by rw[List.length_set,Al];lia),Zyt (by rw[Al];lia)]
theorem Fx(n:Nat)(f:Nat->Int):Ap (n+1) f=Ap n f++[f n]:=by
 unfold Ap;rw[Zul,Zzo];rfl
theorem Rx(k:Nat):(Zy8 k [V.int 0]).flatten=(Ap k λ_=>0).map V.int:=by
 induction k with
 |zero=>rfl
 |succ k ih =>
  rw[List.replicate_succ',Zw8,ih,Fx,Zzo];rfl
noncomputable def Ba{α:Type}(f:α->Int)(xs:List α):Int:=(xs.map f).sum
theorem Jb{α:Type}(f:α->Int):Ba f []=0:=rfl
theorem oz{α:Type}(f:α->Int)(xs ys:List α):Ba f (xs++ys)=Ba f xs+Ba f ys:=by unfold Ba;rw[Zzo,List.sum_append]
theorem oy{α:Type}(f:α->Int)(x:α):Ba f [x]=f x:=by simp[Ba]
theorem Ch{α:Type}(f:α->Int)(x:α)(xs:List α):Ba f (x::xs)=f x+Ba f xs:=by simp[Ba]
theorem Dy{α:Type}(f:α->Int){xs:List α}{x:α}(h:xs[i]?=some x):Ba f (xs.take (i+1))=Ba f (xs.take i)+f x:=by
 rw[Zzb,h,oz];rw[show (some x).toList=[x] from rfl,oy]
theorem Ev{α:Type}{f:α->Int}{xs:List α}(h:∀x∈xs,f x=0):Ba f xs=0:=by
 induction xs with
 |nil=>rfl
 |cons x r ih=>rw[Ch,h x Zzm,ih λy hy=>h y (Zzl _ hy)];rfl
theorem Fv{α:Type}{f g:α->Int}{xs:List α}(h:∀x∈xs,f x=g x):Ba f xs=Ba g xs:=by
 induction xs with
 |nil=>rfl
 |cons x r ih=>rw[Ch,Ch,h x Zzm,ih λy hy=>h y (Zzl _ hy)]
def AB(S:Sh):Nat:=(1+Fb (S.wants.map λu=>u.2.1)).toNat
theorem Nk(h:∀x∈ns,0<=x):0<=Fb ns:=by
 unfold Fb;split
 ·exact Zz9 _
 ·rename_i hn;exact h _ (Ii hn)
theorem Nl{x:Int}(h:x∈ns):x<=Fb ns:=by
 unfold Fb;rw[FY (List.ne_nil_of_mem h)];exact Xh h
theorem Xi{b:Int}(hb:0<b)(h:∀x∈ns,x<b):Fb ns<b:=by
 unfold Fb;split
 ·exact hb
 ·rename_i hn;exact h _ (Ii hn)
theorem V8(ns:List Int)(h:∀x∈ns,0<=x):Nj (0::ns)=Fb ns:=by
 refine ym ?_ (λx hx=>?_)
 ·unfold Fb;split
  ·exact Zzm
  ·rename_i hn;exact Zzl _ (Ii hn)
 ·rcases Zzs.mp hx with e | m
  ·rw[e];exact Nk h
  ·exact Nl m
noncomputable def wAt(nm:Str)(d:Nat)(u:Wt):Int:=if u.1=nm/\u.2.1=(d:Int) then u.2.2 else 0
noncomputable def cAt(d:Nat)(p:Int×Int):Int:=if p.1=(d:Int) then p.2 else 0
noncomputable def bAt(AO:List Int)(lag:Int)(d:Nat):Int:=if d+lag.toNat<AO.length then AO.getD (d+lag.toNat) 0 else 0
def Dx(AO:List Int)(lag:Int):List Int:=Ap AO.length (bAt AO lag)
theorem w6(AO:List Int)(lag:Int):AO.drop lag.toNat++Ap (min lag.toNat AO.length) (λ_=>0)=Dx AO lag:=by
 unfold Dx bAt;apply Zxf;intro i;by_cases hi:i<AO.length
 ·rw[Bi hi];by_cases h:i+lag.toNat<AO.length
  ·rw[FZ h,Zwx (by rw[Zxr];lia),Zu5,Nat.add_comm lag.toNat i,Zzr h,Zzp,Zzr h];rfl
  ·rw[FY h,Zxi (by rw[Zxr];lia),Zxr,Bi (by lia)]
 ·rw[Zyt (by rw[Zyv,Zxr,Al];lia),Zyt (by rw[Al];lia)]
noncomputable def pAt(plan:Str->List Int)(nm:Str)(d:Nat)(w:Wr):Int:=Ba (λp:Str×Int=>if p.1=nm then p.2*bAt (plan w.name) w.lag d else 0) w.parts
def Bj(S:Sh)(plan:Str->List Int)(nm:Str)(d:Nat):Int:=Ba (wAt nm d) S.wants+Ba (pAt plan nm d) S.wares
def Az(S:Sh)(plan:Str->List Int)(nm:Str):List Int:=Ap (AB S) (Bj S plan nm)
def Cg(w:Wr)(d:Nat):Int:=(if d=0 then w.stock else 0)+Ba (cAt d) w.coming
def Gv(S:Sh)(plan:Str->List Int)(w:Wr)(d:Nat):Int:=Cg w d+w.gives*(plan w.name).getD d 0 - Bj S plan w.name d
noncomputable def upS(f:Nat->Int):Nat->Int
 |0=>0
 |d+1=>upS f d+f d
noncomputable def Ar(S:Sh)(plan:Str->List Int)(w:Wr):List Int:=Ap (AB S) λd=>upS (Gv S plan w) (d+1)
theorem jq{ps:List (Str×Int)}{b:Int}(nd:(ps.map (·.1)).Nodup):Ba (λp:Str×Int=>if p.1=nm then p.2*b else 0) ps=match (ps.filter λp=>decide (p.1=nm)).map (·.2) with | []=>0 | a::_=>a*b:=by
 induction ps with
 |nil=>rfl
 |cons p r ih =>
  obtain⟨h1,h2⟩:=Zyj.mp nd;rw[Ch];by_cases h:p.1=nm
  ·rw[FZ h,Zyk,FZ (FW h),Zza];rw[Ev λq hq=>?_]
   ·show p.2*b+0=p.2*b
    lia
   ·rw[FY];intro e;exact h1 (Zzv.mpr ⟨q,hq,e.trans h.symm⟩)
  ·rw[FY h,ih h2,Zyk,FY (by rw[FX h];decide),Zuk]
end NP
namespace L2
open PySem PySem.Spec PyProof.Rows
noncomputable def ItI(a:Addr)(o:Obj)(kvs:List (Key×V)):It:=⟨λi H=>H a=some (.frz o (.dK kvs))/\i<kvs.length,λi H x H'=>∃p k v,x=.ref p/\H p=none/\kvs[i]?=some (k,v)/\H'=upd H p (.tup [kV k,v]),λi H=>H a=some (.frz o (.dK kvs))/\kvs.length<=i⟩
theorem A07{κ:Type}:∀{kvs:List (κ×V)} {vs:List (κ×Value)} {i:Nat} {k:κ} {v:V},KV kvs vs->kvs[i]?=some (k,v)->∃u,vs[i]?=some (k,u)/\AD v u
 |_,_,_,_,_,.nil,e=>by simp at e
 |_,(k',u')::_,0,k,v,.cons r _,e=>by
  simp at e;subst e;exact⟨u',by simp;exact r.1.symm,r.2⟩
 |_,_::_,i+1,k,v,.cons _ t,e=>by
  obtain⟨u,h,q⟩:=A07 (i:=i) t (by simpa using e);exact⟨u,by simpa using h,q⟩
def z7(te:TE):TI:=λZ H R=>te Z H λx H1=>∃a kvs,x=.ref a/\H1 a=some (.dK kvs)/\∀o,R (ItI a o kvs) (upd H1 a (.frz o (.dK kvs)))
def A0c(H:Hp)(ka kb:List (Key×V)):Prop:=∀p∈ka,∃y d e,Cy kb p.1=some y/\RD H d p.2/\RD H e y/\okD d=true/\okD e=true/\PyData.eqv d e=true
def xn:R2:=λx y H Q=>∃a b ka kb,x=.ref a/\y=.ref b/\Rd H a (.dK ka)/\Rd H b (.dK kb)/\ka.length=kb.length/\A0c H ka kb/\Q (.bl true) H
def xl:R2:=λx y H Q=>∃a b ka kb,x=.ref a/\y=.ref b/\Rd H a (.dK ka)/\Rd H b (.dK kb)/\ka.length=kb.length/\A0c H ka kb/\Q (.bl false) H
end L2
namespace L2
open PySem PySem.Spec PyProof.Rows PySem.W NP
def Ej(n:Nat)(key:Nat->Int){α:Type}:KasT α->(α->Prop)->Prop
 |.ret a,Q=>Q a
 |.ask i j k,Q=>i<n/\j<n/\Ej n key (k (decide (key i<key j))) Q
theorem G0{α β:Type}{f:α->KasT β}{Q:β->Prop}:∀{t:KasT α},Ej n key t (λa=>Ej n key (f a) Q)->Ej n key (t.bind f) Q
 |.ret _,h=>h
 |.ask _ _ _,⟨h1,h2,h3⟩=>⟨h1,h2,G0 h3⟩
theorem Es{α:Type}{Q Q':α->Prop}(hq:∀a,Q a->Q' a):∀{t:KasT α},Ej n key t Q->Ej n key t Q'
 |.ret _,h=>hq _ h
 |.ask _ _ _,⟨h1,h2,h3⟩=>⟨h1,h2,Es hq h3⟩
def klt(key:Nat->Int)(a b:Nat):Prop:=key a<key b\/(key a=key b/\a<b)
theorem kn{a b:Nat}(h1:klt key a b)(h2:klt key b c):klt key a c:=by unfold klt at *;lia
theorem Xl{a b:Nat}(h:klt key a b):key a<=key b:=by unfold klt at h;lia
abbrev pat(p:Array Nat)(k:Nat):Nat:=p.getD k 0
theorem Wk{p:Array Nat}(hj:j<=p.size)(k:Nat):pat (kas_rev p i j) k=if i<=k/\k<j then pat p (i+j - 1 - k) else pat p k:=by
 have e:=getElem?_mirror_all (i:=i) hj k;unfold pat kas_rev;rw[Zya,e];by_cases h1:i<=k/\k<j
 ·rw[FZ h1,FZ h1,Zya]
 ·rw[FY h1,FY h1,Zya]
theorem y8{p:Array Nat}{src d:Nat}(hs:src<p.size)(hd:d<=src)(k:Nat):pat (bubble p src d) k=if k=src - d then pat p src else if src - d<k/\k<=src then pat p (k - 1) else pat p k:=by
 have e:=getElem?_bubble hs d hd k;unfold pat;rw[Zya,e];by_cases h1:k=src - d
 ·rw[FZ h1,FZ h1,Zya]
 ·rw[FY h1,FY h1];by_cases h2:src - d<k/\k<=src
  ·rw[FZ h2,FZ h2,Zya]
  ·rw[FY h2,FY h2,Zya]
theorem Rv(p:Array Nat)(i j:Nat):(kas_rev p i j).size=p.size:=mirror_size _ _ _ _
theorem Rw(p:Array Nat)(i j:Nat):(kas_rev p i j).toList.Perm p.toList:=Array.perm_iff_toList_perm.mp (mirror_perm _ _ _ _)
structure Srt(n:Nat)(key:Nat->Int)(p:Array Nat)(m:Nat):Prop where
 sz:p.size=n
 pm:p.toList.Perm (Zyi n)
 up:∀i j,i<j->j<m->klt key (pat p i) (pat p j)
 fix:∀k,m<=k->k<n->pat p k=k
 low:∀k,k<m->pat p k<m
theorem Srt.lt{p:Array Nat}(h:Srt n key p m){k:Nat}(hm:m<=n)(hk:k<n):pat p k<n:=by
 by_cases z:k<m
 ·have:=h.low k z;lia
 ·rw[h.fix k (by lia) hk];exact hk
theorem dr:∀(f:Nat) {p:Array Nat} {m:Nat},Srt n key p m->1<=m->m+f=n->Ej n key (kas_asc p f m) λm'=>m<=m'/\m'<=n/\Srt n key p m'/\(m'<n->key (pat p m')<key (pat p (m' - 1)))
 |0,p,m,h,h1,h2=>⟨Zzq _,by lia,h,λz=>by lia⟩
 |f+1,p,m,h,h1,h2=>by
  refine⟨h.lt (by lia) (by lia),h.lt (by lia) (by lia),?_⟩;show Ej n key (if decide (key (pat p m)<key (pat p (m - 1)))=true then _ else _) _;by_cases c:key (pat p m)<key (pat p (m - 1))
  ·rw[FW c,FZ rfl];exact⟨Zzq _,by lia,h,λ_=>c⟩
  ·rw[FX c,FY (by decide)];have e:=h.fix m (Zzq _) (by lia);have h':Srt n key p (m+1):=⟨h.sz,h.pm,λi j hij hj=>by
     by_cases z:j<m
     ·exact h.up i j hij z
     ·have ej:j=m:=by lia
      subst ej
      have l1:klt key (pat p (j - 1)) (pat p j):=by
       have:=h.low (j - 1) (by lia)
       unfold klt
       rw[e] at c ⊢
       lia
      by_cases y:i=j - 1
      ·rw[y];exact l1
      ·exact kn (h.up i (j - 1) (by lia) (by lia)) l1,λk hk hkn=>h.fix k (by lia) hkn,λk hk=>by
     by_cases z:k<m
     ·have:=h.low k z;lia
     ·have ek:k=m:=by lia
      rw[ek,e];lia⟩
   exact Es (λa z0=>by obtain⟨a1,a2,a3,a4⟩:=z0;exact ⟨by lia,a2,a3,a4⟩) (dr f h' (by lia) (by lia))
structure Fal(n:Nat)(key:Nat->Int)(p:Array Nat)(m q:Nat):Prop where
 sz:p.size=n
 pm:p.toList.Perm (Zyi n)
 q1:q+1<=m
 m1:m<=n
 dn:∀i j,i<j->j<m - (q+1)->klt key (pat p j) (pat p i)
 fix:∀k,m - (q+1)<=k->k<n->pat p k=k
 low:∀k,k<m - (q+1)->pat p k<m - (q+1)
 cr:∀i,i<m - (q+1)->key (m - 1)<key (pat p i)
 eq:∀k,m - (q+1)<=k->k<m->key k=key (m - 1)
structure Dwn(n:Nat)(key:Nat->Int)(p:Array Nat)(m:Nat):Prop where
 sz:p.size=n
 pm:p.toList.Perm (Zyi n)
 dn:∀i j,i<j->j<m->klt key (pat p j) (pat p i)
 fix:∀k,m<=k->k<n->pat p k=k
 low:∀k,k<m->pat p k<m
 last:∀i,i<m->key (m - 1)<=key (pat p i)
theorem Fal.turn{p:Array Nat}{q:Nat}(h:Fal n key p m q):Dwn n key (kas_rev p (m - (q+1)) m) m:=by
 have hm:=h.m1;have h1:=h.q1;have pr:=λk=>Wk (p:=p) (i:=m - (q+1)) (j:=m) (by rw[h.sz];exact hm) k;refine⟨by rw[Rv,h.sz],(Rw _ _ _).trans h.pm,λi j hij hj=>?_,λk hk hkn=>?_,λk hk=>?_,λi hi=>?_⟩
 ·have vi1:m - (q+1)<=i->pat (kas_rev p (m - (q+1)) m) i=m - (q+1)+m - 1 - i:=λa=>by rw[pr i,FZ ⟨a,by lia⟩];exact h.fix _ (by lia) (by lia)
  have vi2:¬ m - (q+1)<=i->pat (kas_rev p (m - (q+1)) m) i=pat p i:=λa=>by rw[pr i,FY (λz=>a z.1)]
  have vj1:m - (q+1)<=j->pat (kas_rev p (m - (q+1)) m) j=m - (q+1)+m - 1 - j:=λa=>by rw[pr j,FZ ⟨a,hj⟩];exact h.fix _ (by lia) (by lia)
  have vj2:¬ m - (q+1)<=j->pat (kas_rev p (m - (q+1)) m) j=pat p j:=λa=>by rw[pr j,FY (λz=>a z.1)]
  by_cases a:m - (q+1)<=i
  ·rw[vi1 a,vj1 (by lia)];have e1:=h.eq (m - (q+1)+m - 1 - i) (by lia) (by lia);have e2:=h.eq (m - (q+1)+m - 1 - j) (by lia) (by lia);unfold klt;lia
  ·rw[vi2 a];by_cases b:m - (q+1)<=j
   ·rw[vj1 b];have e2:=h.eq (m - (q+1)+m - 1 - j) (by lia) (by lia);have e3:=h.cr i (by lia);unfold klt;lia
   ·rw[vj2 b];exact h.dn i j hij (by lia)
 ·rw[pr k,FY (by lia)];exact h.fix k (by lia) hkn
 ·rw[pr k];split
  ·rw[h.fix _ (by lia) (by lia)];lia
  ·have:=h.low k (by lia);lia
 ·rw[pr i];split
  ·rw[h.fix _ (by lia) (by lia)];have:=h.eq (m - (q+1)+m - 1 - i) (by lia) (by lia);lia
  ·have:=h.cr i (by lia);lia
theorem Fal.one{p:Array Nat}(h:Fal n key p m 0):Dwn n key p m:=by
 have hm:=h.m1;have h1:=h.q1;have e:=h.fix (m - 1) (by lia) (by lia);refine⟨h.sz,h.pm,λi j hij hj=>?_,λk hk hkn=>h.fix k (by lia) hkn,λk hk=>?_,λi hi=>?_⟩
 ·by_cases z:j=m - 1
  ·rw[z,e];have:=h.cr i (by lia);exact .inl this
  ·exact h.dn i j hij (by lia)
 ·by_cases z:k=m - 1
  ·rw[z,e];lia
  ·have:=h.low k (by lia);lia
 ·by_cases z:i=m - 1
  ·rw[z,e];exact Zz9 _
  ·have:=h.cr i (by lia);lia
theorem Dwn.next{p:Array Nat}(h:Dwn n key p m)(h1:1<=m)(hm:m<n)(c:key m<key (m - 1)):Fal n key p (m+1) 0 :=
 ⟨h.sz,h.pm,by lia,by lia,λi j hij hj=>h.dn i j hij (by lia),λk hk hkn=>h.fix k (by lia) hkn,λk hk=>by have:=h.low k (by lia);lia,λi hi=>by
  have:=h.last i (by lia)
  show key m<_
  lia,λk hk hk2=>by
  have:k=m:=by lia
  subst this
  rfl⟩
theorem Qu:∀(f:Nat) {p:Array Nat} {m q:Nat},Fal n key p m q->m+f=n->Ej n key (kas_desc f p m q) λr=>Fal n key r.1 r.2.1 r.2.2
 |0,p,m,q,h,_=>h
 |f+1,p,m,q,h,hf=>by
  have h1:=h.q1;have e1:=h.fix m (by lia) (by lia);have e2:=h.fix (m - 1) (by lia) (by lia);refine⟨by show pat p m<n;lia,by show pat p (m - 1)<n;lia,?_⟩;show Ej n key (if decide (key (pat p m)<key (pat p (m - 1)))=true then _ else _) _;rw[e1,e2];by_cases c:key m<key (m - 1)
  ·rw[FW c,FZ rfl];by_cases hq:q > 0
   ·rw[FZ hq];exact Qu f (h.turn.next (by lia) (by lia) c) (by lia)
   ·rw[FY hq];have q0:q=0:=by lia
    subst q0;exact Qu f (h.one.next (by lia) (by lia) c) (by lia)
  ·rw[FX c,FY (by decide)];refine⟨by show pat p (m - 1)<n;lia,by show pat p m<n;lia,?_⟩;show Ej n key (if decide (key (pat p (m - 1))<key (pat p m))=true then _ else _) _;rw[e1,e2];by_cases d:key (m - 1)<key m
   ·rw[FW d,FZ rfl];exact h
   ·rw[FX d,FY (by decide)];have ek:key m=key (m - 1):=by lia
    refine Qu f ⟨h.sz,h.pm,by lia,by lia,λi j hij hj=>h.dn i j hij (by lia),λk hk hkn=>h.fix k (by lia) hkn,λk hk=>by have:=h.low k (by lia);lia,λi hi=>by have:=h.cr i (by lia);show key m<_;lia,λk hk hk2=>?_⟩ (by lia);show key k=key m;by_cases z:k=m
    ·rw[z]
    ·rw[ek];exact h.eq k (by lia) (by lia)
theorem ee{p:Array Nat}(h:Dwn n key p m)(h1:1<=m)(hm:m<=n):Ej n key (kas_tail3 m n p) λr=>1<=r.1/\r.1<=n/\Srt n key r.2 r.1:=by
 have pr:=λk=>Wk (p:=p) (i:=0) (j:=m) (by rw[h.sz];exact hm) k;have hs:Srt n key (kas_rev p 0 m) m:=by
  refine⟨by rw[Rv,h.sz],(Rw _ _ _).trans h.pm,λi j hij hj=>?_,λk hk hkn=>?_,λk hk=>?_⟩
  ·rw[pr i,pr j,FZ ⟨by lia,by lia⟩,FZ ⟨by lia,by lia⟩];exact h.dn _ _ (by lia) (by lia)
  ·rw[pr k,FY (by lia)];exact h.fix k hk hkn
  ·rw[pr k,FZ ⟨by lia,hk⟩];exact h.low _ (by lia)
 exact G0 (Es (λa z0=>by obtain⟨a1,a2,a3,_⟩:=z0;exact ⟨by show 1<=a;lia,a2,a3⟩) (dr (n - m) hs h1 (by lia)))
theorem gn{p:Array Nat}(h:Fal n key p (m+1) 0):Ej n key (kas_descPart m n p) λr=>1<=r.1/\r.1<=n/\Srt n key r.2 r.1:=by
 have:=h.m1;refine G0 (Es (λr hr=>?_) (Qu (n - (m+1)) h (by lia)));have r1:=hr.q1;have r2:=hr.m1;by_cases z:r.2.2 > 0
 ·rw[FZ z];exact ee hr.turn (by lia) r2
 ·rw[FY z];have q0:r.2.2=0:=by lia
  rw[q0] at hr;exact ee hr.one (by lia) r2
theorem Bw{k:Nat}(h:k<n):pat (Zy9 (Zyi n)) k=k:=by
 unfold pat;rw[Zya];simp[h]
theorem vo(h2:2<=n):Ej n key (kas_count n (Zy9 (Zyi n))) λr=>1<=r.1/\r.1<=n/\Srt n key r.2 r.1:=by
 have s0:Srt n key (Zy9 (Zyi n)) 1:=⟨by simp,by simp,λi j hij hj=>by lia,λk _ hk=>Bw hk,λk hk=>by rw[Bw (by lia)];exact hk⟩;refine G0 (Es (λm hm=>?_) (dr (n - 1) s0 (Zzq _) (by lia)));obtain⟨a1,a2,a3,a4⟩:=hm;by_cases z:m=n
 ·rw[FZ (by rw[z];simp)];exact⟨a1,a2,a3⟩
 ·rw[FY (by simpa using z)];have c:=a4 (by lia);rw[Bw (by lia),Bw (by lia)] at c;by_cases y:m > 1
  ·rw[FZ y];have g0:pat (Zy9 (Zyi n)) 0=0:=Bw (by lia);have g1:pat (Zy9 (Zyi n)) (m - 1)=m - 1:=Bw (by lia);refine⟨by show pat (Zy9 (Zyi n)) 0<n;lia,by show pat (Zy9 (Zyi n)) (m - 1)<n;lia,?_⟩;show Ej n key (if decide (key (pat (Zy9 (Zyi n)) 0)<key (pat (Zy9 (Zyi n)) (m - 1)))=true then _ else _) _;rw[g0,g1];by_cases d:key 0<key (m - 1)
   ·rw[FW d,FZ rfl];exact⟨a1,a2,a3⟩
   ·rw[FX d,FY (by decide)];have up:∀i,i<m->key 0<=key i/\key i<=key (m - 1):=λi hi=>by
     constructor
     ·by_cases w:i=0
      ·rw[w];exact Zz9 _
      ·have:=Xl (a3.up 0 i (by lia) hi)
       rw[Bw (by lia),Bw (by lia)] at this;exact this
     ·by_cases w:i=m - 1
      ·rw[w];exact Zz9 _
      ·have:=Xl (a3.up i (m - 1) (by lia) (by lia))
       rw[Bw (by lia),Bw (by lia)] at this;exact this
    have al:∀i,i<m->key i=key (m - 1):=λi hi=>by have:=up i hi;lia
    have pr:=λk=>Wk (p:=Zy9 (Zyi n)) (i:=0) (j:=m) (by simp;lia) k;have dw:Dwn n key (kas_rev (Zy9 (Zyi n)) 0 m) m:=by
     refine⟨by rw[Rv];simp,(Rw _ _ _).trans (by simp),λi j hij hj=>?_,λk hk hkn=>?_,λk hk=>?_,λi hi=>?_⟩
     ·rw[pr i,pr j,FZ ⟨by lia,by lia⟩,FZ ⟨by lia,by lia⟩,Bw (by lia),Bw (by lia)];have e1:=al (0+m - 1 - i) (by lia);have e2:=al (0+m - 1 - j) (by lia);unfold klt;lia
     ·rw[pr k,FY (by lia),Bw hkn]
     ·rw[pr k,FZ ⟨by lia,hk⟩,Bw (by lia)];lia
     ·rw[pr i,FZ ⟨by lia,hi⟩,Bw (by lia)];have:=al (0+m - 1 - i) (by lia);lia
    exact gn (dw.next (by lia) (by lia) c)
  ·rw[FY y];have m1:m=1:=by lia
   subst m1;have dw:Dwn n key (Zy9 (Zyi n)) 1:=⟨by simp,by simp,λi j hij hj=>by lia,λk _ hk=>Bw hk,λk hk=>by rw[Bw (by lia)];exact hk,λi hi=>by
    rw[Bw (by lia)]
    have:i=0:=by lia
    rw[this]
    exact Zz9 _⟩
   exact gn (dw.next (by lia) (by lia) c)
theorem S3{p:Array Nat}{k:Nat}(h:Srt n key p k)(hk:k<n):∀(f l r:Nat),l<=r->r<=k->r - l<=f->(∀i,i<l->key (pat p i)<=key k)->(∀i,r<=i->i<k->key k<key (pat p i))->Ej n key (kas_place p k f l r) λl'=>l'<=k/\(∀i,i<l'->key (pat p i)<=key k)/\∀i,l'<=i->i<k->key k<key (pat p i)
 |0,l,r,h1,h2,h3,h4,h5=>⟨by lia,h4,λi hi=>h5 i (by lia)⟩
 |f+1,l,r,h1,h2,h3,h4,h5=>by
  show Ej n key (if l≥r then _ else _) _;by_cases z:l≥r
  ·rw[FZ z];exact⟨by lia,h4,λi hi=>h5 i (by lia)⟩
  ·rw[FY z];have e:=h.fix k (Zzq _) hk;refine⟨by show pat p k<n;lia,by have:=h.low ((l+r) / 2) (by lia);show pat p ((l+r) / 2)<n;lia,?_⟩;show Ej n key (if decide (key (pat p k)<key (pat p ((l+r) / 2)))=true then _ else _) _;rw[e];have mono:∀i j,i<=j->j<k->key (pat p i)<=key (pat p j):=λi j hij hj=>by
    by_cases y:i=j
    ·rw[y];exact Zz9 _
    ·exact Xl (h.up i j (by lia) hj)
   by_cases c:key k<key (pat p ((l+r) / 2))
   ·rw[FW c,FZ rfl];exact S3 h hk f l ((l+r) / 2) (by lia) (by lia) (by lia) h4 λi hi hik=>by have:=mono _ i hi hik;lia
   ·rw[FX c,FY (by decide)];exact S3 h hk f ((l+r) / 2+1) r (by lia) h2 (by lia) (λi hi=>by have:=mono i ((l+r) / 2) (by lia) (by lia);lia) h5
theorem vz:∀(f:Nat) {p:Array Nat} {k:Nat},Srt n key p k->k+f=n->Ej n key (kas_bin f p k) λp'=>Srt n key p' n
 |0,p,k,h,hf=>by
  have:k=n:=by lia
  subst this;exact h
 |f+1,p,k,h,hf=>by
  refine G0 (Es (λl hl=>?_) (S3 h (by lia) k 0 k (Zyz _) (Zzq _) (by lia) (λi hi=>by lia) (λi hi hik=>by lia)));obtain⟨l1,l2,l3⟩:=hl;have hs:=h.sz;have pb:=λi=>y8 (p:=p) (src:=k) (d:=k - l) (by lia) (by lia) i;have ed:k - (k - l)=l:=by lia
  rw[ed] at pb;have ek:=h.fix k (Zzq _) (by lia);refine vz f ⟨by rw[bubble_size,hs],(Array.perm_iff_toList_perm.mp (bubble_perm _ _ _)).trans h.pm,λi j hij hj=>?_,λi hi hin=>?_,λi hi=>?_⟩ (by lia)
  ·rw[pb i,pb j];by_cases a:i=l
   ·rw[FZ a,FY (by lia),FZ ⟨by lia,by lia⟩,ek];have:=l3 (j - 1) (by lia) (by lia);exact .inl this
   ·rw[FY a];by_cases b:j=l
    ·rw[FZ b,FY (by lia),ek];have h1:=l2 i (by lia);have h2:=h.low i (by lia);unfold klt;lia
    ·rw[FY b];by_cases c:l<i
     ·rw[FZ ⟨c,by lia⟩,FZ ⟨by lia,by lia⟩];exact h.up (i - 1) (j - 1) (by lia) (by lia)
     ·rw[FY (λz=>c z.1)];by_cases d:l<j
      ·rw[FZ ⟨d,by lia⟩];exact h.up i (j - 1) (by lia) (by lia)
      ·rw[FY (λz=>d z.1)];exact h.up i j hij (by lia)
  ·rw[pb i,FY (by lia),FY (by lia)];exact h.fix i (by lia) hin
  ·rw[pb i];split
   ·rw[ek];lia
   ·split
    ·have:=h.low (i - 1) (by lia);lia
    ·have:=h.low i (by lia);lia
theorem fg(h2:2<=n):Ej n key (kas_sort n) λp=>Srt n key p n:=by
 refine G0 (Es (λr hr=>?_) (vo h2));obtain⟨r1,r2,r3⟩:=hr;by_cases z:r.1<n
 ·rw[FZ z];have e:max r.1 1=r.1:=by lia
  rw[e];exact vz _ r3 (by lia)
 ·rw[FY z];have e:r.1=n:=by lia
  rw[e] at r3;exact r3
theorem Sw{α:Type}{Qp:α->Prop}{Q:α->Shared->Prop}(hc:∀i j (C:Bool->Shared->Prop),i<n->j<n->C (decide (key i<key j)) s->cmp i j C s)(hq:∀a,Qp a->Q a s):∀{t:KasT α},Ej n key t Qp->t.kasWp cmp Q s
 |.ret _,h=>hq _ h
 |.ask i j k,⟨h1,h2,h3⟩=>hc i j _ h1 h2 (Sw hc hq h3)
def Q3(kz:Str->Int)(xs ys:List Str):Prop:=ys.Perm xs/\ys.Pairwise λa b=>kz a<=kz b
def Jo(kz:Str->Int)(xs ys:List Str):Prop:=∃ps:List Nat,ps.Perm (Zyi xs.length)/\ys=ps.map (λi=>xs.getD i "")/\ps.Pairwise (klt λi=>kz (xs.getD i ""))
theorem Ry(xs:List Str):(Zyi xs.length).map (λi=>xs.getD i "")=xs:=by
 apply Zxf;intro i;by_cases hi:i<xs.length
 ·rw[Zzy,List.getElem?_range hi,Zzr hi];simp[Zzp,hi]
 ·rw[Zyt (by simp;lia),Zyt (by lia)]
theorem Ci{xs:List Str}(h:Jo kz xs ys):Q3 kz xs ys:=by
 obtain⟨ps,h1,rfl,h2⟩:=h;refine⟨?_,?_⟩
 ·have:=h1.map (λi=>xs.getD i "")
  rw[Ry] at this;exact this
 ·rw[List.pairwise_map];exact h2.imp λ{a b} hab=>Xl hab
theorem bb{xs:List Str}(h:ys.Perm xs)(hl:xs.length<2):Jo kz xs ys:=by
 refine⟨Zyi xs.length,List.Perm.refl _,?_,?_⟩
 ·rw[Ry];match xs,hl with
  |[],_=>exact List.perm_nil.mp h
  |[x],_=>exact List.perm_singleton.mp h
 ·rw[Zww];intro i j hi hj hij;rw[Zvu] at hi hj;lia
theorem ph{p:Array Nat}(h:Srt n key p n):p.toList.Pairwise (klt key):=by
 rw[Zww];intro i j hi hj hij;rw[Zxq,h.sz] at hi hj;have:=h.up i j hij hj;unfold pat at this;rw[Zya,Zya,Zyc (by rw[h.sz];exact hi),Zyc (by rw[h.sz];exact hj)] at this;simpa using this
theorem gv(x:AJ P w H h a o):∃ob,h.get? a=some ob:=by
 cases o with
 |lst xs=>obtain⟨_,_,_,_,e⟩:=x;exact⟨_,e⟩
 |tup xs=>obtain⟨_,_,_,o,e,_⟩:=x;exact⟨_,e⟩
 |dK kvs=>obtain⟨_,_,_,_,o,_,_,e,_⟩:=x;exact⟨_,e⟩
 |dT kvs=>obtain⟨_,_,_,_,o,_,_,e,_⟩:=x;exact⟨_,e⟩
 |set S n=>obtain⟨o,_,_,_,e,_⟩:=x;exact⟨_,e⟩
 |ins C dx fs=>obtain⟨_,_,_,e,_⟩:=x;exact⟨_,e⟩
 |own y=>exact x
 |xd fs=>obtain⟨_,⟨_,_,_,e,_⟩,_⟩:=x;exact⟨_,e⟩
 |rng lo hi=>obtain⟨_,_,_,e⟩:=x;exact⟨_,e⟩
 |frz o u=>obtain⟨e,_⟩:=x;exact⟨_,e⟩
 |tbl ps=>exact⟨_,x⟩
 |met f y=>exact⟨_,x⟩
 |ext φ=>obtain⟨_,e,_⟩:=x;exact e
noncomputable def aq(c:Addr)(q:Str):HO:=.ext λh=>h.CodeRec (.ref c) q
theorem vt{c:Addr}(x:h.CodeRec (.ref c) q):AJ P w H h c (aq c q):=by
 obtain⟨c',o,vs,t,e,ho,r⟩:=id x;cases e;refine⟨x,⟨o,ho⟩,λh1 h2 y k=>?_⟩;obtain⟨c2,o2,vs2,t2,e2,g2,r2⟩:=y;cases e2;exact⟨c,o2,vs2,t2,rfl,k _ g2,r2⟩
theorem vw{c:Addr}(ok:HOk P w H h)(e:H c=some (aq c q)):h.CodeRec (.ref c) q:=(ok c _ e).1
def BS(H:Hp)(P:Addr)(pos:Pos)(q:Str):Prop:=H P=some (.tbl #[])\/∃c,H P=some (.tbl #[rawInt pos.line,rawInt pos.col,.ref c])/\H c=some (aq c q)
theorem BS.same{P:Addr}(t:BS H P pos q)(s:AA H H'):BS H' P pos q:=t.elim (λe=>.inl (s _ _ e)) (λz0=>by obtain⟨c,e,e2⟩:=z0;exact .inr ⟨c,s _ _ e,s _ _ e2⟩)
def Ma(mg:Str->Option Value)(base:Heap):Prop:=∃bm ob,mg "__builtins__" = some (.ref bm)/\bm≠builtinsNs/\bm≠mainGlobals/\base.get? bm=some ob/\ob.cls=.type "module" /\ ob.dict=some builtinsNs/\ob.data=.plain
theorem ug{P c:Addr}{body:Expr}{clos:List (Str×Addr)}
  (I:Inv X pins Z H s) (hcd:X.env.code=.ref c) (hC:codeHdIn X.K c P=true) (hB:Ma X.mg X.base) (t:BS H P pos (X.env.qual ++ "<lambda>")) (hdef:defaultsOf params X.env=([],[])) (hcl:closureFor scope X.env=pure clos)
  (h:∀f c' ctv H' s',Inv X pins Z H' s'->s'.heap.get? f=some (kla_obj "<lambda>" (X.env.qual ++ "<lambda>") params body scope clos ((X.mg "__name__").getD .none) c' ctv)->H' f=none->H' c'=some (aq c' (X.env.qual ++ "<lambda>"))->BS H' P pos (X.env.qual ++ "<lambda>")->But P H H'->Q (.ref f) s') :
  wpAny (model X.prog X.w) X.A (eval (.Lambda params body scope pos) X.env) Q X.xe s:=by
 refine kla_eval hdef ?_;have hHP:∃u,H P=some u:=t.elim (λe=>⟨_,e⟩) (λz0=>by obtain⟨c,e,_⟩:=z0;exact ⟨_,e⟩);obtain⟨u,hu⟩:=hHP;have neP:∀b o,X.base.get? b=some o->b≠P:=λb o e z=>by rw[z] at e;rw[(I.bs P o e).2] at hu;cases hu
 have C:CodeHd s.heap c P:=codeHd_of_K I.kIn hC;have hg:s.heap.Ns mainGlobals X.mg:=I.ok.mod.glob.keeps I.bk;have hgP:mainGlobals≠P:=by obtain⟨o,es,ep,e,_⟩:=I.ok.mod.glob;exact neP _ _ e
 have hb:s.heap.BuiltinsAt X.mg P:=by
  obtain⟨bm,ob,b1,b2,b3,b4,b5⟩:=hB;exact⟨bm,ob,b1,b2,b3,neP _ _ b4,I.bk _ _ b4,b5⟩
 rcases t with e | ⟨c',e,ec⟩
 ·have hP:s.heap.get? P=some (tabObj #[]):=I.hok P _ e
  refine kla_makeFunction (ps:=#[]) hcl I.ok.glob hg hcd C hP trivial rfl hgP hb λc' ctv h' tk hx hge hlt hrec htb=>?_;have hc0:H c'=none:=I.hok.fresh hge;have cP:c'≠P:=λz=>by rw[z,hu] at hc0;cases hc0
  have k:∀b o,b≠P->s.heap.get? b=some o->(h'.push (kla_obj "<lambda>" (X.env.qual ++ "<lambda>") params body scope clos ((X.mg "__name__").getD .none) c' ctv)).get? b=some o:=λb o nb eb=>Zzx _ (hx b o nb eb);have hsz:s.heap.objs.size<=h'.objs.size:=by lia
  have hf:H h'.objs.size=none:=I.hok.fresh hsz;have cf:h'.objs.size≠c':=Zxt hlt;have fP:h'.objs.size≠P:=λz=>by rw[z,hu] at hf;cases hf
  refine h h'.objs.size c' ctv (upd (upd H P (.tbl #[rawInt pos.line,rawInt pos.col,.ref c'])) c' (aq c' (X.env.qual ++ "<lambda>"))) _ (I.un (t':=tk) ⟨λb o eb n _ _=>k b o (λz=>by rw[z,hu] at n;cases n) eb,λb o eb n _ _=>⟨o.slots,k b o (λz=>by rw[z,hu] at n;cases n) eb⟩,λb o eb n _=>?_,λb o eb _=>?_,λb xs eb=>?_,λb o u' eb=>?_,λb ps eb=>?_⟩ λb v eb=>?_) (Zzj _ rfl) ?_ A0 ?_ ?_
  ·rw[Ab (Zz2 (Zz3 (Zzg eb) hge)),Ab (λz=>by rw[z,hu] at n;cases n)];exact n
  ·by_cases z:b=P
   ·rw[z];exact⟨_,Zzx _ htb⟩
   ·exact⟨o,k b o z eb⟩
  ·rw[Ab (A5 eb hc0),Ab (λz=>by rw[z,e] at eb;cases eb)];exact eb
  ·rw[Ab (A5 eb hc0),Ab (λz=>by rw[z,e] at eb;cases eb)];exact eb
  ·by_cases z:b=P
   ·subst z;rw[e] at eb;cases eb;exact⟨#[rawInt pos.line,rawInt pos.col,.ref c'],by rw[Ab (Zzi cP),A0];simp⟩
   ·exact⟨#[],by rw[Ab (A5 eb hc0),Ab z,eb];simp⟩
  ·by_cases z:b=c'
   ·subst z;rw[A0] at eb;cases eb;exact vt (hrec.push _)
   ·rw[Ab z] at eb;by_cases z2:b=P
    ·subst z2;rw[A0] at eb;cases eb;exact Zzx _ htb
    ·rw[Ab z2] at eb;refine(I.hok b v eb).stay (λb' u' hb' q=>k b' u' (λz3=>?_) q) (λb' q=>?_) λb' xs q=>?_
     ·rcases hb' with r | r
      ·exact z2 (r.symm.trans z3)
      ·rw[z3,e] at r;cases r
     ·rw[Ab (A5 q hc0),Ab (λz3=>by rw[z3,e] at q;cases q)];exact q
     ·rw[Ab (A5 q hc0),Ab (λz3=>by rw[z3,e] at q;cases q)];exact q
  ·rw[Ab cf,Ab fP];exact hf
  ·exact .inr ⟨c',by rw[Ab (Zzi cP),A0],A0⟩
  ·exact λb o nb eb=>by rw[Ab (A5 eb hc0),Ab nb];exact eb
 ·have hP:s.heap.get? P=some (tabObj #[rawInt pos.line,rawInt pos.col,.ref c']):=I.hok P _ e
  refine kla_makeFunctionHit (cv:=.ref c') hcl I.ok.glob hg hcd C hP trivial (by simp[codeAmong,rawInt]) hb λctv h' tk hk hsz=>?_;have k:∀b o,s.heap.get? b=some o->(h'.push (kla_obj "<lambda>" (X.env.qual ++ "<lambda>") params body scope clos ((X.mg "__name__").getD .none) c' ctv)).get? b=some o:=λb o eb=>Zzx _ (hk b o eb);exact h h'.objs.size c' ctv H _ (I.kept (t':=tk) k) (Zzj _ rfl) (I.hok.fresh hsz) ec (.inr ⟨c',e,ec⟩) (But.refl _ _)
theorem yr{c' d cc:Addr}{lv:Str}{p1 p2 p3:Pos}{pm ctv:Value}{k:Int}{t t0:Tok}{vs:List (Key×Value)}
  (hf:s.heap.get? f=some (kla_obj "<lambda>" q params (.Subscript (.Name lv p1) (.Name nm p2) p3) scope [(lv,cc)] pm c' ctv)) (hrec:s.heap.CodeRec (.ref c') q) (hcell:s.heap.IsCell cc (some (.ref d))) (hd:s.heap.DictOf (Bm prog w) d vs) (hv:valueAt vs (.inr x)=some (.int k t))
  (hroom:A.depth<recursionLimit) (hlim:s.heap.NoLimit) (hsc:scope.kind=.function/\scope.isCoroutine=false/\scope.isGenerator=false/\scope.names.lookup nm=some .local/\scope.names.lookup lv=some .free/\∀x∈scope.names,x.2≠.cell)
  (hbind:bindArgs (kla_fn "<lambda>" q params (.Subscript (.Name lv p1) (.Name nm p2) p3) scope [(lv,cc)] pm (.ref c') ctv) ⟨[.str x t0],[]⟩=pure [(nm,.str x t0)]) (hn1:(nm == ("__debug__" : Str))=false:=by decide) (hn2:(lv == ("__debug__" : Str))=false:=by decide) (hn3:(lv == ("__classdict__" : Str))=false:=by decide) :
  wpAny (model prog w) A (call (.ref f) [.str x t0]) (λv s'=>∃h' tk t',s'={s with heap:=h',toks:=tk}/\v=.int k t'/\∀b o,s.heap.get? b=some o->h'.get? b=some o) (λ_ _=>False) s:=by
 obtain⟨k1,k2,k3,k4,k5,k6⟩:=hsc;refine wpAny_call (kla_callFunE hroom hf rfl k2 k3 rfl hrec ?_);rw[hbind];refine GB (wpAny_newFunctionEnv k6 (λy hy=>?_) (λh₁ hns hsb=>?_) k1)
 ·rw[Zzc.mp hy];exact k4
 have hk:∀b o,s.heap.get? b=some o->h₁.get? b=some o:=λb o e=>hsb.extBut b o (Zz2 (Zzg e)) (Zzx _ e);refine⟨hlim.fresh _ hsb,kla_codeExpr ?_⟩;have hd1:h₁.DictOf (Bm prog w) d vs:=by
  obtain⟨o,es,ep,ho,r⟩:=hd;exact⟨o,es,ep,hk _ _ ho,r⟩
 have hc1:h₁.IsCell cc (some (.ref d)):=by
  obtain⟨o,ho,r⟩:=hcell;exact⟨o,hk _ _ ho,r⟩
 refine wpAny_Subscript_Name (T := "dict") F.slot_dict_getitem.lookup (wpAny_Name (wpAny_loadName_free k1 k5 (c:=cc) (by simp[newEnv]) hc1 (wpAny_Name (wpAny_loadName_local k1 k4 hns (v:=.str x t0) (by simp) ⟨hd1.typeIs,?_⟩) hn1) hn3) hn2);refine wpAny_getItem_of (knd:=Bm prog w) (k:=.inr x) ?_ hd1.mapOf hv ?_
 ·exact Va (k:=.inr x) ⟨t0,rfl⟩
 ·exact⟨_,_,_,rfl,rfl,hk⟩
noncomputable def AL:Value->Str
 |.str x _=>x
 |_ => ""
theorem my{xs:List Str}(r:AC (xs.map V.str) us):us.map AL=xs/\∀u∈us,∃t,u=.str (AL u) t:=by
 induction xs generalizing us with
 |nil=>cases r;exact⟨rfl,λ_ h=>nomatch h⟩
 |cons x xs ih =>
  cases r with
  |cons r1 r2 =>
   obtain⟨t,rfl⟩:=r1;obtain⟨e,h⟩:=ih r2;refine⟨by rw[Zza,e];rfl,λu hu=>?_⟩;rcases Zzs.mp hu with z | z
   ·rw[z];exact⟨t,rfl⟩
   ·exact h u z
theorem P6:∀{us:List Value},(∀u∈us,∃t,u=.str (AL u) t)->AC ((us.map AL).map V.str) us
 |[],_=>.nil
 |u::us,h=>by
  obtain⟨t,e⟩:=h u Zzm;exact .cons ⟨t,e⟩ (P6 λv hv=>h v (Zzl _ hv))
theorem Jv:∀{vs:List Value} {ns:List Int} {i:Nat} {n:Int},IntsAre vs ns->ns[i]?=some n->∃t,vs[i]?=some (.int n t)
 |_,_,i,n,.nil,e=>by simp at e
 |_,_,0,n,.cons k t _,e=>by
  have:k=n:=by simpa using e
  subst this;exact⟨t,rfl⟩
 |_,_,i+1,n,.cons _ _ r,e=>by
  obtain⟨t,h⟩:=Jv (i:=i) r (by simpa using e);exact⟨t,by simpa using h⟩
theorem du:∀{us:List Value} {p:Int×Value},p∈((us.map AL).map kz).zip us->p.2∈us/\p.1=kz (AL p.2)
 |[],p,h=>by simp at h
 |u::us,p,h=>by
  rw[Zza,Zza,List.zip_cons_cons] at h;rcases Zzs.mp h with z | z
  ·rw[z];exact⟨Zzm,rfl⟩
  ·obtain⟨h1,h2⟩:=du z;exact⟨Zzl _ h1,h2⟩
theorem jh{out:List Value}(h:KskOut false ((us.map AL).map kz) us out):(∀u∈out,u∈us)/\Q3 kz (us.map AL) (out.map AL):=by
 obtain⟨ps,hp,rfl,hs⟩:=h;have hz:∀p∈ps,p.2∈us/\p.1=kz (AL p.2):=λp hm=>du (hp.mem_iff.mp hm);refine⟨λu hu=>?_,?_,?_⟩
 ·obtain⟨p,hm,rfl⟩:=Zzv.mp hu;exact(hz p hm).1
 ·have e:(((us.map AL).map kz).zip us).map (λp=>AL p.2)=us.map AL:=by
   have:(((us.map AL).map kz).zip us).map Prod.snd=us:=List.map_snd_zip (by simp);have h2:=congrArg (Zyo AL) this;rw[Zz1] at h2;exact h2
  rw[Zz1,<- e];exact hp.map _
 ·rw[Zz1,List.pairwise_map];refine hs.imp_of_mem λ{a b} ha hb hab=>?_;have hab:a.1<=b.1:=hab;rw[(hz a ha).2,(hz b hb).2] at hab;exact hab
def K0(P:Addr)(pos:Pos)(q:Str)(i:Nat)(Z:St)(Q:VK)(x:V)(H1:Hp):Prop:=∃(l:Addr) (xs:List Str) (d:Addr) (kvs:List (Key×V)) (kz:Str->Int),x=.ref l/\H1 l=some (.lst (xs.map V.str))/\xs.length<64/\Z[i]?=some (some (.ref d))/\H1 d=some (.dK kvs) /\
 (∀x∈xs,Cy kvs (.inr x)=some (.int (kz x)))/\BS H1 P pos q/\∀r ys H2,H1 r=none->H2 r=some (.lst (ys.map V.str))->Q3 kz xs ys->Jo kz xs ys->BS H2 P pos q->But P H1 H2->Q (.ref r) H2
def Rb(P:Addr)(pos:Pos)(q:Str)(i:Nat)(te:TE):TE:=λZ H Q=>te Z H (K0 P pos q i Z Q)
theorem qv{p1 p2 kp lp q1 q2 q3:Pos}{k:Nat}{lv:Str}{P c:Addr}(hg:Gl X "sorted")(hm:X.mg "sorted" = none)(he:PE X e te)(hr:AM k X.A)
  (hcd:X.env.code=.ref c) (hC:codeHdIn X.K c P=true) (hB:Ma X.mg X.base) (hdef:defaultsOf params X.env=([],[])) (hN:X.N[i]?=some lv) (hlv:X.env.scope.names.lookup lv=some .cell) (hcl:∀cc,X.env.cells.lookup lv=some cc->closureFor scope X.env=pure [(lv,cc)])
  (hsc:scope.kind=.function/\scope.isCoroutine=false/\scope.isGenerator=false/\scope.names.lookup nm=some .local/\scope.names.lookup lv=some .free/\∀x∈scope.names,x.2≠.cell)
  (hbind:∀(cc c':Addr) (pm ctv v:Value),bindArgs (kla_fn "<lambda>" (X.env.qual ++ "<lambda>") params (.Subscript (.Name lv q1) (.Name nm q2) q3) scope [(lv,cc)] pm (.ref c') ctv) ⟨[v],[]⟩=pure [(nm,v)])
  (hn1:(nm == ("__debug__" : Str))=false:=by decide) (hn2:(lv == ("__debug__" : Str))=false:=by decide) (hn3:(lv == ("__classdict__" : Str))=false:=by decide) (hn:Cm [e]=true:=by rfl) :
  PE X (.Call (.Name "sorted" p1) [e] [⟨some "key",.Lambda params (.Subscript (.Name lv q1) (.Name nm q2) q3) scope lp,kp⟩] p2) (Rb P lp (X.env.qual ++ "<lambda>") i te):=by
 intro pins s Z H Q I h;refine wpAny_Call_Name_kw (Er I hg hm NP.Vx ?_ (by decide) (by decide));have hx:∃cc,X.env.cells.lookup lv=some cc:=I.ok.has lv (.inl hlv);obtain⟨cc,hcc⟩:=hx;refine callWith_kw (thn ((A3 he A1 hn) p2 pins s Z H (λvs H1=>match vs with | [x]=>K0 P lp (X.env.qual ++ "<lambda>") i Z Q x H1 | _=>False) I h) λus s1 ⟨vs,H1,I1,r1,hv⟩=>?_) ?_ ?_ rfl rfl
 ·match vs,hv,r1 with
  |[x],⟨l,xs,d,kvs,kz,ex,hl,h64,hσ,hd,hval,tb,q⟩,r1 =>
  subst ex;obtain⟨u,rfl,ru⟩:=Fc r1;cases ru;refine kws_cons (ug I1 hcd hC hB tb hdef (hcl cc hcc) λf c' ctv H' s2 I2 hf Hf hc' tb' bt=>kws_nil ?_);have hPs:∃u,H1 P=some (.tbl u):=tb.elim (λe=>⟨_,e⟩) (λz0=>by obtain⟨c,e,_⟩:=z0;exact ⟨_,e⟩);obtain⟨pt,hPt⟩:=hPs;have hl2:H' l=some (.lst (xs.map V.str)):=bt _ _ (λz=>by rw[z,hPt] at hl;cases hl) hl;have hd2:H' d=some (.dK kvs):=bt _ _ (λz=>by rw[z,hPt] at hd;cases hd) hd;obtain⟨its,rv,hil,hlt⟩:=Av I2 hl2;obtain⟨eit,hit⟩:=my rv;obtain⟨m,F⟩:=I2.fr;obtain⟨zd,nd,dv,rel,hdd⟩:=I2.hok d _ hd2;have hcell:s2.heap.IsCell cc (some (.ref d)):=by
   obtain⟨m',hn',hl'⟩:=I2.loc;obtain⟨u,ru,lk⟩:=hl' i lv (.ref d) hN hσ (.inr (.inl hlv));cases ru;rcases lk with ⟨hk,_⟩ | ⟨_,c2,e2,e3⟩
   ·have hk:X.env.scope.names.lookup lv=some .local:=hk
    rw[hlv] at hk;cases hk
   ·rw[hcc] at e2;cases e2;exact e3
  have hrec:s2.heap.CodeRec (.ref c') (X.env.qual ++ "<lambda>"):=vw I2.hok hc';have nL:∀b o,s2.heap.get? b=some o->(∀es ep,o.data≠.dict es ep)->b≠X.env.locals:=λb o e n z=>by
   obtain⟨oL,es,ep,e2,d2,_⟩:=F.ns;rw[<- z,e] at e2;cases e2;exact n _ _ d2
  have keepA:∀(h:Heap) (own:List (Addr×Obj)),Fr X.base X.env.locals h m->News X.base X.env.locals h (Em X.base s2.heap X.env.locals++own)->∀b o,b≠X.env.locals->s2.heap.get? b=some o->h.get? b=some o:=λh own F' N' b o nb e=>by
   cases z:X.base.get? b with
   |some u =>
    have:=I2.bk b u z;rw[e] at this;cases this;exact F'.keep b _ z
   |none=>exact(N' (b,o) (Zx9 _ (Gp nb z e))).1
  have hil2:its.length=xs.length:=by have:=rv.length;rw[Zzz] at this;exact this.symm
  have step:∀(v:Value),v∈its->∀(h:Heap) (tk:Nat) (own:List (Addr×Obj)),Fr X.base X.env.locals h m->News X.base X.env.locals h (Em X.base s2.heap X.env.locals++own) ->
    wpAny (model X.prog X.w) X.A.in1.in1 (call (.ref f) [v]) (λv' s'=>∃h' tk' t',s'={s2 with heap:=h',toks:=tk'}/\v'=.int (kz (AL v)) t'/\∀b o,h.get? b=some o->h'.get? b=some o) (λ_ _=>False) {s2 with heap:=h,toks:=tk}:=by
   intro v hvm h tk own F' N';obtain⟨t,ev⟩:=hit v hvm;have hmem:AL v∈xs:=by rw[<- eit];exact Zzv.mpr ⟨v,hvm,rfl⟩
   have kp:=keepA h own F' N';obtain⟨w',hw,rw'⟩:=AZ.some_of (v:=.int (kz (AL v))) (o:=valueAt dv (.inr (AL v))) (by have:=rel.val (.inr (AL v));rw[hval _ hmem] at this;exact this);obtain⟨tk',ew⟩:=rw';subst ew;have dL:d≠X.env.locals:=λz=>by rw[z,I2.free] at hd2;cases hd2
   have cL:cc≠X.env.locals:=I2.cne lv cc hcc;have fL:f≠X.env.locals:=nL f _ hf (λes ep z=>by cases z);have c'L:c'≠X.env.locals:=λz=>by rw[z,I2.free] at hc';cases hc'
   have hroom:X.A.depth<recursionLimit:=by have:=hr.dp;lia
   have hk1:=yr (prog:=X.prog) (w:=X.w) (A:=X.A.in1.in1) (s:={s2 with heap:=h,toks:=tk}) (nm:=nm) (lv:=lv) (x:=AL v) (k:=kz (AL v)) (t:=tk') (t0:=t) (vs:=dv) (kp f _ fL hf) (by
    obtain⟨c2,o,vs,t2,e1,e2,r⟩:=hrec
    cases e1
    exact⟨c',o,vs,t2,rfl,kp _ _ c'L e2,r⟩) (by
    obtain⟨o,e1,r⟩:=hcell
    exact⟨o,kp _ _ cL e1,r⟩) (by
    obtain⟨o,es,ep,e1,r⟩:=hdd
    exact⟨o,es,ep,kp _ _ dL e1,r⟩) hw hroom (I2.ok.mod.nolimit.keeps F'.keep) hsc (hbind cc c' _ ctv _) hn1 hn2 hn3
   rw[<- ev] at hk1;exact hk1
  have fin:∀(D:Addr) (h':Heap) (tk:Nat) (out:Array Value) (c:Nat),Fr X.base X.env.locals h' m->News X.base X.env.locals h' ((D,seqObj "list" out c)::Em X.base s2.heap X.env.locals)->(∀q∈Em X.base s2.heap X.env.locals,q.1<D)->(∀u∈out.toList,u∈its)->Jo kz xs (out.toList.map AL)->EP X pins Z Q (.ref D) {s2 with heap:=h',toks:=tk}:=by
   intro D h' tk out c F' N' hlt2 hsub hstab;have hsort:=Ci hstab;have hD:=N' (D,seqObj "list" out c) Zzm;have N2:News X.base X.env.locals h' (Em X.base s2.heap X.env.locals++[]):=λp hp=>N' p (Zzl _ (by rw[Zz6] at hp;exact hp));have kp:=keepA h' [] F' N2;have tL:∀b u,H' b=some u->b≠X.env.locals:=λb u e z=>by rw[z,I2.free] at e;cases e
   have neD:∀b o,s2.heap.get? b=some o->b≠D:=λb o e z=>by
    by_cases hb:b=X.env.locals
    ·exact hD.2.1 (z.symm.trans hb)
    ·cases y:X.base.get? b with
     |some u=>rw[z] at y;rw[hD.2.2] at y;cases y
     |none=>exact absurd (hlt2 (b,o) (Gp hb y e)) (by rw[z];exact Zwl _)
   have HD:H' D=none:=by
    cases y:H' D with
    |none=>rfl
    |some u =>
     obtain⟨o,e⟩:=(show ∃o,s2.heap.get? D=some o from gv (I2.hok D u y));exact absurd rfl (neD D o e)
   have vs2:AC ((out.toList.map AL).map V.str) out.toList:=P6 λu hu=>hit u (hsub u hu);have hlen:(out.toList.map AL).length=xs.length:=hsort.1.length_eq;have I3:Inv X pins Z (upd H' D (.lst ((out.toList.map AL).map V.str))) {s2 with heap:=h',gens:=s2.gens,drawn:=s2.drawn,toks:=tk}:=by
    refine I2.step (g':=s2.gens) (d':=s2.drawn) (ch:=[]) (λ_ z=>nomatch z) (λb o nb _ _ e _=>kp b o nb e) (λb o nb _ _ e _=>⟨o.slots,kp b o nb e⟩) (λb o _ e n=>by rw[Ab (neD b o e)];exact n) (λb o _ e=>?_)
     (λb ys e=>by rw[Ab (A5 e HD)];exact e) (λb o u e=>by rw[Ab (A5 e HD)];exact e) (λb ps e=>⟨#[],by rw[Ab (A5 e HD),e];simp⟩) (λm' hm'=>?_) (λb u e=>?_) I2.bare
    ·by_cases hb:b=X.env.locals
     ·obtain⟨oL,_,_,e2,_⟩:=F'.ns;exact⟨oL,by rw[hb];exact e2⟩
     ·exact⟨o,kp b o hb e⟩
    ·have em:m'=m:=funext λx=>hm'.agree F.ns x
     rw[em];exact F'.ns
    ·by_cases hb:b=D
     ·subst hb;rw[A0] at e;cases e;refine⟨by rw[Zzz,hlen];exact Ag (by lia),out.toList,c,vs2,?_⟩;rw[Zwu];exact hD.1
     ·rw[Ab hb] at e;refine(I2.hok b u e).stay (λb' u' hb' q'=>kp b' u' ?_ q') (λb' q'=>by rw[Ab (A5 q' HD)];exact q') λb' ys q'=>by rw[Ab (A5 q' HD)];exact q'
      rcases hb' with r | r
      ·rw[r];exact tL b u e
      ·exact tL b' _ r
   have H1D:H1 D=none:=by
    cases y:H1 D with
    |none=>rfl
    |some u =>
     have hDP:D≠P:=λz=>by
      have:H' P=none:=by rw[<- z];exact HD
      rcases tb' with e | ⟨_,e,_⟩<;>· rw[this] at e;cases e
     rw[bt _ _ hDP y] at HD;cases HD
   exact⟨.ref D,_,I3,rfl,q D _ _ H1D A0 hsort hstab (tb'.same (A4 HD)) (bt.new HD)⟩
  by_cases h2:2<=its.length
  ·refine kat_sortedK (f:=.ref f) (b:=false) F Sn hil h2 (by lia) (ksk_s1 _ _) (λx=>ksk_l1 _ _) (λx=>ksk_t1 _ _) λD kS e1 h' F' N' hDk hlt2=>?_;have keys:∀(AU ks don:List Value) (e:Nat) (h:Heap) (tk:Nat),its=don++AU->IntsAre ks ((don.map AL).map kz)->Fr X.base X.env.locals h m->News X.base X.env.locals h ((kS,seqObj "list" (Zy9 ks) e)::(D,seqObj "list" #[] e1)::Em X.base s2.heap X.env.locals) ->
     KatKeys X.prog X.w X.A.in1.in1 X.base X.env.locals m kS (.ref f) (λks e s'=>wpAny (model X.prog X.w) X.A.in1.in1 (keyKind' (Zy9 ks)) (λκ s''=>(kas_sort its.length).kasWp (kas_ask X.prog X.w X.A.in1.in1 κ (katRev false ks)) (λp s3=>KatFin X.base X.env.locals m kS D ks e e1 (katRev false (p.toList.map λi=>(katRev false its).getD i Value.none)) (λs4=>EP X pins Z Q (.ref D) s4) s3) s'') (λ_ _=>False) s') AU ks e {s2 with heap:=h,toks:=tk}:=by
    intro AU;induction AU with
    |nil =>
     intro ks don e h tk eq hi Fh Nh;rw[Zz6] at eq;subst eq;have hkl:ks.length=its.length:=by have:=hi.length;rw[Zzz,Zzz] at this;exact this
     show wpAny (model X.prog X.w) X.A.in1.in1 (keyKind' (Zy9 ks)) _ _ _;rw[ksk_kind (keys:=Zy9 ks) (kz:=(its.map AL).map kz) (by simpa using hi) (by simp;lia)];refine GB ?_;have kat:∀i,i<its.length->∃t,ks.getD i Value.none=.int (kz (AL (its.getD i Value.none))) t:=λi hi2=>by
      have h1:((its.map AL).map kz)[i]?=some (kz (AL (its.getD i Value.none))):=by
       rw[Zzy,Zzy,Zzr hi2,Zzp,Zzr hi2];rfl
      obtain⟨t,ht⟩:=Jv hi h1;exact⟨t,by rw[Zzp,ht];rfl⟩
     refine Sw (n:=its.length) (key:=λi=>kz (AL (its.getD i Value.none))) (Qp:=λp=>Srt its.length (λi=>kz (AL (its.getD i Value.none))) p its.length) (λi j C hi2 hj2 hC=>?_) (λp hp=>?_) (fg h2)
     ·obtain⟨t1,e1'⟩:=kat i hi2;obtain⟨t2,e2'⟩:=kat j hj2;show wpAny _ _ (keyLt' oneType' (ks.getD i Value.none) (ks.getD j Value.none)) C _ _;rw[e1',e2'];exact kat_lt_int hC
     ·have nkD:kS≠D:=Zxt hDk
      have nall:∀q∈Em X.base s2.heap X.env.locals,q.1≠kS/\q.1≠D:=λq hq=>by have:=hlt2 q hq;exact⟨Zz2 (Zup this hDk),Zz2 this⟩
      refine KatFin.intro Fh Nh (.head λq hq=>?_) λh3 c3 F3 N3=>KasFin.intro F3 N3 (.tail nkD (.head λq hq=>(nall q hq).2)) λh4 c4 F4 N4=>?_
      ·rcases Zzs.mp hq with z | z
       ·rw[z];exact Zzi nkD
       ·exact(nall q z).1
      ·refine fin D h4 tk (Zy9 (p.toList.map λi=>its.getD i Value.none)) c4 F4 (λq hq=>N4 q (Zzl _ hq)) hlt2 (λu hu=>?_) ?_
       ·have hu:u∈p.toList.map λi=>its.getD i Value.none:=by simpa using hu
        obtain⟨i,hi2,rfl⟩:=Zzv.mp hu;have hi3:i<its.length:=Zx1.mp (hp.pm.mem_iff.mp hi2);rw[Zzp,Zzr hi3];exact Zwc hi3
       ·have exs:∀i,xs.getD i "" = AL (its.getD i Value.none):=λi=>by
         rw[<- eit,Zzp,Zzp,Zzy];cases its[i]?<;>rfl
        refine⟨p.toList,by rw[<- hil2];exact hp.pm,?_,?_⟩
        ·rw[Zz1];exact Zxo λi _=>(exs i).symm
        ·have:(λi=>kz (xs.getD i ""))=λi=>kz (AL (its.getD i Value.none)):=funext λi=>by rw[exs]
         rw[this];exact ph hp
    |cons v r ih =>
     intro ks don e h tk eq hi Fh Nh;have hvm:v∈its:=by rw[eq];simp
     have Nh2:News X.base X.env.locals h (Em X.base s2.heap X.env.locals++[(kS,seqObj "list" (Zy9 ks) e),(D,seqObj "list" #[] e1)]):=λq hq=>by
      rcases Zz4.mp hq with z | z
      ·exact Nh q (Zzl _ (Zzl _ z))
      ·rcases Zzs.mp z with y | y
       ·rw[y];exact Nh _ Zzm
       ·rw[Zzc.mp y];exact Nh _ (Zzl _ Zzm)
     refine KatKeys.cons (wpAny_mono (step v hvm h tk _ Fh Nh2) (λv' s' hh=>?_) (λ_ _ z=>z));obtain⟨h3,tk3,t3,e1',e2',k3⟩:=hh;subst e1' e2';have nkD:kS≠D:=Zxt hDk;refine KatBack.intro (F:=Fh.kept k3) (N:=Nh.grown k3) (U:=.head λq hq=>?_) λh4 c4 F4 N4=>?_
     ·rcases Zzs.mp hq with z | z
      ·rw[z];exact Zzi nkD
      ·have:=hlt2 q z;exact Zz2 (Zup this hDk)
     ·exact ih (ks++[.int (kz (AL v)) t3]) (don++[v]) c4 h4 tk3 (by rw[eq];simp) (by rw[Zzo,Zzo];exact ksk_snoc hi) F4 N4
   exact keys its [] [] 0 h' s2.toks rfl .nil F' N'
  ·refine ksk_sorted (kz:=(its.map AL).map kz) (f:=.ref f) (b:=false) F Sn hil (by simp) (by lia) (ksk_s1 _ _) (λx=>ksk_l1 _ _) (λx=>ksk_t1 _ _) (λj v kk hv hk h tk own F' N'=>?_) (λD h' tk out c F' N' hlt2 hout=>?_)
   ·have ek:kk=kz (AL v):=by
     rw[Zzy,Zzy,hv] at hk;exact(Zzh hk).symm
    subst ek;refine wpAny_mono (step v (Zzu hv) h tk own F' N') (λv' s' hh=>?_) (λ_ _ z=>z);obtain⟨h3,tk3,t3,e1,e2,k3⟩:=hh;subst e1 e2;exact⟨h3,tk3,t3,rfl,rfl,F'.kept k3,N'.grown k3⟩
   ·obtain⟨hsub,hsort⟩:=jh hout;rw[eit] at hsort;exact fin D h' tk out c F' N' hlt2 hsub (bb hsort.1 (by lia))
 ·rw[Ce hn];rfl
 ·exact D3 hn
def A2v(H:Hp)(a Pt:Addr):Prop:=∀b u,H b=some u->(b=Pt/\u=.tbl #[])\/(b=a/\∃o xs,u=.frz o (.lst xs))
theorem Zx{K:Frag}{mb:Str->Option Value}{k:Nat}{fa ct:Addr}{s₁:Shared}
  (KX:K.In s₁.heap) (hns:s₁.heap.Ns mainGlobals mg) (hb:s₁.heap.Ns builtinsNs mb) (hbb:∀x:Str,x ≠ "__name__" -> mb x=bootBuiltins x) (hlim:s₁.heap.NoLimit) (hg:s₁.gens=#[]) (hr:AM k callerA)
  (hT:s₁.heap.TableAt ct Pt #[]) (hBM:Ma mg s₁.heap) (hO:A2v H a Pt) (hHK:∀b u,H b=some u->K.lookup b=none) (ok:HOk P w H s₁.heap)
  (F:∀base:Heap,K.In base->base.Ns mainGlobals mg->Ma mg base->B2 P w K mg base CX0 k fa fd [x] sp) (hbind:∀(s:Shared) (u:Value),BindsTo s fd ⟨[u],[]⟩ [(x,u)])
  (hsp:sp [.ref a] H (λv _=>v=.bl true) λ_ _ _=>False) :
  codeAny (model P w) callerA (.call (.ref fa) ⟨[.ref a],[]⟩) (λr s'=>r=.ok (.ret (.bool true))/\OldK s₁.heap s'.heap/\s'.os=s₁.os/\AllBare s'.gens) s₁:=by
 have noD:∀{b:Addr} {o:Obj},s₁.heap.get? b=some o->(∀vs:Array Value,o.data≠.fields vs)->(∀vs n,o.data≠.seq vs n)->H b=none:=λ{b o} e n1 n2=>by
  cases q:H b with
  |none=>rfl
  |some u =>
   have y:=ok b u q;rcases hO b u q with ⟨_,rfl⟩ | ⟨_,ob,xs,rfl⟩
   ·have y:s₁.heap.get? b=some {cls:=.none,data:=.fields #[]}:=y
    rw[e] at y;cases y;exact absurd rfl (n1 _)
   ·obtain⟨_,_,its,m,_,y3⟩:=y;rw[e] at y3;cases y3;exact absurd rfl (n2 _ _)
 have baseG:∀{b:Addr} {o:Obj},s₁.heap.get? b=some o->H b=none->(U6 s₁.heap H).get? b=some o:=λe n=>uy e n;have nsB:∀{b:Addr} {m:Str->Option Value},s₁.heap.Ns b m->(U6 s₁.heap H).Ns b m:=λ{b m} ⟨o,es,ep,e,d,r⟩=>⟨o,es,ep,baseG e (noD e (λ_ z=>by rw[d] at z;cases z) (λ_ _ z=>by rw[d] at z;cases z)),d,r⟩;have kB:K.In (U6 s₁.heap H):=λb o e=>baseG (KX b o e) (by
  cases q:H b with
  |none=>rfl
  |some u=>rw[hHK b u q] at e;cases e)
 have bB:Ma mg (U6 s₁.heap H):=by
  obtain⟨bm,ob,b1,b2,b3,b4,b5,b6,b7⟩:=hBM;exact⟨bm,ob,b1,b2,b3,baseG b4 (noD b4 (λ_ z=>by rw[b7] at z;cases z) (λ_ _ z=>by rw[b7] at z;cases z)),b5,b6,b7⟩
 have mB:Mod K mg (U6 s₁.heap H):=⟨kB,nsB hns,⟨mb,nsB hb,hbb⟩,by obtain⟨mc,h1,h2⟩:=hlim;exact⟨mc,nsB h1,h2⟩⟩;have e0:DT P w K mg (U6 s₁.heap H) callerA [] s₁ H:=⟨rfl,mB,λb o e=>yh e,Zwo (l8 _ _),trivial,(λb hb=>nomatch (show b∈([]:List Addr) from hb)),ok,.of_eq hg⟩;refine codeAny_mono ((F _ kB (nsB hns) bB).run callerA [] s₁ H ⟨[.ref a],[]⟩ [.ref a] [.ref a] _ _ hr e0 (hbind s₁ (.ref a)) (.cons rfl .nil) hsp) λr s' h=>?_;cases r with
 |error e=>exact h.elim
 |ok fl =>
  cases fl with
  |next=>exact h.elim
  |brk=>exact h.elim
  |cont=>exact h.elim
  |ret u =>
   obtain⟨v,H',os,bare,un,ok',r',q⟩:=h;have q:v=.bl true:=q;subst q;obtain rfl:u=Value.bool true:=r';have old:∀b o,s₁.heap.get? b=some o->asItWas s₁.heap s'.heap b o:=λb o e=>by
    cases y:H b with
    |none=>exact .inl (un.keep b o e y (by intro z;cases z) (by simp))
    |some u =>
     have ob:=ok b u y;rcases hO b u y with ⟨rfl,rfl⟩ | ⟨_,oo,xs,rfl⟩
     ·obtain⟨more,e2⟩:=un.tbls b #[] y;have ob:s₁.heap.get? b=some {cls:=.none,data:=.fields #[]}:=ob;rw[e] at ob;cases ob;have e3:s'.heap.get? b=some {cls:=.none,data:=.fields (#[]++more)}:=ok' b _ e2;exact .inr (.inl ⟨hT.isCodeTable,rfl,#[],more,rfl,e3⟩)
     ·have e2:=un.frzs b oo _ y
      have e3:=(ok' b _ e2).1;have e4:=ob.1;rw[e] at e4;cases e4;exact .inl e3
   exact⟨rfl,⟨old,λb o e=>un.there b o e (by simp)⟩,os,bare⟩
theorem mx{l:OpenLaw}{k:Nat}{q:Program}{d dw:DefRec}{K:Params->Frag}{sp:World->Addr->Sp}{wk:Str}
  (hn:l.most=some n) (hn2:n<=sizeLine) (hdf:d.params.defaults=[]) (hr:AM k callerA) (hY:∀(w:World) (h:Heap),YP w h->(K w.params).In h) (hw:(recsOf q).find? (λe=>e.name == wk)=some dw)
  (F:∀(w:World) (mg:Str->Option Value) (fa:Addr) (h:Heap),(K w.params).In h->h.Ns mainGlobals mg->mg d.name=some (.ref fa) ->
   ∃(fd:FuncData) (ct Pt:Addr),(∀(s:Shared) (u:Value),BindsTo s fd ⟨[u],[]⟩ [(x,u)])/\tabIn (K w.params) wk=some (ct,Pt)/\(K w.params).lookup Pt=none /\
    ∀base:Heap,(K w.params).In base->base.Ns mainGlobals mg->Ma mg base->B2 l.prog w (K w.params) mg base CX0 k fa fd [x] (sp w Pt))
  (hsp:∀(w:World) (H:Hp) (a Pt:Addr) (ns:List Int),ns.length<=n->H Pt=some (.tbl #[])->SqL (K w.params) H a (ns.map V.int)->sp w Pt [.ref a] H (λv _=>v=.bl true) λ_ _ _=>False) :
  WalkO q loose XP YP l.row.toRowW d [] (λf vs=>PySem.call f vs):=by
 refine Att.attach_call hn hdf λw s₀ s₁ mg mb fa o pm cd doc a vs ns G Y ho hd hcd hmg hobj hints hlen hg=>?_;have KX:=hY w _ Y;obtain⟨fd,ct,Pt,hbd,htab,hKP,hF⟩:=F w mg fa _ KX G.T.g hmg;obtain⟨hC,hP⟩:=tab_of G.T KX hw htab;have hT:=hC.tab hP;have aP:a≠Pt:=λz=>by rw[z,hP] at hobj;cases hobj
 have hBM:Ma mg s₁.heap:=by
  obtain⟨bm,ob,b1,b2,b3,b4,b5,b6⟩:=G.T.bmain;refine⟨bm,ob,b1,b2,λz=>?_,b3,b4,b5,b6⟩;obtain⟨og,es,ep,e,dg,_⟩:=G.T.g;rw[<- z,b3] at e;cases e;rw[b6] at dg;cases dg
 have rv:=U9 hints;have lenV:=hints.length;have okP:∀H:Hp,AJ l.prog w H s₁.heap Pt (.tbl #[]):=λ_=>hP;cases hk:(K w.params).lookup a with
 |some oa =>
  have e:=KX a oa hk;rw[hobj] at e;cases e;refine Zx (H:=upd (λ_=>none) Pt (.tbl #[])) KX G.T.g G.T.b G.T.builtins G.T.nolimit hg hr hT hBM (λb u y=>?_) (λb u y=>?_) (λb u y=>?_) hF hbd (hsp w _ a Pt ns hlen A0 (.inr ⟨_,vs.toArray,_,hk,rfl,rfl,rfl,by rw[Zzn,lenV];exact Zzd hlen hn2,by simpa using rv⟩))
  ·by_cases z:b=Pt
   ·subst z;rw[A0] at y;cases y;exact .inl ⟨rfl,rfl⟩
   ·rw[Ab z] at y;cases y
  ·by_cases z:b=Pt
   ·rw[z];exact hKP
   ·rw[Ab z] at y;cases y
  ·by_cases z:b=Pt
   ·subst z;rw[A0] at y;cases y;exact okP _
   ·rw[Ab z] at y;cases y
 |none =>
  refine Zx (H:=upd (upd (λ_=>none) Pt (.tbl #[])) a (.frz {cls:=.type "list",data:=.seq vs.toArray} (.lst (ns.map V.int)))) KX G.T.g G.T.b G.T.builtins G.T.nolimit hg hr hT hBM (λb u y=>?_) (λb u y=>?_) (λb u y=>?_) hF hbd (hsp w _ a Pt ns hlen (by rw[Ab (Zzi aP),A0]) (.inl (.inr ⟨_,A0⟩)))
  ·by_cases z2:b=a
   ·subst z2;rw[A0] at y;cases y;exact .inr ⟨rfl,_,_,rfl⟩
   ·rw[Ab z2] at y;by_cases z:b=Pt
    ·subst z;rw[A0] at y;cases y;exact .inl ⟨rfl,rfl⟩
    ·rw[Ab z] at y;cases y
  ·by_cases z2:b=a
   ·rw[z2];exact hk
   ·rw[Ab z2] at y;by_cases z:b=Pt
    ·rw[z];exact hKP
    ·rw[Ab z] at y;cases y
  ·by_cases z2:b=a
   ·subst z2;rw[A0] at y;cases y;exact⟨hobj,by rw[Zzz];exact Zzd hlen hn2,vs,_,rv,hobj⟩
   ·rw[Ab z2] at y;by_cases z:b=Pt
    ·subst z;rw[A0] at y;cases y;exact okP _
    ·rw[Ab z] at y;cases y
noncomputable def vq(vs:Array Value)(c P:Addr):Bool:=(match vs.getD 18 .none with | .str _ _=>true | _=>false)&&(match vs.getD 7 .none with | .int _ _=>true | _=>false)&&(match vs.getD 9 .none with | .bool _=>true | _=>false)&&(match vs.getD 10 .none with | .int _ _=>true | _=>false)&&c != P
theorem lq{K:Frag}{c P:Addr}{vs:Array Value}(tl:K.lookup c=some ⟨.type "code",od,.fields vs,sl⟩)(h11:vs[11]?=some (.ref P))(h:vq vs c P=true):codeHdIn K c P=true:=by
 unfold codeHdIn;rw[tl];simp only[h11,BEq.rfl,Zuy];exact h
theorem nu{K:Frag}{c P:Addr}{odc:Option Addr}{slc:Array (Option Value)}{vs:Array Value}(hn:nsIn K mainGlobals x=some (some (.ref f)))(hl:K.lookup f=some ⟨oc,od,.func fd,sl⟩)(hc:fd.code=.ref c)(tl:K.lookup c=some ⟨.type "code",odc,.fields vs,slc⟩)(h11:vs[11]?=some (.ref P)):tabIn K x=some (c,P):=by
 unfold tabIn;simp only[hn,hl,hc,tl,h11]
theorem af{K:Frag}{c P:Addr}(h:tabIn K x=some (c,P))(hn:nsIn K mainGlobals x=some (some (.ref f)))(hl:K.lookup f=some ⟨oc,od,.func fd,sl⟩):fd.code=.ref c:=by
 unfold tabIn at h;simp only[hn,hl] at h;split at h
 ·rename_i c' hc;split at h
  ·split at h
   ·cases h;exact hc
   ·cases h
  ·cases h
 ·cases h
theorem ag{lv:Str}{cc:Addr}(hs:scope.names=[(nm,.local),(lv,.free)])(h:env.cells.lookup lv=some cc):closureFor scope env=pure [(lv,cc)]:=by
 unfold closureFor;rw[hs];simp[cellOf,h]
structure ww(K:Frag)(f c P:Addr):Prop where
 code:∀oc od fd sl,K.lookup f=some ⟨oc,od,.func fd,sl⟩->fd.code=.ref c
 hd:codeHdIn K c P=true
theorem Fun.okC{K:Frag}{st:Stmt}{c:Addr}{k:Nat}(F:Fun K x qual st f fd)(C:ww K f c Pt)(S:Lr N ps (C2 st))(len:∀vs H Q E,sp vs H Q E->vs.length=ps.length)
  (hbody:∀(A:Around) (outer:List Env) (s:Shared) (H:Hp) (vs:List V) (Q:VK) (E:XK),AM k (A.deeper (envOfC qual (C2 st) s.heap.objs.size f (.ref c)))->sp vs H Q E ->
   ∃t,PSs (Xr CX0 P w K mg base N qual (C2 st) f (.ref c) A outer s H E).nox (E6 st) t/\t {nx:=λ_ H'=>Q .non H',rt:=Q} (Ir N vs) H):B2 P w K mg base CX0 (k+1) f fd ps sp:=by
 obtain⟨oc,od,kV,doc,pm,an,cdv,ct,osl,rfl,lk,hcd⟩:=F.ex;have e:cdv=.ref c:=C.code _ _ _ _ lk;subst e;refine A09 lk hcd S len λA outer s H vs Q E hr hsp=>?_;obtain⟨t,h,q⟩:=hbody A outer s H vs Q E hr hsp;exact⟨t,h.nox,q⟩
end L2
namespace NP
open PySem L2
def Fd(S:Sh)(x:Str):List Wr:=S.wares.filter λw=>decide (x∈w.parts.map (·.1))
noncomputable def lvF(S:Sh):Nat->Str->Int
 |0,_=>0
 |k+1,x=>Fb ((Fd S x).map λu=>1+lvF S k u.name)
def lv(S:Sh)(x:Str):Int:=lvF S S.wares.length x
structure Lev(S:Sh):Prop where
 nd:(S.wares.map (·.name)).Nodup
 own:∀w∈S.wares,∀p∈w.parts,p.1∈S.wares.map (·.name)
 low:∃r:Str->Nat,(∀w∈S.wares,r w.name<S.wares.length)/\∀w∈S.wares,∀p∈w.parts,r p.1<r w.name
theorem DA{w:Wr}:w∈Fd S x↔w∈S.wares/\x∈w.parts.map (·.1):=by
 unfold Fd;rw[Zyf];exact⟨λz0=>by obtain⟨a,b⟩:=z0;exact ⟨a,FV b⟩,λz1=>by obtain⟨a,b⟩:=z1;exact ⟨a,FW b⟩⟩
theorem t6(S:Sh):∀k x,0<=lvF S k x
 |0,_=>Zz9 _
 |k+1,x=>Nk λy hy=>by
  obtain⟨u,_,rfl⟩:=Zzv.mp hy;have:=t6 S k u.name;show 0<=1+lvF S k u.name;lia
theorem Zm{r:Str->Nat}(hr:∀w∈S.wares,r w.name<S.wares.length)(hp:∀w∈S.wares,∀p∈w.parts,r p.1<r w.name):∀k w,w∈S.wares->S.wares.length - r w.name<=k->lvF S (k+1) w.name=lvF S k w.name
 |0,w,hw,h=>by have:=hr w hw;lia
 |k+1,w,hw,h=>by
  show Fb ((Fd S w.name).map λu=>1+lvF S (k+1) u.name)=Fb ((Fd S w.name).map λu=>1+lvF S k u.name);congr 1;apply Zxo;intro u hu;obtain⟨h1,h2⟩:=DA.mp hu;obtain⟨p,hp1,hp2⟩:=Zzv.mp h2;have h3:=hp u h1 p hp1;rw[hp2] at h3;have:=hr u h1;rw[Zm hr hp k u h1 (by lia)]
theorem A05(L:Lev S){w:Wr}(hw:w∈S.wares):lv S w.name=Fb ((Fd S w.name).map λu=>1+lv S u.name):=by
 obtain⟨r,h1,h2⟩:=L.low;have:=Zm h1 h2 S.wares.length w hw (by lia);exact this.symm
theorem Ss(S:Sh)(x:Str):0<=lv S x:=t6 S _ x
theorem Ln(L:Lev S){w:Wr}(hw:w∈S.wares){p:Str×Int}(hp:p∈w.parts):lv S w.name+1<=lv S p.1:=by
 obtain⟨v,hv,e⟩:=Zzv.mp (L.own w hw p hp);rw[<- e,A05 L hv];have:1+lv S w.name<=Fb ((Fd S v.name).map λu=>1+lv S u.name):=Nl (Zzv.mpr ⟨w,DA.mpr ⟨hw,Zzv.mpr ⟨p,hp,e.symm⟩⟩,rfl⟩);lia
theorem sw{k:Nat}(h0:∀x,0<=g x)(h:∀w∈S.wares,∀p∈w.parts,1+lvF S k w.name<=g p.1)(x:Str):lvF S (k+1) x<=g x:=by
 show Fb ((Fd S x).map λu=>1+lvF S k u.name)<=g x;unfold Fb;split
 ·exact h0 x
 ·rename_i hn;obtain⟨u,hu,e⟩:=Zzv.mp (Ii hn);rw[<- e];obtain⟨h1,h2⟩:=DA.mp hu;obtain⟨p,hp1,hp2⟩:=Zzv.mp h2;rw[<- hp2];exact h u h1 p hp1
def fnD(names:List Str)(g:Str->Int):List (Key×V):=names.map λx=>(Zy4 x,V.int (g x))
theorem Xo(names:List Str)(g:Str->Int):(fnD names g).length=names.length:=by unfold fnD;rw[Zzz]
theorem Nu(h:x∈names):Cy (fnD names g) (.inr x)=some (.int (g x)):=by
 induction names with
 |nil=>cases h
 |cons y r ih =>
  unfold fnD;rw[Zza];by_cases e:y=x
  ·rw[Dl (by rw[e])];rw[e]
  ·rw[D9 (λz=>e (Zwh z))];exact ih ((Zzs.mp h).resolve_left λz=>e z.symm)
theorem vb(h:x∉names):Cy (fnD names g) (.inr x)=none:=by
 induction names with
 |nil=>rfl
 |cons y r ih =>
  unfold fnD;rw[Zza,D9 (λz=>h (by rw[<- Zwh z];exact Zzm))];exact ih λm=>h (Zzl _ m)
theorem zc{y:Str}{v:Int}(h:y∈names):Gx (fnD names g) (.inr y) (.int v)=fnD names λx=>if x=y then v else g x:=by
 unfold Gx;rw[FZ (by rw[Gj,Nu h];rfl)];unfold fnD;rw[Zz1];apply Zxo;intro x _;show (if Zy4 x=(Zy4 y:Key) then (Zy4 x,V.int v) else (Zy4 x,V.int (g x)))=(Zy4 x,V.int (if x=y then v else g x));by_cases e:x=y
 ·rw[FZ (by rw[e]),FZ e]
 ·rw[FY (λz=>e (Zwh z)),FY e]
theorem Op{g':Str->Int}(h:∀x∈names,g x=g' x):fnD names g=fnD names g':=by
 unfold fnD;exact Zxo λx hx=>by rw[h x hx]
theorem ii{y:Str}{v:Int}(h:y∉names):Gx (fnD names g) (.inr y) (.int v)=fnD (names++[y]) λx=>if x=y then v else g x:=by
 rw[Rz _ (vb h)];unfold fnD;rw[Zzo];congr 1
 ·refine Zxo λx hx=>?_;show (Zy4 x,V.int (g x))=(Zy4 x,V.int (if x=y then v else g x));rw[FY (λe:x=y=>h (e▸hx))]
 ·show [(Zy4 y,V.int v)]=[(Zy4 y,V.int (if y=y then v else g y))]
  rw[FZ rfl]
theorem Ja{xs:List Str}(nd:xs.Nodup)(h:xs[i]?=some x):x∉xs.take i:=by
 intro m;obtain⟨j,hj⟩:=Zut.mp m;rw[Zxd] at hj;split at hj
 ·rename_i hlt;have hj2:j<xs.length:=(Zze.mp hj).1;have:=(Zv3 hj2 nd).mp (hj.trans h.symm);lia
 ·cases hj
end NP
namespace L2
open PySem PySem.Spec PyProof.Rows
noncomputable def ItV(a:Addr)(xs:List V):It:=⟨λi H=>H a=some (.lst xs)/\i<xs.length,λi H x H'=>H'=H/\xs.reverse[i]?=some x,λi H=>H a=some (.lst xs)/\i=xs.length⟩
theorem A2h(a:Addr)(xs:List V):Tl (ItV a xs) xs.length (λi x=>xs.reverse[i]?=some x) (λH=>H a=some (.lst xs)) :=
 ⟨λ_ _ h o=>⟨o,h⟩,λ_ _ _ _ _ _ y=>y,λ_ o=>⟨o,rfl⟩⟩
theorem nh(a it:Addr)(xs:List V):O5 P w K tg (ItV a xs) [it] it (λi h=>i<=xs.length/\h.IsRevIter it a ((xs.length:Int) - 1 - (i:Int))) where
 mem:=by simp
 obj:=λi h st b hb=>by
  have e:b=it:=by simpa using hb
  subst e;obtain⟨_,o,e,c,d⟩:=st;exact⟨o,e,λv z=>by rw[d] at z;cases z⟩
 keep:=λi h h' st k=>⟨st.1,st.2.at λo e=>k it (by simp) o e⟩;item:=by
  intro X hP hw hK hc i pins s Z H E I hf st hg;subst hP hw hK;obtain⟨hq,hlt⟩:=hg;obtain⟨its,rv,hl,hal⟩:=Av I hq;obtain⟨f0,f1,f2,f3,f4,f5⟩:=hf it (by simp);have hai:a≠it:=A5 hq f0;have hlen:=rv.length;have hsz:its.toArray.size=xs.length:=by rw[Zzn];exact hlen.symm
  have st2:s.heap.IsRevIter it a ((its.toArray.size:Int) - 1 - (i:Int)):=by rw[hsz];exact st.2
  refine(Walks.listRev (prog:=X.prog) (w:=X.w) (A:=X.A) (I.ok.hd hc) it a hai its.toArray).item i s _ E (by lia) ⟨by lia,st2,hl⟩ λv h' tk hx st3 hk=>?_;have I1:Inv X pins Z H {s with heap:=h',toks:=tk}:=I.turned (t':=tk) (λb o hb e=>hk b o (by simpa using hb) e) f0 f1 f3 f4 f5;obtain⟨_,⟨oi,ei,ci,di⟩,_⟩:=id st3;have hlt2:its.length - 1 - i<its.length:=by lia
  have hx:its[its.length - 1 - i]?=some v:=by rw[hsz,hlen] at hx;simpa using hx
  obtain⟨u,hu,ru⟩:=rv.get (x:=xs[xs.length - 1 - i]) (i:=xs.length - 1 - i) (by simp[show xs.length - 1 - i<xs.length by lia]);have eu:u=v:=by rw[hlen,hx] at hu;exact(Zzh hu).symm
  subst eu;refine⟨u,rfl,Vg (s:={s with heap:=h',toks:=tk}) ei ci di (by decide) ⟨xs[xs.length - 1 - i],H,I1,ru,⟨rfl,?_⟩,?_,λb hb=>(hf b hb).1⟩⟩
  ·rw[List.getElem?_reverse hlt];simp[show xs.length - 1 - i<xs.length by lia]
  ·have:=st3.2.1
   rw[hsz] at this;exact⟨hlt,this⟩
 done:=by
  intro X hP hw hK hc i pins s Z H E I hf st hg;subst hP hw hK;obtain⟨hq,hlt⟩:=hg;obtain⟨its,rv,hl,hal⟩:=Av I hq;obtain⟨f0,f1,f2,f3,f4,f5⟩:=hf it (by simp);have hai:a≠it:=A5 hq f0;have hlen:=rv.length;have hsz:its.toArray.size=xs.length:=by rw[Zzn];exact hlen.symm
  subst hlt;have st2:s.heap.IsRevIter it a ((its.toArray.size:Int) - 1 - ((its.toArray.size:Nat):Int)):=by rw[hsz];exact st.2
  exact(Walks.listRev (prog:=X.prog) (w:=X.w) (A:=X.A) (I.ok.hd hc) it a hai its.toArray).done s _ E ⟨Zzq _,st2,hl⟩ λh' tk hk=>⟨rfl,I.turned (t':=tk) (λb o hb e=>hk b o (by simpa using hb) e) f0 f1 f3 f4 f5⟩
 self:=λ_ _ _ _ _ st h=>wpAny_pyIter_revIter st.2 h
def um(ta:TA):TI:=λZ H R=>ta Z H λvs H1=>∃a xs,vs=[.ref a]/\H1 a=some (.lst xs)/\R (ItV a xs) H1
theorem A0t{p:Pos}{ta:TA}(hg:Gl X "reversed")(hm:X.mg "reversed" = none)(ha:PA X [e] ta)(hn:Cm [e]=true:=by rfl):PI X tg (.Call (.Name "reversed" p) [e] [] pos) (um ta):=by
 intro pins s Z H R I h;refine Call_ (Er I hg hm NP.Q2 (Zyb (thn (ha pos pins s Z H _ I h) λus s1 ⟨vs,H1,I1,r1,q1⟩=>?_) (Ce hn) rfl));obtain⟨a,xs,e,hq,q⟩:=q1;subst e;obtain⟨u,rfl,ru⟩:=Fc r1;cases ru;obtain⟨its,rv,hl,hal⟩:=Av I1 hq;have hlen:=rv.length;refine call_reversed_list hl ?_;have hrv:(s1.heap.push (revObj a ((its.toArray.size:Int) - 1))).IsRevIter s1.heap.objs.size a ((xs.length:Int) - 1 - ((0:Nat):Int)):=by
  refine⟨_,Zzj _ rfl,rfl,?_⟩;rw[Zzn,<- hlen];simp[revObj]
 have I2:Inv X pins Z H1 {s1 with heap:=s1.heap.push (revObj a ((its.toArray.size:Int) - 1))}:=I1.kept (t':=s1.toks) λb o e=>Zzx _ e;refine wpAny_pyIter_revIter (s:={s1 with heap:=s1.heap.push (revObj a ((its.toArray.size:Int) - 1))}) hrv ⟨_,[_],_,_,H1,rfl,I2,nh a _ xs,⟨Zyz _,hrv⟩,λb hb=>?_,q⟩;have e:=Zzc.mp hb;subst e;exact I1.fpOk (Zzq _) (I1.hok.fresh (Zzq _))
end L2
namespace NP
open PySem L2
noncomputable def P5(S:Sh)(x:Str):Option Wr:=S.wares.find? λw=>decide (w.name=x)
theorem Kg(nd:(S.wares.map (·.name)).Nodup){w:Wr}(hw:w∈S.wares):P5 S w.name=some w:=by
 unfold P5;cases e:S.wares.find? (λv=>decide (v.name=w.name)) with
 |none =>
  have:=List.find?_eq_none.mp e w hw;simp at this
 |some v =>
  have h1:v.name=w.name:=FV (by simpa using List.find?_some e);have h2:=List.mem_of_find?_eq_some e;obtain⟨i,hi,ei⟩:=Zy2.mp hw;obtain⟨j,hj,ej⟩:=Zy2.mp h2;have:(S.wares.map (·.name))[i]?=(S.wares.map (·.name))[j]?:=by
   rw[Zzy,Zzy,Zzr hi,Zzr hj,ei,ej];show some w.name=some v.name;rw[h1]
  have e2:=(Zv3 (by rw[Zzz];exact hi) nd).mp this;subst e2;rw[<- ei,<- ej]
noncomputable def tmF(S:Sh):Nat->Str->Int
 |0,_=>0
 |k+1,x=>match P5 S x with
  |some w=>w.lag+Fb (w.parts.map λp=>tmF S k p.1)
  |none=>0
noncomputable def tm(S:Sh)(x:Str):Int:=tmF S S.wares.length x
theorem R8(L:Lev S)(k:Nat){w:Wr}(hw:w∈S.wares):tmF S (k+1) w.name=w.lag+Fb (w.parts.map λp=>tmF S k p.1):=by
 rw[tmF,Kg L.nd hw]
theorem Yd(L:Lev S){r:Str->Nat}(hp:∀w∈S.wares,∀p∈w.parts,r p.1<r w.name):∀k w,w∈S.wares->r w.name<k->tmF S (k+1) w.name=tmF S k w.name
 |0,w,_,h=>by lia
 |k+1,w,hw,h=>by
  rw[R8 L _ hw,R8 L _ hw];congr 2;apply Zxo;intro p hpm;obtain⟨v,hv,e⟩:=Zzv.mp (L.own w hw p hpm);have h3:=hp w hw p hpm;rw[<- e] at h3 ⊢;exact Yd L hp k v hv (by lia)
theorem nj(L:Lev S){w:Wr}(hw:w∈S.wares):tm S w.name=w.lag+Fb (w.parts.map λp=>tm S p.1):=by
 obtain⟨r,h1,h2⟩:=L.low;have h3:=Yd L h2 S.wares.length w hw (h1 w hw);rw[R8 L _ hw] at h3;exact h3.symm
theorem Z6(L:Lev S)(so:Q3 (lv S) (S.wares.map (·.name)) ys){w:Wr}(hw:w∈S.wares)(hj:ys.reverse[j]?=some w.name){p:Str×Int}(hp:p∈w.parts):p.1∈ys.reverse.take j:=by
 have hlv:=Ln L hw hp;have hm:p.1∈ys.reverse:=by rw[List.mem_reverse];exact so.1.mem_iff.mpr (L.own w hw p hp)
 have pw:ys.reverse.Pairwise λa b=>lv S b<=lv S a:=by rw[List.pairwise_reverse];exact so.2
 obtain⟨i,hi⟩:=Zut.mp hm;obtain⟨hil,ei⟩:=Zze.mp hi;obtain⟨hjl,ej⟩:=Zze.mp hj;have hlt:i<j:=by
  rcases Zv2 i j with z | z | z
  ·exact z
  ·subst z;rw[ei] at ej;rw[ej] at hlv;lia
  ·have:=Zww.mp pw j i hjl hil z
   rw[ei,ej] at this;lia
 exact Zzu (i:=i) (by rw[Zxd,FZ hlt];exact hi)
end NP
namespace L2
open PySem PySem.Spec PyProof.Rows PySem.W NP
def A2u(a b:Str):Prop:=¬ b.cps.toList<a.cps.toList
def j0(xs ys:List Str):Prop:=ys.Perm xs/\ys.Pairwise A2u
def Wf:List V->Hp->VK->Prop:=λvs H Q=>∃a xs,vs=[.ref a]/\H a=some (.lst (xs.map V.str))/\xs.length<64/\∀p ys,H p=none->j0 xs ys->Q (.ref p) (upd H p (.lst (ys.map V.str)))
def Wg:List V->Hp->VK->Prop:=λvs H Q=>∃a kvs xs,vs=[.ref a]/\H a=some (.dK kvs)/\kvs.map (·.1)=xs.map Zy4/\xs.length<64/\∀p ys,H p=none->j0 xs ys->Q (.ref p) (upd H p (.lst (ys.map V.str)))
def Wj:List V->Hp->VK->Prop:=λvs H Q=>∃a kvs,vs=[.ref a]/\Rd H a (.dK kvs)/\∀p,H p=none->Q (.ref p) (upd H p (.dK kvs))
def Qj:V->List V->Hp->VK->Prop:=λx vs H Q=>∃a kvs,x=.ref a/\vs=[]/\H a=some (.dK kvs)/\Q .non (upd H a (.dK []))
theorem N7:∀xs:List Str,RDs H (xs.map .str) (xs.map V.str)
 |[]=>RDs.nil
 |x::r=>RDs.cons RD.str_mk (N7 r)
end L2
set_option maxHeartbeats 4000000
namespace L2
open PySem PyProof.Rows
def Qi:V->List V->Hp->VK->Prop:=λx vs H Q=>∃(l:Addr) (xs:List Str) (y:Str),x=.ref l/\vs=[.str y]/\H l=some (.lst (xs.map V.str))/\y∈xs/\Q (.int (xs.idxOf y:Nat)) H
theorem Jn:∀xs:List Str,(xs.map V.str).all Io=true
 |[]=>rfl
 |x::xs=>by rw[Zza,Zw4,Jn xs];rfl
theorem Od{xs zs:List Str}(h:Jo kz xs ys)(h':Jo kz xs zs):ys=zs:=by
 obtain⟨ps,p1,rfl,p2⟩:=h;obtain⟨qs,q1,rfl,q2⟩:=h';have e:ps=qs:=List.Perm.eq_of_pairwise (λa b _ _ h1 h2=>by unfold klt at h1 h2;lia) p2 q2 (p1.trans q1.symm);rw[e]
theorem L6(x:Str):∀xs:List Str,inV (.str x) (xs.map V.str)=decide (x∈xs)
 |[]=>rfl
 |y::xs=>by
  show (y == x||inV (.str x) (xs.map V.str))=decide (x∈y::xs);rw[L6 x xs];by_cases e:y=x
  ·rw[e];simp
  ·have e2:(y == x)=false:=by simpa using e
   rw[e2,Bool.false_or];exact decide_eq_decide.mpr ⟨λm=>Zzl _ m,λm=>(Zzs.mp m).resolve_left λz=>e z.symm⟩
end L2
set_option exponentiation.threshold 4000
namespace L2
open PySem PySem.Spec PyProof.Rows
def g8:V->V->Hp->VK->Prop:=λo i H Q=>∃(p:Addr) (kvs:List (Key×V)) (k:Str) (v:V),o=.ref p/\i=.str k/\H p=some (.dK kvs)/\Cy kvs (.inr k)=some v/\Q v H
end L2
namespace NP
open PySem L2
noncomputable def Cd(m g:Int):Int:=if -(-m / g) > 0 then -(-m / g) else 0
theorem ki(m g:Int):0<=Cd m g:=by unfold Cd;split<;>lia
theorem U5{m g:Int}(h:0<g):m<=g*Cd m g:=by
 have h1:=Int.mul_ediv_add_emod (-m) g;have h2:=Zuj (-m) (b:=g) (by lia);have h3:g*(-(-m / g))=-(g*(-m / g)):=Int.mul_neg ..;unfold Cd;split
 ·rw[h3];lia
 ·rename_i q;have h4:0<=-m / g:=by lia
  have h5:0<=g*(-m / g):=Zu8 (by lia) h4;lia
theorem Nm{m g:Int}(h:0<g)(hl:0<Cd m g):g*Cd m g<m+g:=by
 have h1:=Int.mul_ediv_add_emod (-m) g;have h2:=Zvd (-m) h;have h3:g*(-(-m / g))=-(g*(-m / g)):=Int.mul_neg ..;unfold Cd at hl ⊢;split
 ·rw[h3];lia
 ·rename_i q;rw[FY q] at hl;lia
theorem kj{m g:Int}(h:0<g)(hm:0<=m):Cd m g<=m:=by
 by_cases hz:0<Cd m g
 ·have h1:=Nm h hz
  have h2:Cd m g*1<=Cd m g*g:=Zws (by lia) (by lia);have h3:g*Cd m g=Cd m g*g:=Int.mul_comm ..;have h4:(g - 1)*1<=(g - 1)*Cd m g:=Zws (by lia) (by lia);have h5:(g - 1)*Cd m g=g*Cd m g - Cd m g:=by rw[Int.sub_mul,Int.one_mul]
  lia
 ·lia
noncomputable def xc:List Int->Int
 |[]=>0
 |x::r=>x+xc r
noncomputable def wz(us:List Wt)(x:Str):Int:=xc (us.map λu=>if u.1=x then u.2.2 else 0)
noncomputable def A0m(L:Str->Int)(w:Wr)(x:Str):Int:=xc (w.parts.map λp=>if p.1=x then L w.name*p.2 else 0)
noncomputable def xa(ws:List Wr)(L:Str->Int)(x:Str):Int:=xc (ws.map λw=>A0m L w x)
noncomputable def A13(S:Sh)(L:Str->Int)(x:Str):Int:=wz S.wants x+xa S.wares L x
noncomputable def exF(S:Sh):Nat->Str->Int
 |0,_=>0
 |k+1,x=>match P5 S x with
  |some w=>Cd (A13 S (exF S k) x) w.gives
  |none=>0
noncomputable def ex(S:Sh)(x:Str):Int:=exF S S.wares.length x
theorem O7{w:Wr}(h:P5 S x=some w):w∈S.wares/\w.name=x:=⟨List.mem_of_find?_eq_some h,FV (by simpa using List.find?_some h)⟩
theorem Pw{m g:Int}(h:0<g)(hm:m<=0):Cd m g=0:=by
 unfold Cd;have:0<=-m / g:=Int.ediv_nonneg (by lia) (by lia);rw[FY (by lia)]
noncomputable def above(f g:Int)(xs ys:List Int):Nat->Int
 |0=>-f
 |i+1=>above f g xs ys i+(xs.getD i 0 - ys.getD i 0)+g*Cd (-(above f g xs ys i+(xs.getD i 0 - ys.getD i 0))) g
noncomputable def Gq(f g:Int)(xs ys:List Int)(i:Nat):Int:=Cd (-(above f g xs ys i+(xs.getD i 0 - ys.getD i 0))) g
noncomputable def AO(f g:Int)(xs ys:List Int)(n:Nat):List Int:=(Zyi n).map (Gq f g xs ys)
theorem Zn(f g:Int)(xs ys:List Int)(n:Nat):(AO f g xs ys n).length=n:=by simp[AO]
theorem kh(f g:Int)(xs ys:List Int)(n:Nat):AO f g xs ys (n+1)=AO f g xs ys n++[Gq f g xs ys n]:=by
 unfold AO;rw[Zul,Zzo];rfl
theorem tj{f g:Int}{xs ys:List Int}(h:i<n):(AO f g xs ys n)[i]?=some (Gq f g xs ys i):=by simp[AO,h]
theorem Jk{f g:Int}{xs ys:List Int}(h:i<n):(AO f g xs ys n).getD i 0=Gq f g xs ys i:=by rw[Zzp,tj h];rfl
theorem Mg(f g:Int)(xs ys:List Int)(i:Nat):above f g xs ys (i+1)=above f g xs ys i+(xs.getD i 0 - ys.getD i 0)+g*Gq f g xs ys i:=rfl
theorem Tg{f g:Int}{xs ys:List Int}(hg:0<g)(i:Nat):0<=above f g xs ys (i+1):=by
 have:=U5 (m:=-(above f g xs ys i+(xs.getD i 0 - ys.getD i 0))) hg;rw[Mg];unfold Gq;lia
theorem aj{f g:Int}{xs ys:List Int}(hg:0<g)(hl:0<Gq f g xs ys i):above f g xs ys (i+1)<g:=by
 have:=Nm hg (show 0<Cd (-(above f g xs ys i+(xs.getD i 0 - ys.getD i 0))) g from hl);rw[Mg];unfold Gq;lia
theorem tu(f g:Int)(xs ys:List Int)(i:Nat):0<=Gq f g xs ys i:=ki _ _
theorem wa{f g:Int}{xs ys:List Int}(hg:0<g)(hf:0<=f)(i:Nat):-f<=above f g xs ys i:=by
 cases i with
 |zero=>exact Zz9 _
 |succ i=>have:=Tg (f:=f) (xs:=xs) (ys:=ys) hg i;lia
theorem tz{f g:Int}{xs ys:List Int}(hg:0<g)(hf:0<=f)(hx:0<=xs.getD i 0)(hy:0<=ys.getD i 0):Gq f g xs ys i<=f+ys.getD i 0:=by
 have h1:=wa (f:=f) (xs:=xs) (ys:=ys) hg hf i;unfold Gq;by_cases h:0<=-(above f g xs ys i+(xs.getD i 0 - ys.getD i 0))
 ·have:=kj hg h
  lia
 ·rw[Pw hg (by lia)];lia
theorem Oy{f g:Int}{xs ys:List Int}(ch:Nat->Int)(hc:∀i,i<n->ch i=xs.getD i 0+g*Gq f g xs ys i - ys.getD i 0):∀i,i<=n->above f g xs ys i=upS ch i - f
 |0,_=>by show -f=0 - f;lia
 |i+1,h=>by
  rw[Mg,Oy ch hc i (by lia)];show _=upS ch i+ch i - f;rw[hc i (by lia)];lia
noncomputable def LRF(S:Sh):Nat->Str->List Int
 |0,_=>[]
 |k+1,x=>match P5 S x with
  |some w=>AO w.floor w.gives (Ap (AB S) (Cg w)) (Az S (LRF S k) x) (AB S)
  |none=>[]
def LR(S:Sh)(x:Str):List Int:=LRF S S.wares.length x
theorem Xe(h:∀t∈S.wares,∀p∈t.parts,p.1=nm->plan t.name=plan' t.name)(d:Nat):Bj S plan nm d=Bj S plan' nm d:=by
 unfold Bj;congr 1;refine Fv λt ht=>?_;unfold pAt;refine Fv λp hp=>?_;by_cases e:p.1=nm
 ·rw[FZ e,FZ e,h t ht p hp e]
 ·rw[FY e,FY e]
theorem So(h:∀t∈S.wares,∀p∈t.parts,p.1=nm->plan t.name=plan' t.name):Az S plan nm=Az S plan' nm:=C4 λd _=>Xe h d
theorem Tk(L:Lev S)(k:Nat){w:Wr}(hw:w∈S.wares):LRF S (k+1) w.name=AO w.floor w.gives (Ap (AB S) (Cg w)) (Az S (LRF S k) w.name) (AB S):=by rw[LRF,Kg L.nd hw]
theorem ao(L:Lev S){r:Str->Nat}(hr:∀w∈S.wares,r w.name<S.wares.length)(hp:∀w∈S.wares,∀p∈w.parts,r p.1<r w.name):∀k w,w∈S.wares->S.wares.length - r w.name<=k->LRF S (k+1) w.name=LRF S k w.name
 |0,w,hw,h=>by have:=hr w hw;lia
 |k+1,w,hw,h=>by
  rw[Tk L _ hw,Tk L _ hw];congr 1;refine So λu hu p hpm e=>?_;have h3:=hp u hu p hpm;rw[e] at h3;have:=hr u hu;exact ao L hr hp k u hu (by lia)
theorem Tj(L:Lev S){w:Wr}(hw:w∈S.wares):LR S w.name=AO w.floor w.gives (Ap (AB S) (Cg w)) (Az S (LR S) w.name) (AB S):=by
 obtain⟨r,h1,h2⟩:=L.low;have h3:=ao L h1 h2 S.wares.length w hw (by lia);rw[Tk L _ hw] at h3;exact h3.symm
theorem Eu(L:Lev S){w:Wr}(hw:w∈S.wares):(LR S w.name).length=AB S:=by rw[Tj L hw,Zn]
theorem nt(L:Lev S)(so:Q3 (lv S) (S.wares.map (·.name)) ys)(hi:ys[i]?=some nm){t:Wr}(ht:t∈S.wares){p:Str×Int}(hp:p∈t.parts)(e:p.1=nm):t.name∈ys.take i:=by
 have h1:=Ln L ht hp;rw[e] at h1;obtain⟨j,hj⟩:=Zut.mp (so.1.mem_iff.mpr (Zzv.mpr ⟨t,ht,rfl⟩));obtain⟨hil,ei⟩:=Zze.mp hi;obtain⟨hjl,ej⟩:=Zze.mp hj;have hlt:j<i:=by
  rcases Zv2 j i with z | z | z
  ·exact z
  ·subst z;rw[ei] at ej;rw[ej] at h1;lia
  ·have:=Zww.mp so.2 i j hil hjl z
   rw[ei,ej] at this;lia
 exact Zzu (i:=j) (by rw[Zxd,FZ hlt];exact hj)
structure Lx(S:Sh):Prop where
 wb:∀w∈S.wares,(1<=w.gives/\w.gives<=10^41)/\(0<=w.floor/\w.floor<=10^41)/\0<=w.stock/\w.parts.length<=12/\∀p∈w.parts,1<=p.2/\p.2<=10^41
 com:∀w∈S.wares,∀p∈w.coming,0<=p.2
 few:S.wares.length<=12
 wt:S.wants.length<=20/\∀u∈S.wants,0<=u.2.2/\u.2.2<=10^41
theorem Ml{α:Type}{l:List α}{f:α->Int}(h:∀x∈l,0<=f x):0<=Ba f l:=by
 induction l with
 |nil=>exact Zz9 _
 |cons x r ih =>
  rw[Ch];have h1:=h x Zzm;have h2:=ih λy hy=>h y (Zzl _ hy);lia
theorem Qf{α:Type}{l:List α}{f:α->Int}{c:Int}(hc:0<=c)(hl:l.length<=n)(h:∀x∈l,f x<=c):Ba f l<=n*c:=by
 induction l generalizing n with
 |nil=>exact Zu8 (Int.natCast_nonneg n) hc
 |cons x r ih =>
  cases n with
  |zero=>cases hl
  |succ n =>
   rw[Ch];have h1:=h x Zzm;have h2:=ih (n:=n) (Nat.le_of_succ_le_succ hl) λy hy=>h y (Zzl _ hy);have e:((n+1:Nat):Int)*c=n*c+c:=by rw[Int.natCast_add,Int.add_mul];simp
   lia
theorem Nt{xs:List Int}{B:Int}(hB:0<=B)(h:∀x∈xs,0<=x/\x<=B)(i:Nat):0<=xs.getD i 0/\xs.getD i 0<=B:=by
 rw[Zzp];cases e:xs[i]? with
 |none=>exact⟨Zz9 _,hB⟩
 |some x=>exact h x (Zzu e)
theorem w9{xs:List Int}{B:Int}(hB:0<=B)(h:∀x∈xs,0<=x/\x<=B)(lag:Int)(d:Nat):0<=bAt xs lag d/\bAt xs lag d<=B:=by
 unfold bAt;split
 ·exact Nt hB h _
 ·exact⟨Zz9 _,hB⟩
theorem V7(E:Lx S){B:Int}(hB:0<=B)(h:∀nm,∀x∈plan nm,0<=x/\x<=B)(nm:Str)(d:Nat):0<=Bj S plan nm d/\Bj S plan nm d<=20*10^41+12*(12*(10^41*B)):=by
 have hB2:0<=10^41*B:=Zu8 (by decide +kernel) hB;have w0:0<=Ba (wAt nm d) S.wants:=Ml λu hu=>by
  unfold wAt;split
  ·exact(E.wt.2 u hu).1
  ·exact Zz9 _
 have w1:Ba (wAt nm d) S.wants<=(20:Nat)*(10:Int)^41:=Qf (by decide +kernel) E.wt.1 λu hu=>by
  unfold wAt;split
  ·exact(E.wt.2 u hu).2
  ·decide +kernel
 have p0:0<=Ba (pAt plan nm d) S.wares:=Ml λt ht=>Ml λp hp=>by
  split
  ·exact Zu8 (by have:=((E.wb t ht).2.2.2.2 p hp).1;lia) (w9 hB (h t.name) t.lag d).1
  ·exact Zz9 _
 have p1:Ba (pAt plan nm d) S.wares<=(12:Nat)*(12*(10^41*B)):=Qf (by lia) E.few λt ht=>by
  have:pAt plan nm d t<=(12:Nat)*(10^41*B):=Qf hB2 (E.wb t ht).2.2.2.1 λp hp=>by
   split
   ·have h3:=(E.wb t ht).2.2.2.2 p hp
    have h4:=w9 hB (h t.name) t.lag d;exact Int.mul_le_mul h3.2 h4.2 h4.1 (by decide +kernel)
   ·exact hB2
  exact this
 unfold Bj;exact⟨by lia,Zu7 w1 p1⟩
theorem Tf(E:Lx S){w:Wr}(hw:w∈S.wares)(d:Nat):0<=Cg w d:=by
 unfold Cg;have h1:0<=(if d=0 then w.stock else 0):=by
  split
  ·exact(E.wb w hw).2.2.1
  ·exact Zz9 _
 have h2:0<=Ba (cAt d) w.coming:=Ml λp hp=>by
  unfold cAt;split
  ·exact E.com w hw p hp
  ·exact Zz9 _
 lia
theorem Y4(E:Lx S):∀(k:Nat) (nm:Str),∀x∈LRF S k nm,0<=x/\x<=10^(45*k)
 |0,nm,x,h=>by cases h
 |k+1,nm,x,h=>by
  have hB:(0:Int)<=10^(45*k):=Int.pow_nonneg (by decide);have h1:(1:Int)<=10^(45*k):=Int.pow_pos (by decide);have e:(10:Int)^(45*(k+1))=10^(45*k)*10^45:=by rw[<- Int.pow_add];rfl
  rw[LRF] at h;split at h
  ·rename_i w hw;have hw2:=(O7 hw).1;unfold AO at h;obtain⟨i,hi,rfl⟩:=Zzv.mp h;have hi:=Zx1.mp hi;have hwb:=E.wb w hw2;have hn:=V7 E hB (λy=>Y4 E k y) nm i;have e1:(Ap (AB S) (Cg w)).getD i 0=Cg w i:=Bn hi;have e2:(Az S (LRF S k) nm).getD i 0=Bj S (LRF S k) nm i:=Bn hi;have h2:=tz (f:=w.floor) (g:=w.gives) (xs:=Ap (AB S) (Cg w)) (ys:=Az S (LRF S k) nm) (i:=i) (by lia) hwb.2.1.1 (by rw[e1];exact Tf E hw2 i) (by rw[e2];exact hn.1);rw[e2] at h2;refine⟨tu _ _ _ _ _,?_⟩;rw[e];have hn2:=hn.2;have hf:=hwb.2.1.2;generalize (10:Int)^(45*k)=B at hB h1 hn2 ⊢;lia
  ·cases h
theorem Kd(E:Lx S)(nm:Str):∀x∈LR S nm,0<=x/\x<10^600:=λx hx=>by
 have h1:=Y4 E S.wares.length nm x hx;have h2:(10:Int)^(45*S.wares.length)<=10^(45*12):=by
  have:(10:Nat)^(45*S.wares.length)<=10^(45*12):=Zun (by decide) (Nat.mul_le_mul_left _ E.few);exact_mod_cast this
 exact⟨h1.1,Zxs (Zxm h1.2 h2) (by decide +kernel)⟩
noncomputable def Cr(row:List Int)(lag:Int):Nat->Option Nat
 |0=>none
 |n+1=>match Cr row lag n with
  |some d=>some d
  |none=>if (n:Int)<lag/\0<row.getD n 0 then some n else none
noncomputable def C8(row:List Int)(lag:Int):Option Nat:=Cr row lag row.length
theorem Gu:∀{n:Nat},Cr row lag n=none->∀e,e<n->¬ ((e:Int)<lag/\0<row.getD e 0)
 |0,_,e,he=>absurd he (Nat.not_lt_zero _)
 |n+1,h,e,he=>by
  rw[Cr] at h;split at h
  ·cases h
  ·rename_i q;split at h
   ·cases h
   ·rename_i c;by_cases z:e=n
    ·subst z;exact c
    ·exact Gu q e (by lia)
theorem T1{d:Nat}(h:Cr row lag n=some d):∀k,Cr row lag (n+k)=some d
 |0=>h
 |k+1=>by
  show Cr row lag ((n+k)+1)=some d;rw[Cr,T1 h k]
theorem dc{d:Nat}(h:Cr row lag n=some d)(hn:n<=row.length):C8 row lag=some d:=by
 have:=T1 h (row.length - n);rw[Zvl hn] at this;exact this
theorem Ey:∀{n d:Nat},Cr row lag n=some d->d<n/\(d:Int)<lag/\0<row.getD d 0/\∀e,e<d->¬ ((e:Int)<lag/\0<row.getD e 0)
 |0,d,h=>by cases h
 |n+1,d,h=>by
  rw[Cr] at h;split at h
  ·rename_i d' e;obtain rfl:=Zzh h;obtain⟨h1,h2,h3,h4⟩:=Ey e;exact⟨by lia,h2,h3,h4⟩
  ·rename_i e;split at h
   ·rename_i c;obtain rfl:=Zzh h;exact⟨by lia,c.1,c.2,λi hi=>Gu e i hi⟩
   ·cases h
noncomputable def Eb(S:Sh)(plan:Str->List Int)(w:Wr):Nat->Option (Str×Nat)
 |0=>none
 |n+1=>match Eb S plan w n with
  |some x=>some x
  |none=>if C8 (plan w.name) w.lag=some n then some ("early",n) else if (Ar S plan w).getD n 0<w.floor then some ("below",n) else none
def Lp(S:Sh)(plan:Str->List Int)(w:Wr):Option (Str×Nat):=Eb S plan w (AB S)
theorem Mc{w:Wr}{x:Str×Nat}(h:Eb S plan w n=some x):∀k,Eb S plan w (n+k)=some x
 |0=>h
 |k+1=>by
  show Eb S plan w ((n+k)+1)=some x;rw[Eb,Mc h k]
theorem da{w:Wr}{x:Str×Nat}(h:Eb S plan w n=some x)(hn:n<=AB S):Lp S plan w=some x:=by
 have:=Mc h (AB S - n);rw[Zvl hn] at this;exact this
theorem a8{w:Wr}(hl:(plan w.name).length=AB S)(hn:n<AB S)(h:Eb S plan w n=none):C8 (plan w.name) w.lag=some n↔((n:Int)<w.lag/\0<(plan w.name).getD n 0):=by
 have no:∀m,m<n->C8 (plan w.name) w.lag≠some m:=λm hm e=>by
  have z:∀k,k<=n->Eb S plan w k=none:=λk hk=>by
   cases q:Eb S plan w k with
   |none=>rfl
   |some x =>
    have:=Mc q (n - k);rw[Zvl hk,h] at this;cases this
  have z1:=z (m+1) (by lia);rw[Eb,z m (by lia)] at z1;have z2:(if C8 (plan w.name) w.lag=some m then some (("early" : Str),m) else if (Ar S plan w).getD m 0<w.floor then some (("below" : Str),m) else none)=none:=z1;rw[FZ e] at z2;cases z2
 constructor
 ·intro e;have:=Ey (show Cr (plan w.name) w.lag (plan w.name).length=some n from e);exact⟨this.2.1,this.2.2.1⟩
 ·intro c;cases e:C8 (plan w.name) w.lag with
  |none=>exact absurd c (Gu (show Cr (plan w.name) w.lag (plan w.name).length=none from e) n (by lia))
  |some d =>
   have h3:=Ey (show Cr (plan w.name) w.lag (plan w.name).length=some d from e);rcases Zv2 d n with z | z | z
   ·exact absurd e (no d z)
   ·rw[z]
   ·exact absurd c (h3.2.2.2 n z)
noncomputable def Qa(S:Sh)(plan:Str->List Int)(ys:List Str):Nat->Option (Str×Str×Nat)
 |0=>none
 |n+1=>match Qa S plan ys n with
  |some x=>some x
  |none=>match ys[n]? with
   |none=>none
   |some y=>match P5 S y with
    |none=>none
    |some w=>(Lp S plan w).map λx=>(x.1,y,x.2)
noncomputable def Zr(S:Sh)(plan:Str->List Int)(ys:List Str):Option (Str×Str×Nat):=Qa S plan ys ys.length
theorem Zq{x:Str×Str×Nat}(h:Qa S plan ys n=some x):∀k,Qa S plan ys (n+k)=some x
 |0=>h
 |k+1=>by
  show Qa S plan ys ((n+k)+1)=some x;rw[Qa,Zq h k]
theorem ui{x:Str×Str×Nat}(h:Qa S plan ys n=some x)(hn:n<=ys.length):Zr S plan ys=some x:=by
 have:=Zq h (ys.length - n);rw[Zvl hn] at this;exact this
theorem Vb{w:Wr}(nd:(S.wares.map (·.name)).Nodup)(h:Qa S plan ys n=none)(hy:ys[n]?=some w.name)(hw:w∈S.wares):Qa S plan ys (n+1)=(Lp S plan w).map λx=>(x.1,w.name,x.2):=by
 rw[Qa,h,hy];show (match P5 S w.name with | none=>none | some w'=>(Lp S plan w').map λx:Str×Nat=>(x.1,w.name,x.2))=_;rw[Kg nd hw]
noncomputable def judV:Option (Str×Str×Nat)->List V
 |none=>[.str "good"]
 |some (k,nm,d)=>[.str k,.str nm,.int d]
end NP
set_option maxHeartbeats 400000
namespace L2
open PySem PySem.Spec PyProof.Rows PySem.W NP
theorem wy(vs:List Value):((vs.toArray.zip vs.toArray).map (·.2)).toList=vs:=by
 rw[Array.toList_map,Array.toList_zip];exact List.map_snd_zip (Zzq _)
theorem pj{vs:List Value}{P:Fin->Shared->Prop}(ho:s.heap.get? a=some (seqObj "list" vs.toArray n))(h2:vs.length<2)(h:P (.done (.ret .none)) {s with heap:=sortedHeap s.heap a vs ((vs.toArray.zip vs.toArray).map (·.2))}) :
  wpAny (model prog w) A (Builtin.«list.sort» ⟨[.ref a],[]⟩) P E s:=by
 rw[list_sort_plain];have la:a<s.heap.objs.size:=Zzg ho;refine GA (listItems_at ho rfl (GA (listUpdate_at ho rfl ?_)));obtain⟨e1,o1⟩:∃e1,(s.heap.update a (Obj.mapSeq λ_=>#[])).get? a=some (seqObj "list" #[] e1):=⟨_,get?_update_seq ho (λ_=>#[])⟩;refine GA (seqEpoch_at o1 rfl (GA (wpAny_newTuple (GA (wpAny_newList (wpAny_holding ?_))))));have o6:(((s.heap.update a (Obj.mapSeq λ_=>#[])).push (seqObj "tuple" vs.toArray 0)).push (seqObj "list" #[] 0)).get? a=some (seqObj "list" #[] e1):=by
  rw[Heap.get?_push_ne _ _ _ (by rw[size_push',Heap.size_update];exact Zz2 (Zx7 la)),Heap.get?_push_ne _ _ _ (by rw[Heap.size_update];exact Zz2 la)];exact o1
 show wpAny (model prog w) A _ P E {s with heap:=((s.heap.update a (Obj.mapSeq λ_=>#[])).push (seqObj "tuple" vs.toArray 0)).push (seqObj "list" #[] 0)};dsimp only;have z:vs.toArray.size<2:=by simpa using h2
 rw[FZ z,FZ z];refine GA (GB ?_);rw[StateT.run_pure];refine GA (GB ?_);dsimp only;refine GA (seqEpoch_at o6 rfl (GA (listUpdate_at o6 rfl ?_ (hsz2:=by rw[Array.size_map,Array.size_zip,Zui,sizeLine_eq];lia))));simp only[bne_self_eq_false,Bool.false_eq_true,if_false];exact GB h
theorem bc{l:Addr}{vs:List Value}(hl:s.heap.IsList l vs.toArray)(h2:vs.length<2)(h:∀out:Array Value,out.toList=vs->Q (.ref (s.heap.objs.size+1)) {s with heap:=sortedAll s.heap vs out}) :
  wpAny (model prog w) A (call (.builtin "sorted") [.ref l]) Q E s:=by
 refine Calls.call_function_entry kind_sorted plain_sorted entry_sorted (args_sorted1 _) ?_;unfold Builtin.«sorted»;refine GA (m:=checkCount "sorted" 1 1 _) (GB (GA (collect_list hl (GA (wpAny_newList ?_)))));have sz:((s.heap.push (seqObj "list" #[] 0)).update s.heap.objs.size (Obj.mapSeq (·++vs.toArray))).objs.size=s.heap.objs.size+1:=by rw[Heap.size_update,size_push']
 have oL:(((s.heap.push (seqObj "list" #[] 0)).update s.heap.objs.size (Obj.mapSeq (·++vs.toArray))).push (seqObj "list" vs.toArray 0)).get? (s.heap.objs.size+1)=some (seqObj "list" vs.toArray 0):=by rw[<- sz];exact Zzj _ rfl
 show wpAny _ _ _ _ _ {s with heap:=((s.heap.push (seqObj "list" #[] 0)).update s.heap.objs.size (Obj.mapSeq (·++vs.toArray))).push (seqObj "list" vs.toArray 0)};rw[sz];refine GA (wpAny_holding (wpAny_call_entry slot_list_sort ⟨_,oL,rfl⟩ entry_list_sort (pj oL h2 ⟨_,rfl,?_⟩) (args_list_sort _)));exact GB ⟨_,rfl,h _ (wy vs)⟩
theorem jk(as:List Addr):(Zyi as.length).map (λi=>V.ref (as.getD i 0))=as.map V.ref:=by
 apply Zxf;intro i;by_cases hi:i<as.length
 ·rw[Zzy,List.getElem?_range hi,Zzy,Zzr hi];show some (V.ref (as.getD i 0))=some (V.ref as[i]);rw[Zzp,Zzr hi];rfl
 ·rw[Zyt (by rw[Zzz,Zvu];lia),Zyt (by rw[Zzz];lia)]
def Y3(h:Heap)(a:Addr)(x y:Int):Prop:=∃o xs n t u,h.get? a=some o/\o.cls=.type "tuple" /\ o.data=.seq xs n/\xs=#[.int x t,.int y u]
theorem js{as:List Addr}(hp:∀a∈as,∃x y,Y3 h a x y):∃fs,KatTups h (as.map Value.ref) fs/\fs.length=as.length/\∀v∈fs,∃k t,v=.int k t:=by
 induction as with
 |nil=>exact⟨[],KatTups.nil,rfl,λv hv=>nomatch hv⟩
 |cons a as ih =>
  obtain⟨fs,h1,h2,h3⟩:=ih λb hb=>hp b (Zzl _ hb);obtain⟨x,y,o,xs,n,t,u,e1,e2,e3,e4⟩:=hp a Zzm;refine⟨.int x t::fs,KatTups.cons e1 e2 e3 (by rw[e4];rfl) h1,by rw[Zys,Zys,h2],λv hv=>?_⟩;rcases Zzs.mp hv with z | z
  ·exact⟨x,t,z⟩
  ·exact h3 v z
theorem y9{x1 y1 x2 y2:Int}{Q:Bool->Shared->Prop}(h1:Y3 s.heap a x1 y1)(h2:Y3 s.heap b x2 y2)(h:Q (decide (x1<x2\/x1=x2/\y1<y2)) s) :
  wpAny (model prog w) A (keyLt' (tuples' true) (.ref a) (.ref b)) Q E s:=by
 obtain⟨o,xs,n,t,u,e1,e2,e3,rfl⟩:=h1;obtain⟨o',xs',n',t',u',f1,f2,f3,rfl⟩:=h2;refine kat_lt e1 e3 f1 f3 ?_;show KatLex prog w A true _ Q [(.int x1 t,.int x2 t'),(.int y1 u,.int y2 u')] 0 s;refine kat_cons (wpAny_eqBool_int (kat_go (λhe=>kat_yes (kat_cons (wpAny_eqBool_int (kat_go (λhe2=>kat_yes (kat_nil ?_)) (λhe2=>kat_no ?_))))) (λhe=>kat_no ?_)))
 ·have e:=beq_iff_eq.mp he
  have e2:=beq_iff_eq.mp he2;rw[FX (by lia)] at h;exact h
 ·have e:=beq_iff_eq.mp he
  have ne:¬ y1=y2:=λz=>by rw[beq_iff_eq.mpr z] at he2;cases he2
  show wpAny _ _ (oneLt' false (.int y1 u) (.int y2 u')) _ _ _;refine kat_one _ _ (PyProof.Rows.lt_int ?_);show Q (decide (y1<y2)) s;rw[decide_eq_decide.mpr (show (y1<y2)↔(x1<x2\/x1=x2/\y1<y2) from ⟨λz=>.inr ⟨e,z⟩,λz=>by lia⟩)];exact h
 ·have ne:¬ x1=x2:=λz=>by rw[beq_iff_eq.mpr z] at he;cases he
  show wpAny _ _ (oneLt' true (.int x1 t) (.int x2 t')) _ _ _;refine oneLt_int ?_;rw[decide_eq_decide.mpr (show (x1<x2)↔(x1<x2\/x1=x2/\y1<y2) from ⟨λz=>.inl z,λz=>by lia⟩)];exact h
def FH:List V->Hp->VK->Prop:=λvs H Q=>∃(a:Addr) (as:List Addr) (kz:Nat->Int),vs=[.ref a]/\H a=some (.lst (as.map V.ref))/\as.length<64/\(∀i,i<as.length->H (as.getD i 0)=some (.tup [.int (kz i),.int i])) /\
 ∀(r:Addr) (ps:List Nat),H r=none->ps.Perm (Zyi as.length)->ps.Pairwise (klt kz)->Q (.ref r) (upd H r (.lst (ps.map λi=>V.ref (as.getD i 0))))
theorem dh:AK X (.builtin "sorted") FH:=by
 intro pins s Z H vs us Q I r h;obtain⟨a,as,kz,rfl,ha,h64,htup,q⟩:=h;obtain⟨u,rfl,ru⟩:=Fc r;cases ru;obtain⟨its,rv,hl,hlt⟩:=Av I ha;have ei:its=as.map Value.ref:=by
  have:∀{Cs:List Addr} {us:List Value},AC (Cs.map V.ref) us->us=Cs.map Value.ref:=λ{Cs}=>by
   induction Cs with
   |nil=>intro us h;cases h;rfl
   |cons C Cs ih =>
    intro us h;cases h with
    |cons r t =>
     have e:_=Value.ref C:=r;rw[e,ih t];rfl
  exact this rv
 subst ei;by_cases h2:(as.map Value.ref).length<2
 ·refine bc hl h2 λout eo=>?_;obtain⟨e,he⟩:=sortedAll_at s.heap (as.map Value.ref) out;have hn:H (s.heap.objs.size+1)=none:=I.hok.fresh (Zu6 _);rw[Zzz] at h2;have er:=jk as;have hq:=q (s.heap.objs.size+1) (Zyi as.length) hn (List.Perm.refl _) (by
   rw[Zww]
   intro i j hi hj hij
   rw[Zvu] at hi hj
   lia)
  rw[er] at hq;refine⟨.ref _,_,I.laid (t':=s.toks) (o:=.lst (as.map V.ref)) (λb o eb=>sortedAll_old eb) (Zu6 _) ⟨?_,out.toList,e,by rw[eo];exact rv,?_⟩,rfl,hq⟩
  ·rw[Zzz];exact Ag (by lia)
  ·rw[Zwu];exact he
 ·have h2:2<=(as.map Value.ref).length:=Nat.le_of_not_lt h2
  have hal:(as.map Value.ref).length=as.length:=Zzz ..;obtain⟨m,F⟩:=I.fr;have pin:∀(h:Heap),(∀b o,b≠X.env.locals->s.heap.get? b=some o->h.get? b=some o)->∀i,i<as.length->Y3 h (as.getD i 0) (kz i) i:=λh kp i hi=>by
   obtain⟨its,rt,pt,_⟩:=I.tuple (SqT.of (htup i hi));obtain⟨⟨c2,dd,data,sl⟩,ho,hcl,n,hd⟩:=id (show s.heap.IsTuple (as.getD i 0) its.toArray from pt);obtain⟨u1,u2,e,⟨t1,r1⟩,⟨t2,r2⟩⟩:=R5 rt;subst e r1 r2;exact⟨_,_,n,t1,t2,kp _ _ (λz=>by have:=htup i hi;rw[z,I.free] at this;cases this) ho,hcl,hd,rfl⟩
  refine kat_sorted F Sn hl h2 (by lia) λD e1 h' F' N' hlt2=>?_;have kp:∀b o,b≠X.env.locals->s.heap.get? b=some o->h'.get? b=some o:=λb o nb e=>by
   cases z:X.base.get? b with
   |some u =>
    have:=I.bk b u z;rw[e] at this;cases this;exact F'.keep b _ z
   |none=>exact(N' (b,o) (Zzl _ (Gp nb z e))).1
  obtain⟨fs,k1,k2,k3⟩:=js (h:=h') (as:=as) λb hb=>by
   obtain⟨i,hi,e⟩:=Zy2.mp hb;have:=pin h' kp i hi;rw[Zzp,Zzr hi,Zvq,e] at this;exact⟨_,_,this⟩
  refine kat_kind (T:=.type "int") k1 (by lia) (λv hv=>by obtain⟨k,t,rfl⟩:=k3 v hv;exact Looks.of_pure rfl) (by decide) ?_;rw[show (Value.type "int" != Value.type "tuple")=true by decide];rw[hal];refine Sw (n:=as.length) (key:=λi=>kz i*64+i) (Qp:=λp=>Srt as.length (λi=>kz i*64+i) p as.length) (λi j C hi hj hC=>?_) (λp hp=>?_) (fg (by lia))
  ·have gi:∀i,i<as.length->(as.map Value.ref).getD i Value.none=.ref (as.getD i 0):=λi hi=>by
    rw[Zzp,Zzy,Zzr hi,Zzp,Zzr hi];rfl
   show wpAny _ _ (keyLt' (tuples' true) ((as.map Value.ref).getD i Value.none) ((as.map Value.ref).getD j Value.none)) C _ _;rw[gi i hi,gi j hj];refine y9 (pin h' kp i hi) (pin h' kp j hj) ?_;rw[decide_eq_decide.mpr (show (kz i<kz j\/kz i=kz j/\(i:Int)<j)↔(kz i*64+i<kz j*64+j) from by lia)];exact hC
  ·refine KasFin.intro F' N' (.head λq hq=>Zz2 (hlt2 q hq)) λh3 c3 F3 N3=>?_;have hD:=N3 _ Zzm;have kp3:∀b o,b≠X.env.locals->s.heap.get? b=some o->h3.get? b=some o:=λb o nb e=>by
    cases z:X.base.get? b with
    |some u =>
     have:=I.bk b u z;rw[e] at this;cases this;exact F3.keep b _ z
    |none=>exact(N3 (b,o) (Zzl _ (Gp nb z e))).1
   have tL:∀b u,H b=some u->b≠X.env.locals:=λb u e z=>by rw[z,I.free] at e;cases e
   have neD:∀b o,s.heap.get? b=some o->b≠D:=λb o e z=>by
    by_cases hb:b=X.env.locals
    ·exact hD.2.1 (z.symm.trans hb)
    ·cases y:X.base.get? b with
     |some u=>rw[z] at y;rw[hD.2.2] at y;cases y
     |none=>exact absurd (hlt2 (b,o) (Gp hb y e)) (by rw[z];exact Zwl _)
   have HD:H D=none:=by
    cases y:H D with
    |none=>rfl
    |some u =>
     obtain⟨o,e⟩:=(show ∃o,s.heap.get? D=some o from gv (I.hok D u y));exact absurd rfl (neD D o e)
   have ev:(p.toList.map λi=>(as.map Value.ref).getD i Value.none)=p.toList.map λi=>Value.ref (as.getD i 0):=Zxo λi hi=>by
    have hi:i<as.length:=Zx1.mp (hp.pm.mem_iff.mp hi);rw[Zzp,Zzy,Zzr hi,Zzp,Zzr hi];rfl
   have vs2:AC (p.toList.map λi=>V.ref (as.getD i 0)) (p.toList.map λi=>(as.map Value.ref).getD i Value.none):=by
    rw[ev];generalize p.toList=l;induction l with
    |nil=>exact .nil
    |cons i l ih=>exact .cons rfl ih
   have hpl:p.toList.length=as.length:=by rw[hp.pm.length_eq,Zvu]
   have pw:p.toList.Pairwise (klt kz):=by
    have hb:∀i∈p.toList,i<64:=λi hi=>Zup (Zx1.mp (hp.pm.mem_iff.mp hi)) h64;refine List.Pairwise.imp_of_mem ?_ (ph hp);intro i j hi hj hk;have h1:=hb i hi;have h2:=hb j hj;have hk:(kz i*64+i<kz j*64+j)\/(kz i*64+i=kz j*64+j/\i<j):=hk;unfold klt;lia
   have I3:Inv X pins Z (upd H D (.lst (p.toList.map λi=>V.ref (as.getD i 0)))) {s with heap:=h3,gens:=s.gens,drawn:=s.drawn,toks:=s.toks}:=by
    refine I.step (g':=s.gens) (d':=s.drawn) (ch:=[]) (λ_ z=>nomatch z) (λb o nb _ _ e _=>kp3 b o nb e) (λb o nb _ _ e _=>⟨o.slots,kp3 b o nb e⟩) (λb o _ e n=>by rw[Ab (neD b o e)];exact n) (λb o _ e=>?_)
     (λb ys e=>by rw[Ab (A5 e HD)];exact e) (λb o u e=>by rw[Ab (A5 e HD)];exact e) (λb ps e=>⟨#[],by rw[Ab (A5 e HD),e];simp⟩) (λm' hm'=>?_) (λb u e=>?_) I.bare
    ·by_cases hb:b=X.env.locals
     ·obtain⟨oL,_,_,e2,_⟩:=F3.ns;exact⟨oL,by rw[hb];exact e2⟩
     ·exact⟨o,kp3 b o hb e⟩
    ·have em:m'=m:=funext λx=>hm'.agree F.ns x
     rw[em];exact F3.ns
    ·by_cases hb:b=D
     ·subst hb;rw[A0] at e;cases e;exact⟨by rw[Zzz,hpl];exact Ag (by lia),_,c3,vs2,hD.1⟩
     ·rw[Ab hb] at e;refine(I.hok b u e).stay (λb' u' hb' q'=>kp3 b' u' ?_ q') (λb' q'=>by rw[Ab (A5 q' HD)];exact q') λb' ys q'=>by rw[Ab (A5 q' HD)];exact q'
      rcases hb' with r | r
      ·rw[r];exact tL b u e
      ·exact tL b' _ r
   exact⟨.ref D,_,I3,rfl,q D p.toList HD hp.pm pw⟩
end L2
namespace L2
open PySem PySem.Spec PyProof.Rows
noncomputable def cy(ns:Nat->Int):Nat->Int
 |0=>ns 0
 |k+1=>if ns (k+1)<cy ns k then ns (k+1) else cy ns k
section
variable {I:Addr}{P:Nat->Value->Prop}{St:Nat->Heap->Prop}
end
def minL(ns:List Int):Int:=cy (λi=>(ns[i]?).getD 0) (ns.length - 1)
def fz:List V->Hp->VK->Prop:=λvs H Q=>∃a ns,vs=[.ref a]/\H a=some (.lst (ns.map V.int))/\ns≠[]/\Q (.int (minL ns)) H
end L2
namespace L2
open PySem PySem.Spec PyProof.Rows PySem.W NP
end L2
namespace L2
open PySem PySem.Spec PyProof.Rows
end L2
set_option maxHeartbeats 4000000
namespace L2
open PySem PySem.Spec PyProof.Rows PySem.W
section
variable {fs:List Addr}{H0:Hp}{h0 h1 h2 B:Heap}{L:Addr}
end
section
variable {cd:Value}{E:XK}
end
section
variable {W:Value->Shared->Prop}{cls:Value}{B:Heap}
end
abbrev TF:=Nat->St->Hp->(Hp->Prop)->Prop
section
variable {t:TF}{p q:Pos}
theorem Xg(h:n<=1000000):n<=sizeLine:=Zzd h (by decide)
end
end L2
set_option maxHeartbeats 1000000
namespace L2
open PySem PySem.Spec PySem.Calls PyProof.Rows PySem.W Builtin Builtin.ObjectAttr Builtin.Getset_descriptor
section
variable {K:Frag}{x D:Addr}
end
end L2
namespace L2
open PySem PySem.Spec PyProof.Rows PySem.W
def EW:List V->Hp->VK->Prop:=λxs H Q=>∃i:Int,xs=[.int i]/\i.natAbs<10^577/\Q (.str (Str.ofString (toString i))) H
theorem ub(h:n<10^577):n.log2<1920:=by
 by_cases z:n=0
 ·subst z;decide
 ·rw[Nat.log2_lt z];exact Zz3 h (by decide +kernel)
theorem D8:AK X (.type "str") EW:=by
 intro pins s Z H xs us Q I r h;obtain⟨i,rfl,hi,q⟩:=h;obtain⟨u,rfl,t,rfl⟩:=Fc r;exact P.str_of_int (ub hi) ⟨.str _,H,I.tok _,⟨_,rfl⟩,q⟩
def FR:List V->Hp->VK->Prop:=λxs H Q=>∃(x:Str) (n:Int),xs=[.str x]/\Zv8 x=some n/\x.length<=640/\Q (.int n) H
theorem Vw:AK X (.type "int") FR:=by
 intro pins s Z H xs us Q I r h;obtain⟨x,n,rfl,hn,hl,q⟩:=h;obtain⟨u,rfl,t,rfl⟩:=Fc r;exact KIN.call_text hn hl ⟨.int _,H,I.tok _,⟨_,rfl⟩,q⟩
end L2
namespace L2
open PySem PySem.Spec PyProof.Rows PySem.W NP
def Kp(g h:Heap):Prop:=∀b o,g.get? b=some o->h.get? b=some o
section
variable {I S:Addr}{P:Nat->Value->Prop}{St:Nat->Heap->Prop}
end
end L2
namespace L2
open PySem PySem.Spec PyProof.Rows
end L2
namespace NP
open PySem L2
def nk(j:Nat):Key:=Sum.inl (j:Int)
end NP
namespace L2
open PySem PySem.Spec PyProof.Rows PySem.W
end L2
namespace NP
open PySem L2
end NP
set_option maxHeartbeats 4000000
namespace L2
open PySem PySem.Spec PyProof.Rows
def FS:V->List V->Hp->VK->Prop:=λx vs H Q=>∃(sep:Str) (l:Addr) (xs:List Str) (B:Nat),x=.str sep/\vs=[.ref l]/\H l=some (.lst (xs.map V.str))/\(∀y∈xs,y.length<=B)/\xs.length*B+xs.length*sep.length<=16777216/\Q (.str (Str.join sep xs)) H
theorem Ij{sep:Str}{B:Nat}{xs:List Str}(h:∀y∈xs,y.length<=B):(Str.join sep xs).length<=xs.length*B+xs.length*sep.length:=by
 rw[<- Zus,size_glued];have h1:=StrLaws.sumLen_le xs h;have h2:(xs.length - 1)*sep.length<=xs.length*sep.length:=Nat.mul_le_mul_right _ (Nat.sub_le _ _);lia
theorem Qz:∀{xs:List Str} {us:List Value},AC (xs.map V.str) us->∃l:List (Str×Tok),strValues l=us/\l.map (·.1)=xs
 |[],_,.nil=>⟨[],rfl,rfl⟩
 |x::xs,u::us,.cons r t=>by
  obtain⟨l,h1,h2⟩:=Qz t;obtain⟨tk,rfl⟩:=r;exact⟨(x,tk)::l,by rw[<- h1];rfl,by rw[<- h2];rfl⟩
theorem Hg:MtM X "str.join" FS:=by
 intro pins s Z H x vs v us Q I rx hv h;obtain⟨sep,l,xs,B,rfl,rfl,hH,hB,hz,q⟩:=h;obtain⟨tk,rfl⟩:=rx;obtain⟨u,rfl,ru⟩:=hv.one;cases ru;obtain⟨z,its,n,r,hlx,e⟩:=I.lstM hH;obtain⟨ps,rfl,hps⟩:=Qz r;refine call_meets F.slot_str_join (typeIs_str s sep tk) F.entry_str_join (F.args_str_join_2 _ _) (meets_str_join_list sep tk l ps (by rw[hps];exact StrLaws.joinFits hB hz)) ⟨⟨_,e,rfl,n,rfl⟩,?_⟩;have fin:∀t,(EP X pins Z Q) (.str (Str.join sep xs) t) s:=λt=>⟨.str (Str.join sep xs),H,I,⟨t,rfl⟩,q⟩;have fin2:∀t t',(EP X pins Z Q) (.str (Str.join sep xs) t) {s with toks:=t'}:=λt t'=>⟨.str (Str.join sep xs),H,I.tok _,⟨t,rfl⟩,q⟩;have hjl:(Builtin.Str.glued sep xs).length<=sizeLine:=by
  rw[Zus,sizeLine_eq];exact Zzd (Ij hB) hz
 subst hps;match ps with
 |[]=>exact⟨hjl,fin2 _ _⟩
 |[p]=>exact fin p.2
 |p::p2::r2 =>
  have e2:=Zus sep ((p::p2::r2).map (·.1));have f3:=fin2 s.toks (s.toks+1);rw[<- e2] at f3;exact⟨hjl,f3⟩
section
variable {I:Addr}{G:Array GenState->Array GenState->Prop}{St:Nat->Shared->Prop}
end
end L2
namespace L2
open PySem PySem.Spec PyProof.Rows PySem.W
end L2
namespace L2
open PySem PySem.Spec PyProof.Rows
def g7:R2:=λx y H Q=>∃l b xs zs,x=.ref l/\y=.ref b/\H l=some (.lst xs)/\H b=some (.lst zs)/\xs.length+zs.length<=sizeLine/\Q (.ref l) (upd H l (.lst (xs++zs)))
end L2
namespace L2
open PySem PySem.Spec PyProof.Rows Builtin Builtin.Str
def one(c:Nat):Str:=⟨#[c]⟩
theorem Xc(x:Str)(c lim:Nat):∀(l:List Nat) (st:Array Nat×Nat),(∀i∈l,st.2<=i)->l.Pairwise (·<·)->st.1.size+l.length<=lim ->
  (forIn l st (StrLaws.occBody x (one c) x.length lim)).run.1.toList=st.1.toList++l.filter λi=>decide (x.cps.toList[i]?=some c)
 |[],st,_,_,_=>by simp
 |a::r,st,h1,h2,h3=>by
  rw[Zvz];unfold StrLaws.occBody;have hr:=Zu4.mp h2;rw[Zys] at h3;have iff:=StrLaws.subAt_one x c a;by_cases hc:x.cps.toList[a]?=some c
  ·obtain⟨g1,g2⟩:=iff.mpr hc;rw[FZ ⟨⟨⟨by lia,h1 a Zzm⟩,g1⟩,g2⟩,Zyk,FZ (FW hc)];have:=Xc x c lim r (st.1.push a,a+(one c).length) (λi hi=>hr.1 i hi) hr.2 (by simp;lia);refine this.trans ?_;simp
  ·rw[FY (λz=>hc (iff.mp ⟨z.1.2,z.2⟩)),Zyk,FY (by simpa using hc)];exact Xc x c lim r st (λi hi=>h1 i (Zzl _ hi)) hr.2 (by lia)
theorem rz(x:Str)(c:Nat):occurrences x (one c) 0 x.length (x.length+1)=(List.range' 0 (x.length+1)).filter λi=>decide (x.cps.toList[i]?=some c):=by
 rw[StrLaws.occ_eq];have:=Xc x c (x.length+1) (List.range' 0 (x.length+1 - 0)) (#[],0) (λ_ _=>Zyz _) List.pairwise_lt_range' (by simp);rw[this];rfl
theorem Z5(x:Str)(c:Nat):∀(cuts:List Nat) (a:Nat),(∀i,a<=i->x.cps.toList[i]?=some c->i∈cuts)->(∀i∈cuts,a<=i)->cuts.Pairwise (·<·)->∀p∈StrLaws.partsFrom x 1 a cuts,c∉p.cps.toList
 |[],a,h,_,_,p,hp=>by
  have hp:p∈[strSub x a x.length]:=hp;rw[Zzc.mp hp,StrLaws.strSub_toList];intro z;obtain⟨i,hi⟩:=Zwi (Zuh z);rw[Zu5] at hi;cases h (a+i) (by lia) hi
 |k::r,a,h,h0,hs,p,hp=>by
  have hp:p∈strSub x a k::StrLaws.partsFrom x 1 (k+1) r:=hp;have hr:=Zu4.mp hs;rcases Zzs.mp hp with rfl | hp
  ·rw[StrLaws.strSub_toList];intro z;obtain⟨i,hi⟩:=Zwi z;have hl:=(Zze.mp hi).1;rw[Zz7] at hl;rw[List.getElem?_take_of_lt (by lia),Zu5] at hi;rcases Zzs.mp (h (a+i) (by lia) hi) with e | e
   ·lia
   ·have:=hr.1 _ e
    lia
  ·have hk:=h0 k Zzm
   refine Z5 x c r (k+1) (λi hi he=>?_) (λi hi=>hr.1 i hi) hr.2 p hp;rcases Zzs.mp (h i (by lia) he) with e | e
   ·lia
   ·exact e
theorem pi(x:Str)(c:Nat)(hc:c<256):∀p∈Txt.split x (one c),c∉p.cps.toList:=λp hp=>by
 have hs:(List.range' 0 (x.length+1)).Pairwise (·<·):=List.pairwise_lt_range';have all:∀i,x.cps.toList[i]?=some c->i∈occurrences x (one c) 0 x.length (x.length+1):=λi hi=>by
  rw[rz];have:=(Zze.mp hi).1;have hl:x.cps.toList.length=x.length:=by show x.cps.toList.length=x.cps.size;simp
  refine Zyf.mpr ⟨?_,FW hi⟩;rw[List.mem_range'];exact⟨i,by lia,by lia⟩
 unfold Txt.split at hp;split at hp
 ·rename_i h1;rw[Zzc.mp hp];have l1:(one c).length=1:=rfl;have k1:Zwr (one c)=1:=by
   unfold Zwr one;rw[FZ (by simpa using hc)]
  have k2:1<=Zwr x:=by unfold Zwr;split<;>(try split)<;>decide
  have:x.length=0:=by
   rcases Bool.or_eq_true_iff.mp h1 with z | z
   ·have:=FV z;lia
   ·have:=FV z;lia
  intro z;have hl:x.cps.toList.length=0:=by rw[<- this];show x.cps.toList.length=x.cps.size;simp
  rw[List.eq_nil_of_length_eq_zero hl] at z;cases z
 ·split at hp
  ·rename_i h2;rw[Zzc.mp hp];intro z;obtain⟨i,hi⟩:=Zwi z;have:=all i hi;rw[List.isEmpty_iff.mp h2] at this;cases this
  ·rw[StrLaws.partsBetween_eq] at hp;refine Z5 x c _ 0 (λi _ hi=>all i hi) (λ_ _=>Zyz _) ?_ p hp;rw[rz];exact hs.filter _
theorem Vo:∀{w w' X X':List Nat},c∉w->c∉w'->w++c::X=w'++c::X'->w=w'/\X=X'
 |[],[],X,X',_,_,h=>by simpa using h
 |[],b::w',X,X',_,h2,h=>by
  have:c=b:=by simpa using (Zwt h).1
  exact absurd (by rw[this];exact Zzm) h2
 |a::w,[],X,X',h1,_,h=>by
  have:a=c:=by simpa using (Zwt h).1
  exact absurd (by rw[this];exact Zzm) h1
 |a::w,b::w',X,X',h1,h2,h=>by
  have h:=Zwt h;obtain⟨e1,e2⟩:=Vo (λz=>h1 (Zzl _ z)) (λz=>h2 (Zzl _ z)) h.2;exact⟨by rw[h.1,e1],e2⟩
theorem L5(c:Nat)(w v:Str)(r:List Str):(Str.join (one c) (w::v::r)).cps.toList=w.cps.toList++c::(Str.join (one c) (v::r)).cps.toList:=by
 show (w++one c++Str.join (one c) (v::r)).cps.toList=_;rw[Str.cps_append,Str.cps_append];simp[one]
theorem fc{a b:Str}(h:a.cps.toList=b.cps.toList):a=b:=Str.ext' (Array.toList_inj.mp h)
theorem Zs{c:Nat}:∀{ws us:List Str},ws≠[]->us≠[]->(∀w∈ws,c∉w.cps.toList)->(∀w∈us,c∉w.cps.toList)->Str.join (one c) ws=Str.join (one c) us->ws=us
 |[],_,h,_,_,_,_=>absurd rfl h
 |_::_,[],_,h,_,_,_=>absurd rfl h
 |[w],[u],_,_,_,_,h=>by rw[show w=u from h]
 |[w],u::u2::r,_,_,h1,_,h=>by
  have e:=congrArg (λz:Str=>z.cps.toList) h;have e:w.cps.toList=(Str.join (one c) (u::u2::r)).cps.toList:=e;rw[L5] at e;exact absurd (by rw[e];simp) (h1 w Zzm)
 |w::w2::r,[u],_,_,_,h2,h=>by
  have e:=congrArg (λz:Str=>z.cps.toList) h;have e:(Str.join (one c) (w::w2::r)).cps.toList=u.cps.toList:=e;rw[L5] at e;exact absurd (by rw[<- e];simp) (h2 u Zzm)
 |w::w2::r,u::u2::r2,_,_,h1,h2,h=>by
  have e:=congrArg (λz:Str=>z.cps.toList) h;have e:(Str.join (one c) (w::w2::r)).cps.toList=(Str.join (one c) (u::u2::r2)).cps.toList:=e;rw[L5,L5] at e;obtain⟨e1,e2⟩:=Vo (h1 w Zzm) (h2 u Zzm) e;have:=Zs (ws:=w2::r) (us:=u2::r2) (by simp) (by simp) (λx hx=>h1 x (Zzl _ hx)) (λx hx=>h2 x (Zzl _ hx)) (fc e2);rw[fc e1,this]
theorem Fw{ws:List Str}(hc:c<256)(h:ws≠[])(hn:∀w∈ws,c∉w.cps.toList):Txt.split (Str.join (one c) ws) (one c)=ws:=by
 refine Zs (c:=c) (λz=>?_) h (pi _ _ hc) hn (StrLaws.join_split _ _);have:=split_pos (Str.join (one c) ws) (one c);rw[z] at this;exact absurd this (by decide)
def FI:V->List V->Hp->VK->Prop:=λx vs H Q=>∃(y:Str) (c:Nat),x=.str y/\vs=[.str (one c)]/\y.length<=1000000/\∀p,H p=none->Q (.ref p) (upd H p (.lst ((Txt.split y (one c)).map V.str)))
theorem Ua:∀(l:List Str) (k:Nat),AC (l.map V.str) (strsFrom k l)
 |[],_=>.nil
 |x::r,k=>.cons ⟨_,rfl⟩ (Ua r (k+1))
theorem Ji:MtM X "str.split" FI:=by
 intro pins s Z H x vs v us Q I rx rv h;obtain⟨y,c,rfl,rfl,hy,q⟩:=h;obtain⟨t,rfl⟩:=rx;obtain⟨u,rfl,ru⟩:=rv.one;obtain⟨t2,rfl⟩:=ru;have hz:y.length<=sizeLine:=Zzd hy (by decide);have hf:H s.heap.objs.size=none:=I.hok.fresh (Zzq _);have hl:=split_le y (one c);have hl2:(1000002:Nat)<=sizeLine:=by decide
 have fin:∀(its:List Value) (t':Nat),AC ((Txt.split y (one c)).map V.str) its->(EP X pins Z Q) (.ref s.heap.objs.size) {s with heap:=s.heap.push {cls:=.type "list",data:=.seq its.toArray},toks:=t'}:=λits t' r=>⟨.ref s.heap.objs.size,_,I.laid (t':=t') (λb o e=>Zzx _ e) (Zzq _) (show AJ X.prog X.w _ _ _ (.lst ((Txt.split y (one c)).map V.str)) from ⟨by rw[Zzz];lia,its,0,r,Zzj _ rfl⟩),rfl,q _ hf⟩;have one1:Txt.split y (one c)=[y]->AC ((Txt.split y (one c)).map V.str) [Value.str y t]:=λe=>by rw[e];exact .cons ⟨_,rfl⟩ .nil
 cases h1:(decide (y.length<(one c).length)||decide (Zwr y<Zwr (one c))) with
 |true =>
  have e:Txt.split y (one c)=[y]:=by unfold Txt.split;exact FZ h1
  exact call_meets F.slot_str_split (typeIs_str s y t) F.entry_str_split (F.args_str_split_2 _ _) (meets_str_split_cannot_occur y (one c) t t2 h1) (fin _ s.toks (one1 e))
 |false =>
  cases h2:(occurrences y (one c) 0 y.length (y.length+1)).isEmpty with
  |true =>
   have e:Txt.split y (one c)=[y]:=by unfold Txt.split;rw[FY (by rw[h1];decide)];exact FZ h2
   exact call_meets F.slot_str_split (typeIs_str s y t) F.entry_str_split (F.args_str_split_2 _ _) (meets_str_split_not_found y (one c) t t2 h1 rfl h2) (fin _ s.toks (one1 e))
  |false =>
   have e:Txt.split y (one c)=partsBetween y (occurrences y (one c) 0 y.length (y.length+1)) (one c).length:=by unfold Txt.split;rw[FY (by rw[h1];decide)];exact FY (by rw[h2];decide)
   have r:=Ua (Txt.split y (one c)) s.toks;rw[e] at r;refine call_meets F.slot_str_split (typeIs_str s y t) F.entry_str_split (F.args_str_split_2 _ _) (meets_str_split_sep y (one c) t t2 h1 rfl h2 hz (by rw[<- e];lia)) ?_;exact fin _ _ (by rw[e];exact r)
end L2
namespace L2
open PySem PySem.Spec PyProof.Rows
def Tm(P:Program)(w:World)(A:Around)(h:Heap)(ex:List Addr)(it:Addr)(x:Value)(Pt:Heap->Prop):Prop:=∀(t:Shared) (Q:Value->Shared->Prop) (E:Value->Shared->Prop),(∀c o,c∉ex->h.get? c=some o->t.heap.get? c=some o)->(∀h',Pt h'->Zy7 it t.heap h'->Q x {t with heap:=h'})->wpAny (model P w) A (Zyq (.ref it)) Q E t
def Q4(P:Program)(w:World)(A:Around)(h:Heap)(ex:List Addr)(it:Addr):Prop:=∀(t:Shared) (Q:Value->Shared->Prop) (E:Value->Shared->Prop),(∀c o,c∉ex->h.get? c=some o->t.heap.get? c=some o)->(∀h' e,Heap.ExtBut it t.heap h'->(∃o,h'.get? e=some o/\o.cls=.type "StopIteration")->E (.ref e) {t with heap:=h'})->wpAny (model P w) A (Zyq (.ref it)) Q E t
section
variable {z TI TO i1 i2:Addr}{x y a b:Value}
theorem j5{P1 P2:Heap->Prop}(nd:[z,TI,TO,i1,i2].Nodup)(hz:IsZip s.heap z TI TO .none)(hTI:IsPair s.heap TI (.ref i1) (.ref i2))(hTO:IsPair s.heap TO a b)
  (g1:Tm P w A s.heap [z] i1 x P1) (g2:Tm P w A s.heap [z,TO,i1] i2 y P2)
  (k1:∀h h',P1 h->(∀o,h.get? i1=some o->h'.get? i1=some o)->P1 h') (k2:∀h h',P2 h->(∀o,h.get? i2=some o->h'.get? i2=some o)->P2 h')
  (hq:∀h',IsZip h' z TI TO (rawInt s.heap.objs.size)->IsPair h' TO x y->P1 h'->P2 h'->IsPair h' s.heap.objs.size x y->h'.objs.size=s.heap.objs.size+1->(∀c o,c∉[z,TO,i1,i2]->s.heap.get? c=some o->h'.get? c=some o)->Q (.ref s.heap.objs.size) {s with heap:=h'}) :
  wpAny (model P w) A (Builtin.«zip.__next__» ⟨[.ref z],[]⟩) (λfin s'=>∃v,fin=.done (.ret v)/\Q v s') E s:=by
 simp only[Zyj,Zzs,Zzk,or_false,not_or,Zwy,and_true,not_false_eq_true] at nd;obtain⟨⟨n1,n2,n3,n4⟩,⟨n5,n6,n7⟩,⟨n8,n9⟩,n10⟩:=nd;show wpAny _ _ (field (.ref z) 2 >>= _) _ _ _;refine GA (wpAny_field hz rfl (x:=.bool false) rfl ?_);show wpAny _ _ (field (.ref z) 3 >>= _) _ _ _;refine GA (wpAny_field hz rfl (x:=.ref TI) rfl (GA (wpAny_seqItems hTI rfl ?_)));show wpAny _ _ (Zyd (.ref z) >>= _) _ _ _;refine GA ?_;unfold Zyd;refine GA (wpAny_field hz rfl (x:=.none) rfl (GB ?_));simp only[if_true];refine GA (wpAny_rule (GA (wpAny_field hz rfl (x:=.ref TO) rfl (GA (wpAny_setField_rec hz (by simp) λh₁ hz₁ hs₁=>GA ?_)))));simp only[Zum,Zuv,Zu9,Zvz];have e1:∀c o,c≠z->s.heap.get? c=some o->h₁.get? c=some o:=λc o n e=>hs₁.extBut _ _ n e;refine GA (GA (wpAny_onRaise ?_));show wpAny _ _ (Zyq (.ref i1) >>= _) _ _ _
 refine GA (g1 {s with heap:=h₁} _ _ (λc o n e=>e1 c o (by simpa using n) e) λh₂ p2 hs₂=>GB ?_);have e2:∀c o,c≠z->c≠i1->s.heap.get? c=some o->h₂.get? c=some o:=λc o n m e=>hs₂.extBut _ _ m (e1 c o n e);have t2:IsPair h₂ TO a b:=e2 _ _ (Zzi n2) n8 hTO;refine GA (wpAny_seqItems t2 rfl (GA (wpAny_updateSeq_pair t2 λh₃ t3 hs₃=>GA (wpAny_letGo (GB ?_)))));have t3:IsPair h₃ TO x b:=t3;have e3:∀c o,c≠z->c≠i1->c≠TO->s.heap.get? c=some o->h₃.get? c=some o:=λc o n m k e=>hs₃.extBut _ _ k (e2 c o n m e);refine GA (GA (wpAny_onRaise ?_));show wpAny _ _ (Zyq (.ref i2) >>= _) _ _ _
 refine GA (g2 {s with heap:=h₃} _ _ (λc o n e=>by simp only[Zzs,Zzk,or_false,not_or] at n;exact e3 c o n.1 n.2.2 n.2.1 e) λh₄ p4 hs₄=>GB ?_);have t4:IsPair h₄ TO x b:=hs₄.extBut _ _ n9 t3;refine GA (wpAny_seqItems t4 rfl (GA (wpAny_updateSeq_pair t4 λh₅ t5 hs₅=>GA (wpAny_letGo (GB (GB ?_))))));have t5:IsPair h₅ TO x y:=t5;refine GA (wpAny_seqItems t5 rfl (GA (wpAny_newTuple ?_)));have sz:h₅.objs.size=s.heap.objs.size:=by rw[hs₅.1,hs₄.1,hs₃.1,hs₂.1,hs₁.1]
 have z5:h₅.get? z=h₁.get? z:=by rw[hs₅.2 z n2,hs₄.2 z n4,hs₃.2 z n2,hs₂.2 z n3]
 have hz₅:IsZip h₅ z TI TO .ellipsis:=z5.trans hz₁;have e5:∀c o,c∉[z,TO,i1,i2]->s.heap.get? c=some o->h₅.get? c=some o:=λc o n e=>by
  simp only[Zzs,Zzk,or_false,not_or] at n;exact hs₅.extBut _ _ n.2.1 (hs₄.extBut _ _ n.2.2.2 (e3 c o n.1 n.2.2.1 n.2.1 e))
 have p1₅:P1 h₅:=k1 _ _ p2 λo e=>hs₅.extBut _ _ (Zzi n8) (hs₄.extBut _ _ n10 (hs₃.extBut _ _ (Zzi n8) e));have p2₅:P2 h₅:=k2 _ _ p4 λo e=>hs₅.extBut _ _ (Zzi n9) e;have zl:z<h₅.objs.size:=Zzg hz₅;show wpAny _ _ (Zxc (.ref z) (.ref h₅.objs.size) >>= _) _ _ _;refine GA ?_;unfold Zxc;refine GA (wpAny_setField_rec (Zzx _ hz₅) (by simp) λh₇ hz₇ hs₇=>wpAny_setField_rec hz₇ (by simp) λh₈ hz₈ hs₈=>?_);have up:∀c o,c≠z->h₅.get? c=some o->h₈.get? c=some o:=λc o n e=>hs₈.extBut _ _ n (hs₇.extBut _ _ n (Zzx _ e));have hz₈:IsZip h₈ z TI TO (rawInt h₅.objs.size):=hz₈;have t8:IsPair h₈ h₅.objs.size x y:=hs₈.extBut _ _ (Zxt zl) (hs₇.extBut _ _ (Zxt zl) (Zzj _ rfl));have s8:h₈.objs.size=h₅.objs.size+1:=by rw[hs₈.1,hs₇.1,Zye]
 rw[sz] at hz₈ t8 s8;refine GB ⟨_,rfl,?_⟩;show Q (.ref h₅.objs.size) _;rw[sz];exact hq h₈ hz₈ (up _ _ (Zzi n2) t5) (k1 _ _ p1₅ λo e=>up _ o (Zzi n3) e) (k2 _ _ p2₅ λo e=>up _ o (Zzi n4) e) t8 s8 λc o n e=>up c o (λq=>n (by simp[q])) (e5 c o n e)
theorem mq{P1:Heap->Prop}{Q:Fin->Shared->Prop}(nd:[z,TI,TO,i1,i2].Nodup)(hz:IsZip s.heap z TI TO .none)(hTI:IsPair s.heap TI (.ref i1) (.ref i2))(hTO:IsPair s.heap TO a b)
  (g:Q4 P w A s.heap [z] i1\/(Tm P w A s.heap [z] i1 x P1/\Q4 P w A s.heap [z,TO,i1] i2))
  (hE:∀h' e,(∀c o,c∉[z,TO,i1,i2]->s.heap.get? c=some o->h'.get? c=some o)->(∃o,h'.get? e=some o/\o.cls=.type "StopIteration")->E (.ref e) {s with heap:=h'}) :
  wpAny (model P w) A (Builtin.«zip.__next__» ⟨[.ref z],[]⟩) Q E s:=by
 simp only[Zyj,Zzs,Zzk,or_false,not_or,Zwy,and_true,not_false_eq_true] at nd;obtain⟨⟨n1,n2,n3,n4⟩,⟨n5,n6,n7⟩,⟨n8,n9⟩,n10⟩:=nd;show wpAny _ _ (field (.ref z) 2 >>= _) _ _ _;refine GA (wpAny_field hz rfl (x:=.bool false) rfl ?_);show wpAny _ _ (field (.ref z) 3 >>= _) _ _ _;refine GA (wpAny_field hz rfl (x:=.ref TI) rfl (GA (wpAny_seqItems hTI rfl ?_)));show wpAny _ _ (Zyd (.ref z) >>= _) _ _ _;refine GA ?_;unfold Zyd;refine GA (wpAny_field hz rfl (x:=.none) rfl (GB ?_));simp only[if_true];refine GA (wpAny_rule (GA (wpAny_field hz rfl (x:=.ref TO) rfl (GA (wpAny_setField_rec hz (by simp) λh₁ hz₁ hs₁=>GA ?_)))));simp only[Zum,Zuv,Zu9,Zvz];have hz₁:IsZip h₁ z TI TO .ellipsis:=hz₁;have e1:∀c o,c≠z->s.heap.get? c=some o->h₁.get? c=some o:=λc o n e=>hs₁.extBut _ _ n e;refine GA (GA (wpAny_onRaise ?_));show wpAny _ _ (Zyq (.ref i1) >>= _) _ _ _
 have out:∀(h₂ h₃:Heap) (e:Addr) (f0:Value),IsZip h₂ z TI TO f0->(∃o,h₂.get? e=some o/\o.cls=.type "StopIteration")->Zy7 z h₂ h₃->∃o,h₃.get? e=some o/\o.cls=.type "StopIteration" := λh₂ h₃ e f0 q he sb=>by
  obtain⟨oe,h1,h2⟩:=he;have ne:e≠z:=λy=>by rw[y,q] at h1;cases h1;simp at h2
  exact⟨oe,sb.extBut _ _ ne h1,h2⟩
 rcases g with g1 | ⟨g1,g2⟩
 ·refine GA (g1 {s with heap:=h₁} _ _ (λc o n e=>e1 c o (by simpa using n) e) λh₂ e eb he=>?_);have q:=eb _ _ n3 hz₁;refine wpAny_setField_rec q (by simp) λh₃ _ hs₃=>hE h₃ e (λc o n ec=>?_) (out h₂ h₃ e _ q he hs₃);simp only[Zzs,Zzk,or_false,not_or] at n;exact hs₃.extBut _ _ n.1 (eb _ _ n.2.2.1 (e1 c o n.1 ec))
 ·refine GA (g1 {s with heap:=h₁} _ _ (λc o n e=>e1 c o (by simpa using n) e) λh₂ p2 hs₂=>GB ?_);have e2:∀c o,c≠z->c≠i1->s.heap.get? c=some o->h₂.get? c=some o:=λc o n m e=>hs₂.extBut _ _ m (e1 c o n e);have t2:IsPair h₂ TO a b:=e2 _ _ (Zzi n2) n8 hTO;refine GA (wpAny_seqItems t2 rfl (GA (wpAny_updateSeq_pair t2 λh₃ t3 hs₃=>GA (wpAny_letGo (GB ?_)))));have e3:∀c o,c≠z->c≠i1->c≠TO->s.heap.get? c=some o->h₃.get? c=some o:=λc o n m k e=>hs₃.extBut _ _ k (e2 c o n m e);refine GA (GA (wpAny_onRaise ?_));show wpAny _ _ (Zyq (.ref i2) >>= _) _ _ _
  refine GA (g2 {s with heap:=h₃} _ _ (λc o n e=>by simp only[Zzs,Zzk,or_false,not_or] at n;exact e3 c o n.1 n.2.2 n.2.1 e) λh₄ e eb he=>?_);have q:=eb _ _ n4 (hs₃.extBut _ _ n2 (hs₂.extBut _ _ n3 hz₁));refine wpAny_setField_rec q (by simp) λh₅ _ hs₅=>hE h₅ e (λc o n ec=>?_) (out h₄ h₅ e _ q he hs₅);simp only[Zzs,Zzk,or_false,not_or] at n;exact hs₅.extBut _ _ n.1 (eb _ _ n.2.2.2 (e3 c o n.1 n.2.2.1 n.2.1 ec))
theorem T0{l:Addr}{k:Nat}{xs:Array Value}(ex:List Addr)(h:s.heap.IsListIter i1 l k)(hl:s.heap.IsList l xs)(hx:xs[k]?=some x)(n1:i1∉ex)(n2:l∉ex):Tm P w A s.heap ex i1 x (λh'=>h'.IsListIter i1 l (k+1)):=λt Q E kp hq =>
 wpAny_nextOf_list_item (h.at λo e=>kp _ o n1 e) (hl.at λo e=>kp _ o n2 e) hx λh' a b=>hq h' a b
theorem ld{l:Addr}{k:Nat}{xs:Array Value}(ex:List Addr)(hh:A.handled=none)(h:s.heap.IsListIter i1 l k)(hl:s.heap.IsList l xs)(hx:xs[k]?=none)(n1:i1∉ex)(n2:l∉ex):Q4 P w A s.heap ex i1:=λt Q E kp hq =>
 wpAny_nextOf_list_end hh (h.at λo e=>kp _ o n1 e) (hl.at λo e=>kp _ o n2 e) hx λh' e a b=>hq h' e a b
theorem W7{b:Addr}{ys:Array Value}(q:h.IsTuple b ys)(k:∀o,h.get? b=some o->h'.get? b=some o):h'.IsTuple b ys:=by obtain⟨o,e,r⟩:=q;exact⟨o,k o e,r⟩
theorem lc{l:Addr}{k:Nat}{xs:Array Value}(ex:List Addr)(h:s.heap.IsTupleIter i2 l k)(hl:s.heap.IsTuple l xs)(hx:xs[k]?=some y)(n1:i2∉ex)(n2:l∉ex):Tm P w A s.heap ex i2 y (λh'=>h'.IsTupleIter i2 l (k+1)):=λt Q E kp hq=>by
 have hi:=h.at λo e=>kp _ o n1 e;obtain⟨oi,ei,ci,di⟩:=id hi;obtain⟨ol,el,_,m,dl⟩:=W7 hl λo e=>kp _ o n2 e;unfold Zyq;refine GA (wpAny_callSpecial?_slot (name:=Str.ofString "__next__") hi.typeIs F.slot_tuple_iterator_next (wpAny_call_entry F.slot_tuple_iterator_next hi.typeIs F.entry_tuple_iterator_next ?_ (F.args_tuple_iterator_next_1 _)));show wpAny _ _ (field (.ref i2) 0 >>= _) _ _ t;refine GA (wpAny_field ei di (x:=.ref l) rfl ?_);show wpAny _ _ (if (Value.ref l == Value.none)=true then _ else _) _ _ t;rw[FY (λz:(Value.ref l == Value.none)=true=>Zz8 z)];show wpAny _ _ (field (.ref i2) 1 >>= _) _ _ t;refine GA (wpAny_field ei di (x:=.int k 0) rfl ?_);show wpAny _ _ (seqItems? (.ref l) >>= _) _ _ t;refine GA (wpAny_seqItems el dl ?_);simp only[hx,Zvt];refine GA (wpAny_setField ei di (by simp) (GB ⟨y,rfl,GB (hq _ ⟨_,Zwz _ ei (Obj.isFreed_of_fields (Obj.data_mapFields di _)),(Obj.cls_mapFields ..).trans ci,by rw[Obj.data_mapFields di];simp[rawInt]⟩ (Zud ..))⟩))
theorem vf{l:Addr}{k:Nat}{xs:Array Value}(ex:List Addr)(hh:A.handled=none)(h:s.heap.IsTupleIter i2 l k)(hl:s.heap.IsTuple l xs)(hx:xs[k]?=none)(n1:i2∉ex)(n2:l∉ex):Q4 P w A s.heap ex i2:=λt Q E kp hq=>by
 have hi:=h.at λo e=>kp _ o n1 e;obtain⟨oi,ei,ci,di⟩:=id hi;obtain⟨ol,el,_,m,dl⟩:=W7 hl λo e=>kp _ o n2 e;unfold Zyq;refine GA (wpAny_callSpecial?_slot (name:=Str.ofString "__next__") hi.typeIs F.slot_tuple_iterator_next (wpAny_call_entry F.slot_tuple_iterator_next hi.typeIs F.entry_tuple_iterator_next ?_ (F.args_tuple_iterator_next_1 _)));show wpAny _ _ (field (.ref i2) 0 >>= _) _ _ t;refine GA (wpAny_field ei di (x:=.ref l) rfl ?_);show wpAny _ _ (if (Value.ref l == Value.none)=true then _ else _) _ _ t;rw[FY (λz:(Value.ref l == Value.none)=true=>Zz8 z)];show wpAny _ _ (field (.ref i2) 1 >>= _) _ _ t;refine GA (wpAny_field ei di (x:=.int k 0) rfl ?_);show wpAny _ _ (seqItems? (.ref l) >>= _) _ _ t;refine GA (wpAny_seqItems el dl ?_);simp only[hx,Zvt];refine GA (wpAny_rule (GA (wpAny_setField ei di (by simp) ?_)));show wpAny _ _ (newExc (.type "StopIteration") [] >>= _) _ _ _
 refine GA ?_;simp only[newExc,newTuple];refine GA (wpAny_newObj_type ?_ (by size_fits));refine GA (m:=firstArgMember _ _) (wpAny_of_eq (a:=Value.none) (by first | rfl | (simp only[firstArgMember];rfl)) ?_);refine wpAny_newObj_type ?_ (by size_fits);simp only[raiseNew];refine GA (wpAny_handled ?_);first | rw[show A.in1.handled=none from hh] | rw[hh]
 exact GA (GB (wpAny_throw (hq _ _ (((Zud ..).extBut.push _).push _) ⟨_,Zzj _ rfl,rfl⟩)))
theorem Qx(hh:A.handled=none)(z TI TO i1 i2 l1 l2:Addr)(nd:[z,TI,TO,i1,i2].Nodup)(n1:l1∉[z,TO,i1,i2])(n2:l2∉[z,TO,i1,i2])(xs ys:Array Value) :
  WalksT P w A z [z,TI,TO,i1,i2,l1,l2] [z,TO,i1,i2] (min xs.size ys.size) (λi vals=>∃x y,xs[i]?=some x/\ys[i]?=some y/\vals=#[x,y])
   (λi h=>IsZip h z TI TO .none/\IsPair h TI (.ref i1) (.ref i2)/\(∃a b,IsPair h TO a b)/\h.IsListIter i1 l1 i/\h.IsTupleIter i2 l2 i/\h.IsList l1 xs/\h.IsTuple l2 ys)
   (λi T h=>(IsZip h z TI TO (rawInt T)/\IsPair h TI (.ref i1) (.ref i2)/\(∃a b,IsPair h TO a b)/\h.IsListIter i1 l1 (i+1)/\h.IsTupleIter i2 l2 (i+1)/\h.IsList l1 xs/\h.IsTuple l2 ys)/\T∉[z,TO,i1,i2]):=by
 have nd':=nd;simp only[Zyj,Zzs,Zzk,or_false,not_or,Zwy,and_true,not_false_eq_true] at nd';obtain⟨⟨m1,m2,m3,m4⟩,⟨m5,m6,m7⟩,⟨m8,m9⟩,m10⟩:=nd';have hTIn:TI∉[z,TO,i1,i2]:=by simp only[Zzs,Zzk,or_false,not_or];exact⟨Zzi m1,m5,m6,m7⟩
 have q1:=n1;have q2:=n2;simp only[Zzs,Zzk,or_false,not_or] at q1 q2;have x1:i1∉[z]:=by simpa using Zzi m3
 have x2:i2∉[z,TO,i1]:=by simp only[Zzs,Zzk,or_false,not_or];exact⟨Zzi m4,Zzi m9,Zzi m10⟩
 have x3:l1∉[z]:=by simpa using q1.1
 have x4:l2∉[z,TO,i1]:=by simp only[Zzs,Zzk,or_false,not_or];exact⟨q2.1,q2.2.1,q2.2.2.1⟩
 refine⟨λc hc=>?_,λi h h' st k=>?_,λi s Q E hi st hq=>?_,λelts k pos i T s Q E hm hq=>?_,λi T h hm=>hm.2,λs Q E st hq=>?_,λi s Q E st hq=>wpAny_pyIter_zip st.1 hq⟩
 ·simp only[Zzs,Zzk,or_false] at hc ⊢;rcases hc with q | q | q | q<;>simp[q]
 ·obtain⟨a1,a2,⟨u,v,a3⟩,a4,a5,a6,a7⟩:=st;exact⟨k z (by simp) _ a1,k TI (by simp) _ a2,⟨u,v,k TO (by simp) _ a3⟩,a4.at λo e=>k i1 (by simp) o e,a5.at λo e=>k i2 (by simp) o e,a6.at λo e=>k l1 (by simp) o e,W7 a7 λo e=>k l2 (by simp) o e⟩
 ·obtain⟨a1,a2,⟨u,v,a3⟩,a4,a5,a6,a7⟩:=st;have hT:s.TypeIs (.ref z) "zip" := ⟨_,a1,rfl⟩;have hix:i<xs.size:=by lia
  have hiy:i<ys.size:=by lia
  have gx:xs[i]?=some xs[i]:=Zyc hix;have gy:ys[i]?=some ys[i]:=Zyc hiy;have lt:∀{c:Addr} {o:Obj},s.heap.get? c=some o->s.heap.objs.size≠c:=λe=>Zxt (Zzg e);unfold pyNext;refine GA (wpAny_attempt (wpAny_callSpecial?_slot (name:=Str.ofString "__next__") hT F.slot_zip_next (wpAny_call_entry F.slot_zip_next hT F.entry_zip_next (j5 nd a1 a2 a3 (T0 [z] a4 a6 gx x1 x3) (lc [z,TO,i1] a5 a7 gy x2 x4) (λ_ _ p k=>p.at k) (λ_ _ p k=>p.at k) λh' b1 b2 b3 b4 b5 b6 kp=>?_) (F.args_zip_next_1 _))));refine GB (hq _ #[xs[i],ys[i]] h' s.toks ⟨_,_,gx,gy,rfl⟩ (Zzq _) ⟨_,b5,rfl,_,rfl⟩ ⟨⟨b1,kp _ _ hTIn a2,⟨_,_,b2⟩,b3,b4,a6.at λo e=>kp _ o n1 e,W7 a7 λo e=>kp _ o n2 e⟩,?_⟩ kp);obtain⟨_,e4,_⟩:=a4;obtain⟨_,e5,_⟩:=a5;simp only[Zzs,Zzk,or_false,not_or];exact⟨lt a1,lt a3,lt e4,lt e5⟩
 ·obtain⟨⟨a1,a2,⟨u,v,a3⟩,a4,a5,a6,a7⟩,_⟩:=hm;refine wpAny_letOwnedTupleGo_zip a1 λh' b1 sb=>hq h' ⟨b1,sb.extBut _ _ (Zzi m1) a2,⟨u,v,sb.extBut _ _ (Zzi m2) a3⟩,a4.extBut sb.extBut (Zzi m3),a5.extBut sb.extBut (Zzi m4),a6.extBut sb.extBut q1.1,a7.extBut sb.extBut q2.1⟩ λc o hc e=>sb.extBut _ _ (λq=>hc (by simp[q])) e
 ·obtain⟨a1,a2,⟨u,v,a3⟩,a4,a5,a6,a7⟩:=st;have hT:s.TypeIs (.ref z) "zip" := ⟨_,a1,rfl⟩;unfold pyNext;have fin:Q4 P w A.in1 s.heap [z] i1\/((∃x,Tm P w A.in1 s.heap [z] i1 x (λh'=>h'.IsListIter i1 l1 (min xs.size ys.size+1)))/\Q4 P w A.in1 s.heap [z,TO,i1] i2):=by
   by_cases h:xs.size<=ys.size
   ·exact .inl (ld [z] hh a4 a6 (Zwp (by lia)) x1 x3)
   ·exact .inr ⟨⟨_,T0 [z] a4 a6 (Zyc (by lia)) x1 x3⟩,vf [z,TO,i1] hh a5 a7 (Zwp (by lia)) x2 x4⟩
  have fin2:∃x,Q4 P w A.in1 s.heap [z] i1\/(Tm P w A.in1 s.heap [z] i1 x (λh'=>h'.IsListIter i1 l1 (min xs.size ys.size+1))/\Q4 P w A.in1 s.heap [z,TO,i1] i2):=by
   rcases fin with f | ⟨⟨x,f⟩,f2⟩
   ·exact⟨.none,.inl f⟩
   ·exact⟨x,.inr ⟨f,f2⟩⟩
  obtain⟨x,fin2⟩:=fin2;refine GA (wpAny_attempt (wpAny_callSpecial?_slot (name:=Str.ofString "__next__") hT F.slot_zip_next (wpAny_call_entry F.slot_zip_next hT F.entry_zip_next (mq nd a1 a2 a3 fin2 λh' e kp he=>?_) (F.args_zip_next_1 _))));obtain⟨o,e1,e2⟩:=he;exact GA (wpAny_isInstance (T := "StopIteration") (b:=true) ⟨o,e1,e2⟩ isSubtype_stop (GB (hq h' s.toks kp)))
end
def zt1(h:Heap)(a:Addr):Heap:=h.push {cls:=.type "list_iterator",data:=.fields #[.ref a,.int 0 0]}
noncomputable def zt2(h:Heap)(a b:Addr):Heap:=(zt1 h a).push {cls:=.type "tuple_iterator",data:=.fields #[.ref b,.int 0 0]}
def zt3(h:Heap)(a b:Addr):Heap:=(zt2 h a b).push {cls:=.type "tuple",data:=.seq #[.ref h.objs.size,.ref (zt1 h a).objs.size]}
noncomputable def zt4(h:Heap)(a b:Addr):Heap:=(zt3 h a b).push {cls:=.type "tuple",data:=.seq #[.none,.none]}
def zt5(h:Heap)(a b:Addr):Heap:=(zt4 h a b).push {cls:=.type "zip",data:=.fields #[.none,.bool false,.bool false,.ref (zt2 h a b).objs.size,.ref (zt3 h a b).objs.size]}
theorem cm(a b:Addr)(xs ys:Array Value):Meets (Builtin.«zip.__new__» ⟨[.type "zip",.ref a,.ref b],[]⟩) (λ_ R s=>s.heap.IsList a xs/\s.heap.IsTuple b ys/\R (.ok (.ret (.ref (zt4 s.heap a b).objs.size))) {s with heap:=zt5 s.heap a b}) :=
 .of_wp λP w A R s h=>by
  obtain⟨hp,g,d,tk,os⟩:=s;obtain⟨ha,hb,h⟩:=h;have hsub:=sub_zip;have qa:Heap.IsList (Shared.heap ⟨hp,g,d,tk,os⟩) a xs:=ha;have qb:Heap.IsTuple (Shared.heap ⟨hp.push {cls:=.type "list_iterator",data:=.fields #[.ref a,.int 0 0]},g,d,tk,os⟩) b ys:=Heap.IsTuple.push hb _;wp_walk using wpAny_pyIter_list qa,wpAny_pyIter_tuple qb;exact⟨_,rfl,h⟩
theorem lu{xs ys:Array Value}(ha:s.heap.IsList a xs)(hb:s.heap.IsTuple b ys)
  (h:∀h',IsZip h' (s.heap.objs.size+4) (s.heap.objs.size+2) (s.heap.objs.size+3) .none->IsPair h' (s.heap.objs.size+2) (.ref s.heap.objs.size) (.ref (s.heap.objs.size+1))->IsPair h' (s.heap.objs.size+3) .none .none ->
   h'.IsListIter s.heap.objs.size a 0->h'.IsTupleIter (s.heap.objs.size+1) b 0->(∀c o,s.heap.get? c=some o->h'.get? c=some o)->Q (.ref (s.heap.objs.size+4)) {s with heap:=h'}) :
  wpAny (model P w) A (call (.type "zip") [.ref a,.ref b]) Q E s:=by
 refine callType_new F.called_zip (by decide) (F.typeCall_zip_2 _ _) (F.newCall_zip_2 _ _) (λobj=>F.args_object_init_3 obj _ _) F.entry_zip_new (cm a b xs ys) ⟨ha,hb,?_⟩;have z1:(zt1 s.heap a).objs.size=s.heap.objs.size+1:=Zye ..;have z2:(zt2 s.heap a b).objs.size=s.heap.objs.size+2:=(Zye ..).trans (by rw[z1]);have z3:(zt3 s.heap a b).objs.size=s.heap.objs.size+3:=(Zye ..).trans (by rw[z2]);have z4:(zt4 s.heap a b).objs.size=s.heap.objs.size+4:=(Zye ..).trans (by rw[z3]);have p5:∀{c:Addr} {o:Obj},(zt4 s.heap a b).get? c=some o->(zt5 s.heap a b).get? c=some o:=λe=>Zzx _ e;have p4:∀{c:Addr} {o:Obj},(zt3 s.heap a b).get? c=some o->(zt5 s.heap a b).get? c=some o:=λe=>p5 (Zzx _ e);have p3:∀{c:Addr} {o:Obj},(zt2 s.heap a b).get? c=some o->(zt5 s.heap a b).get? c=some o:=λe=>p4 (Zzx _ e);have p2:∀{c:Addr} {o:Obj},(zt1 s.heap a).get? c=some o->(zt5 s.heap a b).get? c=some o:=λe=>p3 (Zzx _ e);have g5:(zt5 s.heap a b).get? (zt4 s.heap a b).objs.size=some {cls:=.type "zip",data:=.fields #[.none,.bool false,.bool false,.ref (zt2 s.heap a b).objs.size,.ref (zt3 s.heap a b).objs.size]}:=Zzj _ rfl;have g4:=p5 (show (zt4 s.heap a b).get? (zt3 s.heap a b).objs.size=some {cls:=.type "tuple",data:=.seq #[.none,.none]} from Zzj _ rfl);have g3:=p4 (show (zt3 s.heap a b).get? (zt2 s.heap a b).objs.size=some {cls:=.type "tuple",data:=.seq #[.ref s.heap.objs.size,.ref (zt1 s.heap a).objs.size]} from Zzj _ rfl);have g2:=p3 (show (zt2 s.heap a b).get? (zt1 s.heap a).objs.size=some {cls:=.type "tuple_iterator",data:=.fields #[.ref b,.int 0 0]} from Zzj _ rfl);have g1:=p2 (show (zt1 s.heap a).get? s.heap.objs.size=some {cls:=.type "list_iterator",data:=.fields #[.ref a,.int 0 0]} from Zzj _ rfl);show _/\_;rw[z2,z3,z4] at g5;rw[z1,z2] at g3;rw[z3] at g4;rw[z1] at g2;rw[z4];exact⟨⟨_,g5,rfl⟩,h _ g5 g3 g4 ⟨_,g1,rfl,rfl⟩ ⟨_,g2,rfl,rfl⟩ λc o e=>p2 (Zzx _ e)⟩
noncomputable def A1r(K:Zzw)(a b:Addr)(xs ys:List V):It:=⟨λi H=>H a=some (.lst xs)/\SqT K H b ys/\i<min xs.length ys.length,
 λi H x H'=>∃p y z,x=.ref p/\H p=none/\xs[i]?=some y/\ys[i]?=some z/\H'=upd H p (.tup [y,z]),λi H=>H a=some (.lst xs)/\SqT K H b ys/\i=min xs.length ys.length⟩
theorem v4(K:Zzw)(a b:Addr)(xs ys:List V):W3 (A1r K a b xs ys) (min xs.length ys.length) (λi us=>∃y z,xs[i]?=some y/\ys[i]?=some z/\us=[y,z]) (λH=>H a=some (.lst xs)/\SqT K H b ys) :=
 ⟨λi H h o=>⟨o.1,o.2,h⟩,λi H x H' h o y=>by obtain⟨p,u,v,e1,e2,e3,e4,e5⟩:=y;exact⟨p,_,e1,e2,e5,u,v,e3,e4,rfl⟩,λH o=>⟨o.1,o.2,rfl⟩⟩
theorem jb{k:Nat}(z TI TO i1 i2 a b:Addr)(xs ys:List V)(nd:[z,TI,TO,i1,i2].Nodup)(na:a∉[z,TO,i1,i2])(nb:b∉[z,TO,i1,i2]) :
  O5 P w K (.Tuple elts k pos) (A1r K a b xs ys) [z,TI,TO,i1,i2] z (λi h=>IsZip h z TI TO .none/\IsPair h TI (.ref i1) (.ref i2)/\(∃u v,IsPair h TO u v)/\h.IsListIter i1 a i/\h.IsTupleIter i2 b i):=by
 have objs:∀(i:Nat) (h:Heap),(IsZip h z TI TO .none/\IsPair h TI (.ref i1) (.ref i2)/\(∃u v,IsPair h TO u v)/\h.IsListIter i1 a i/\h.IsTupleIter i2 b i)->∀c∈[z,TI,TO,i1,i2],∃o,h.get? c=some o/\∀v,o.data≠.cell v:=by
  rintro i h ⟨hz,hT,⟨u,v,hO⟩,⟨o1,g1,c1,d1⟩,⟨o2,g2,c2,d2⟩⟩ c hc;simp only[Zzs,Zzk,or_false] at hc;rcases hc with q | q | q | q | q<;>subst q
  ·exact⟨_,hz,λ_ y=>by cases y⟩
  ·exact⟨_,hT,λ_ y=>by cases y⟩
  ·exact⟨_,hO,λ_ y=>by cases y⟩
  ·exact⟨o1,g1,λ_ y=>by rw[d1] at y;cases y⟩
  ·exact⟨o2,g2,λ_ y=>by rw[d2] at y;cases y⟩
 have sub:∀c∈[z,TO,i1,i2],c∈[z,TI,TO,i1,i2]:=λc hc=>by simp at hc ⊢;rcases hc with h | h | h | h<;>simp[h]
 refine⟨by simp,objs,?_,?_,?_,?_⟩
 ·rintro i h h' ⟨hz,hT,⟨u,v,hO⟩,g1,g2⟩ kp;exact⟨kp z (by simp) _ hz,kp TI (by simp) _ hT,⟨u,v,kp TO (by simp) _ hO⟩,g1.at λo e=>kp i1 (by simp) o e,g2.at λo e=>kp i2 (by simp) o e⟩
 ·intro X hP hw hK hc i pins s Z H E I hf st hg;subst hP hw hK;obtain⟨ha,hb,hlt⟩:=hg;obtain⟨its,rv,hl,hal⟩:=Av I ha;obtain⟨its2,rv2,hl2,hz2⟩:=I.tuple hb;have AE:=rv.length;have AR:=rv2.length;obtain⟨s1,s2,s3,s4,s5⟩:=id st;have hv:∀vals:Array Value,(∃x y,its.toArray[i]?=some x/\its2.toArray[i]?=some y/\vals=#[x,y])->∃us,AC us vals.toList/\us.length<=100/\∃y z,xs[i]?=some y/\ys[i]?=some z/\us=[y,z]:=by
   rintro vals ⟨x,y,hx,hy,rfl⟩;have l1:i<xs.length:=by lia
   have l2:i<ys.length:=by lia
   obtain⟨u,hu,ru⟩:=rv.get (x:=xs[i]) (i:=i) (by simp[l1]);obtain⟨u',hu',ru'⟩:=rv2.get (x:=ys[i]) (i:=i) (by simp[l2]);have hx:its[i]?=some x:=by simpa using hx
   have hy:its2[i]?=some y:=by simpa using hy
   rw[hx] at hu;rw[hy] at hu';cases hu;cases hu';exact⟨[xs[i],ys[i]],.cons ru (.cons ru' .nil),by simp,xs[i],ys[i],by simp[l1],by simp[l2],rfl⟩
  refine thn (Xm (E:=E) (Qx (I.ok.hd hc) z TI TO i1 i2 a b nd na nb its.toArray its2.toArray) (by rw[Zzn,Zzn];lia) I ⟨s1,s2,s3,s4,s5,hl,hl2⟩ (λc hc=>hf c (sub c hc)) hv) λr t1 ⟨u,hr,h3⟩ =>
   ⟨u,hr,thn h3 λ_ t2 ⟨p,us,hu,hp,hn,I2,⟨y,y',hy,hy',e2⟩,st2⟩=>?_⟩
  subst hu e2;refine⟨.ref p,_,I2,rfl,⟨p,y,y',rfl,hn,hy,hy',rfl⟩,⟨st2.1,st2.2.1,st2.2.2.1,st2.2.2.2.1,st2.2.2.2.2.1⟩,λc hc=>?_⟩;obtain⟨o,ho,_⟩:=objs i _ st c hc;rw[Ab (D4 (Zzg ho) hp)];exact(hf c hc).1
 ·intro X hP hw hK hc i pins s Z H E I hf st hg;subst hP hw hK;obtain⟨ha,hb,hlt⟩:=hg;obtain⟨its,rv,hl,hal⟩:=Av I ha;obtain⟨its2,rv2,hl2,hz2⟩:=I.tuple hb;have AE:=rv.length;have AR:=rv2.length;obtain⟨s1,s2,s3,s4,s5⟩:=id st;have hi:min its.toArray.size its2.toArray.size=i:=by rw[Zzn,Zzn];lia
  refine(Qx (I.ok.hd hc) z TI TO i1 i2 a b nd na nb its.toArray its2.toArray).done s _ E ?_ λh' tk hk=>⟨rfl,I.turnedL hk λc hc=>hf c (sub c hc)⟩;rw[hi];exact⟨s1,s2,s3,s4,s5,hl,hl2⟩
 ·intro A i s Q E st h;exact wpAny_pyIter_zip st.1 h
def Zt(K:Zzw)(ta:TA):TI:=λZ H R=>ta Z H λvs H1=>∃a b xs ys,vs=[.ref a,.ref b]/\H1 a=some (.lst xs)/\SqT K H1 b ys/\R (A1r K a b xs ys) H1
theorem gg{k:Nat}{pt p:Pos}{ta:TA}(hg:Gl X "zip")(hm:X.mg "zip" = none)(ha:PA X [e,e2] ta)(hn:Cm [e,e2]=true:=by rfl):PI X (.Tuple elts k pt) (.Call (.Name "zip" p) [e,e2] [] pos) (Zt X.K ta):=by
 intro pins s Z H R I h;refine Call_ (Er I hg hm NP.dm (Zyb (thn (ha pos pins s Z H _ I h) λus s1 ⟨vs,H1,I1,r1,q1⟩=>?_) (C1 (Bd hn).1) (D3 (Bd hn).2)));obtain⟨a,b,xs,ys,e,ha,hb,q⟩:=q1;subst e;obtain⟨u,u',rfl,ru,ru'⟩:=R5 r1;cases ru;cases ru';obtain⟨its,rv,hl,hal⟩:=Av I1 ha;obtain⟨its2,rv2,hl2,hz2⟩:=I1.tuple hb;have hbl:b<s1.heap.objs.size:=by obtain⟨o,ho,_⟩:=hl2;exact Zzg ho
 refine lu hl hl2 λh' g1 g2 g3 g4 g5 hk=>wpAny_pyIter_zip g1 ?_;have I2:Inv X pins Z H1 {s1 with heap:=h'}:=I1.kept (t':=s1.toks) hk;have nd:[s1.heap.objs.size+4,s1.heap.objs.size+2,s1.heap.objs.size+3,s1.heap.objs.size,s1.heap.objs.size+1].Nodup:=by
  simp only[Zyj,Zzs,Zzk,or_false,not_or,Zwy,and_true,not_false_eq_true];refine⟨⟨?_,?_,?_,?_⟩,⟨?_,?_,?_⟩,⟨?_,?_⟩,?_⟩<;>(intro z;have z':(_:Nat)=_:=z;lia)
 have off:∀c:Addr,c<s1.heap.objs.size->c∉[s1.heap.objs.size+4,s1.heap.objs.size+3,s1.heap.objs.size,s1.heap.objs.size+1]:=λc hc z=>by
  simp only[Zzs,Zzk,or_false] at z;rcases z with q | q | q | q<;>rw[q] at hc<;>first | exact absurd hc (Nat.not_lt.mpr (Zuw _ _)) | exact absurd hc (Zwl _)
 refine⟨s1.heap.objs.size+4,[s1.heap.objs.size+4,s1.heap.objs.size+2,s1.heap.objs.size+3,s1.heap.objs.size,s1.heap.objs.size+1],_,_,H1,rfl,I2,jb _ _ _ _ _ a b xs ys nd (off a hal) (off b hbl),⟨g1,g2,⟨_,_,g3⟩,g4,g5⟩,λc hc=>?_,q⟩;have hb':s1.heap.objs.size<=c:=by
  simp only[Zzs,Zzk,or_false] at hc;rcases hc with q | q | q | q | q<;>rw[q]<;>first | exact Zuw _ _ | exact Zzq _
 exact I1.fpOk hb' (I1.hok.fresh hb')
def A03(p:Params)(l:List (Str×Tok×Addr)):Array DictEntry:=(l.map λe=>{hash:=PyData.keyHash p e.1,key:=.str e.1 e.2.1,val:=.ref e.2.2}).toArray
def DU(w:World)(K:Zzw)(a:Addr)(l:List (Str×Tok×Addr)):Prop:=(∃ep,K.lookup a=some {cls:=.type "dict",data:=.dict (A03 w.params l) ep})/\(l.map (·.1)).Nodup/\(a == sysModules)=false
def Lz(l:List (Str×Tok×Addr)):List (Key×Value):=l.map λe=>(Zy4 e.1,Value.ref e.2.2)
noncomputable def Le(l:List (Str×Tok×Addr))(x:Str):V:=match l.find? (λe=>decide (e.1=x)) with
 |some e=>.ref e.2.2
 |none=>.non
theorem Ug:∀l:List (Str×Tok×Addr),Pairs (Bm P w) (l.map λe=>{hash:=PyData.keyHash w.params e.1,key:=.str e.1 e.2.1,val:=.ref e.2.2}) (Lz l)
 |[]=>.nil
 |e::r=>.cons (Go P w e.1 e.2.1) rfl (Ug r)
theorem DU.dict(T:DU w K a l)(X:K.In h):h.DictOf (Bm P w) a (Lz l):=by
 obtain⟨⟨ep,lk⟩,nd,_⟩:=T;refine⟨_,_,ep,X a _ lk,⟨rfl,rfl,rfl⟩,rfl,λe he=>?_,?_,?_⟩
 ·unfold A03 at he;have he:e∈(l.map λe=>({hash:=PyData.keyHash w.params e.1,key:=.str e.1 e.2.1,val:=.ref e.2.2}:DictEntry)):=by simpa using he
  obtain⟨q,hq,rfl⟩:=Zzv.mp he;exact⟨.inr q.1,Go P w q.1 q.2.1,rfl⟩
 ·exact Ug l
 ·unfold Lz;rw[Zz1];have:(Zyo ((λx=>x.1)∘λe:Str×Tok×Addr=>((Zy4 e.1:Key),Value.ref e.2.2)) l)=(l.map (·.1)).map Zy4:=by rw[Zz1];rfl
  rw[this];exact nd.map _ λx y n e=>n (Zwh e)
theorem eh(l:List (Str×Tok×Addr))(x:Str):AD (Le l x) ((valueAt (Lz l) (.inr x)).getD .none):=by
 unfold Le valueAt Lz;rw[List.find?_map];have:(λkv:Key×Value=>decide (kv.1=(Zy4 x:Key)))∘(λe:Str×Tok×Addr=>((Zy4 e.1:Key),Value.ref e.2.2))=λe=>decide (e.1=x):=by
  funext e;simp
 rw[this];cases l.find? (λe=>decide (e.1=x)) with
 |none=>rfl
 |some e=>rfl
def Yl(l:List (Str×Tok×Addr))(ty:TE):TE:=λZ H Q=>ty Z H λy H1=>∃x,y=.str x/\Q (Le l x) H1
theorem gm{o:Expr}{ty:TE}{cpos:Pos}(T:DU X.w X.K a l)(ho:PE X o (λ_ H Q=>Q (.ref a) H))(he:PE X e ty)(m:M1 X o "get" apos e cpos):PE X (.Call (.Attribute o "get" apos) [e] [] cpos) (Yl l ty):=by
 intro pins s Z H Q I h;refine wpAny_Call_method m.base m.few m.line PySem.F.plainAttrs_dict PySem.F.slot_dict_get PySem.F.type_dict_get (thn (ho pins s Z H (λx H1=>x=.ref a/\H1=H) I ⟨rfl,rfl⟩) λu s1 z0=>?_);obtain⟨x,H1,I1,rx,ex,eH⟩:=z0;subst ex eH;obtain rfl:u=Value.ref a:=rx;have d1:s1.heap.DictOf (Bm X.prog X.w) a (Lz l):=T.dict I1.kIn;refine⟨d1.typeIs,λb q=>?_,?_⟩
 ·cases q;obtain⟨ob,_,_,e1,e2,_⟩:=d1;exact⟨ob,e1,e2.2.1⟩
 rw[m.trees];refine Zuz rfl (Calls.evalArgs_plain (Zvf (thn (he pins s1 Z H1 _ I1 h) λiv s2 ⟨y,H2,I2,ry,x,ey,q2⟩=>Zv4 ?_)));subst ey;have d2:s2.heap.DictOf (Bm X.prog X.w) a (Lz l):=T.dict I2.kIn;obtain⟨t,rfl⟩:=ry;exact call_meetsIn PySem.F.slot_dict_get d2.typeIs PySem.F.entry_dict_get (PySem.F.args_dict_get_2 _ _) (meets_dict_get (Bm X.prog X.w) a (Go X.prog X.w x t) T.2.2) ⟨_,d2.mapOf,⟨_,H2,I2.tok _,eh l x,q2⟩⟩
def ES(K:Zzw)(a:Addr)(l:List (Str×Tok)):Prop:=∃n,K.lookup a=some {cls:=.type "tuple",data:=.seq (l.map λe=>Value.str e.1 e.2).toArray n}
theorem ES.sq{l:List (Str×Tok)}(T:ES K a l)(hl:l.length<=1000)(H:Hp):SqT K H a ((l.map (·.1)).map V.str):=by
 obtain⟨n,lk⟩:=T;refine .inr ⟨_,_,n,lk,rfl,rfl,by rw[Zzn,Zzz];exact Zzd hl (by decide),?_⟩;have:∀l:List (Str×Tok),AC ((l.map (·.1)).map V.str) (l.map λe=>Value.str e.1 e.2):=λl=>by
  induction l with
  |nil=>exact .nil
  |cons e r ih=>exact .cons ⟨_,rfl⟩ ih
 exact this l
def EX:List V->Hp->VK->Prop:=λxs H Q=>∃x:Str,xs=[.str x]/\Q (.str x) H
theorem lx:AK X (.type "str") EX:=by
 intro pins s Z H xs us Q I r h;obtain⟨x,rfl,q⟩:=h;obtain⟨u,rfl,t,rfl⟩:=Fc r;exact P.str_of_str ⟨.str x,H,I,⟨_,rfl⟩,q⟩
def fv:R2:=λx y H Q=>∃(z:Str) (n:Int),x=.str z/\y=.int n/\z.length<=1000/\0<=n/\n<=1000/\∀z':Str,z'.length<=z.length*n.toNat->(∀c∈z'.cps.toList,c∈z.cps.toList)->Q (.str z') H
end L2
namespace L2
open PySem PySem.Spec PyProof.Rows PySem.W NP
open Builtin Builtin.Str
end L2
namespace L2
open PySem PySem.Spec PyProof.Rows PySem.W
theorem AM.z{k:Nat}(h:AM k A)(e:j<=k:=by decide):AM j A:=h.mono e
end L2
namespace L2
open PySem PySem.Spec PyProof.Rows
def FT:List V->Hp->VK->Prop:=λxs H Q=>EW xs H Q\/EX xs H Q
theorem Vt:AK X (.type "str") FT:=by
 intro pins s Z H xs us Q I r h;rcases h with h | h
 ·exact D8 pins s Z H xs us Q I r h
 ·exact lx pins s Z H xs us Q I r h
end L2
namespace L2
open PySem PySem.Spec PyProof.Rows PySem.W NP
def Yj(te:TE):TE:=λZ H Q=>te Z H λx H1=>∃(a:Addr) (kvs:List (Key×V)) (ns:List Int),x=.ref a/\H1 a=some (.dK kvs)/\kvs.map (·.2)=ns.map V.int/\ns≠[]/\Q (.int (Nj ns)) H1
theorem bn{l:Expr}{p cpos:Pos}(hc:X.calm=true)(hg:Gl X "max")(hm:X.mg "max" = none)(hl:PE X l te)(hbase:attributeBase l "values" X.env (eval l X.env)=eval l X.env:=by rfl)(hline:(apos.endLine == cpos.line)=true:=by rfl)
  (hn:Cm [.Call (.Attribute l "values" apos) [] [] cpos]=true:=by rfl) :
  PE X (.Call (.Name "max" p) [.Call (.Attribute l "values" apos) [] [] cpos] [] pos) (Yj te):=by
 intro pins s Z H Q I h;refine wpAny_Call_Name_kw (Er I hg hm NP.Me ?_ (by decide) (by decide));refine PyProof.Rows.callWith_builtin1 ?_ (C1 hn) (D3 (Bd hn).2);rw[C1 hn];show wpAny _ _ (spliced ((false,eval (.Call (.Attribute l "values" apos) [] [] cpos) X.env)::backTo pos (starEach [] X.env))) _ _ s;refine Zvf (wpAny_Call_method0_late hbase hline (thn (hl pins s Z H _ I h) λv s1 z0=>?_));obtain⟨x,H1,I1,r1,q1⟩:=z0;obtain⟨a,kvs,ns,e,ha,hk,hns,q⟩:=q1;subst e;cases r1;obtain⟨hz,hS,vs,rel,hdd⟩:=I1.hok a _ ha;obtain⟨ep,hat⟩:=hdd.dictAt;obtain⟨t1,t2,_⟩:=A1d I1 (.inl ⟨kvs,.inl ha⟩);refine⟨"dict", "dict.values",PySem.F.plainAttrs_dict,PySem.F.slot_dict_values,PySem.F.type_dict_values,t1,t2,Zuz rfl (PySem.evalArgs_none ?_)⟩;refine call_meetsIn PySem.F.slot_dict_values t1 PySem.F.entry_dict_values (PySem.F.args_dict_values_1 _) (meets_dict_values (Bm X.prog X.w) a hS) ⟨⟨vs,hat.dictOf⟩,?_⟩;have I3:Inv X pins Z H1 {s1 with heap:=s1.heap.push {cls:=.type "dict_values",data:=.fields #[.ref a]}}:=I1.kept (t':=s1.toks) λb o e=>Zzx _ e;refine Zv4 ?_;have K:=PySem.W.kdl_values (prog:=X.prog) (w:=X.w) (knd:=Bm X.prog X.w) (r:=s1.heap.objs.size) (d:=a) (kvs:=vs) (ep:=ep);have hok:(s1.heap.push {cls:=.type "dict_values",data:=.fields #[.ref a]}).IsValuesView s1.heap.objs.size a/\(s1.heap.push {cls:=.type "dict_values",data:=.fields #[.ref a]}).DictAt (Bm X.prog X.w) a vs ep:=⟨⟨_,Zzj _ rfl,rfl,rfl⟩,hat.push _⟩;have hlv:vs.length=ns.length:=by
  have:=congrArg Zxa hk;rw[Zzz,Zzz] at this;rw[<- rel.length];exact this
 have hval:∀(i:Nat) (v:Value),(∃k,vs[i]?=some (k,v))->∃t,v=.int ((ns[i]?).getD 0) t:=λi v z0=>by
  obtain⟨k,e⟩:=z0;have hi:i<kvs.length:=by rw[rel.length];exact(Zze.mp e).1
  obtain⟨u,hu,ru⟩:=A07 (k:=kvs[i].1) (v:=kvs[i].2) (i:=i) rel (by simp[hi]);rw[hu] at e;have e:=Zzh e;have eu:u=v:=congrArg Prod.snd e;subst eu;have e1:=congrArg (λz=>z[i]?) hk;simp only[Zzy,Zzr hi,Zw1] at e1;cases en:ns[i]? with
  |none=>rw[en] at e1;cases e1
  |some n =>
   rw[en] at e1;have e1:kvs[i].2=.int n:=Zzh e1;rw[e1] at ru;exact ru
 generalize hh3:s1.heap.push {cls:=.type "dict_values",data:=.fields #[.ref a]}=h3 at I3 hok;have hsz:∀b o,s1.heap.get? b=some o->h3.get? b=some o:=λb o e=>by rw[<- hh3];exact Zzx _ e
 obtain⟨oI,St,hit,W,st⟩:=K.iter X.A.in1 {s1 with heap:=h3} (I3.ok.hd hc) hok;have nm:(toString "max" ++ toString ".loop" : String) = "max.loop" := by decide
 refine call_function_tree F.kind_max F.plain_max F.entry_max (F.args_max1 _) ?_;refine GA (m:=Zxj "max" ["key", "default"] 0 ⟨[],[]⟩) (wpAny_of_eq (show Zxj "max" ["key", "default"] 0 ⟨[],[]⟩=pure [none,none] from rfl) (GA (GB (GA (hit _ _ (GA (wpAny_newObj_type ?_)))))));rw[nm];refine GB ⟨plainId_quiet F.plain_max_loop _,?_⟩;have sz:(h3.push oI).objs.size=h3.objs.size+1:=Zye ..;have hlt:=K.there h3 hok;have nS:(h3.push oI).objs.size∉[h3.objs.size,a]:=by
  rw[sz];simp only[Zzs,Zzk,or_false,not_or];exact⟨Zux _,Zxt (Zx7 hlt.2)⟩
 have gS:((h3.push oI).push {cls:=.type "list",data:=.seq #[]}).get? (h3.push oI).objs.size=some {cls:=.type "list",data:=.seq #[]}:=Zzj _ rfl;have st2:St 0 ((h3.push oI).push {cls:=.type "list",data:=.seq #[]}):=W.frame 0 _ _ st λb _ o e=>Zzx _ e;have hpos:0<vs.length:=by rw[hlv];exact Zuc.mpr hns
 refine Sr [] W (λi=>(ns[i]?).getD 0) hval _ nS hpos st2 gS λt' h' tk hk'=>?_;rw[hlv];refine⟨.int (Nj ns),H1,I3.kept λb o e=>hk' b o ?_ ?_ (Zzx _ (Zzx _ e)),⟨_,rfl⟩,q⟩
 ·simp only[Zzs,Zzk,or_false];exact Zz2 (Zzg e)
 ·rw[sz];exact Zz2 (Zx7 (Zzg e))
end L2
namespace L2
open PySem PySem.Spec PyProof.Rows PySem.W
def ml(P:Program)(w:World)(K:Zzw)(mg:Str->Option Value)(base:Heap)(f:Addr)(k:Nat)(ps:List Str)(sp:Sp):Prop:=∃fd,BJ K fd ps []/\B2 P w K mg base CX0 k f fd ps sp
section
variable {k:Nat}{C:Addr}{m:Str}{p:Pos}{o:Expr}
theorem S5(h:ml X.prog X.w X.K X.mg X.base f k ps sp)(he:PE X o ta)(c:Cls X.K C)(hm:zz X.K C m f)(hr:AM k X.A)(ha:PA X (e::es) t)(hn:Cm (e::es)=true:=by rfl)
  (ht:eval (.Call (.Attribute o m apos) (e::es) [] pos) X.env=(do
   let ov <- eval o X.env
   standAt apos.atName
   let (f,first) <- holding [ov] (getMethod ov m pl)
   callWith pos f first (backTo pos (starEach (e::es) X.env)) (backToKw pos (keywordEach [] X.env))):=by rfl):PE X (.Call (.Attribute o m apos) (e::es) [] pos) (Ui C m sp [] E0 ta t):=by
 obtain⟨fd,hb,F⟩:=h;exact xz (pl:=pl) he c hm F hr hb .nil rg ha (C1 (Bd hn).1) (D3 (Bd hn).2) ht
theorem A0y(h:ml X.prog X.w X.K X.mg X.base f k ps sp)(M:Mk X.K C f)(hr:AM (k+1) X.A)(hg:Gl X x)(hm:X.mg x=some (.ref C))(hdb:(x == ("__debug__" : Str))=false:=by decide):PE X (.Call (.Name x p) [] [] pos) (Uj C sp [] E0 ER):=by
 obtain⟨fd,hb,F⟩:=h;exact qw M F hr hg hm hb .nil rg hdb
end
def jl(a:Addr)(l:List (Str×Tok×Addr)):R2:=λx y H Q=>x=.ref a/\∃k fa,y=.str k/\Le l k=.ref fa/\Q (.ref fa) H
theorem A1a(T:DU X.w X.K a l):IxR X (jl a l):=by
 intro value slice pins s Z H x y v u Q I rx ry h hs;obtain⟨rfl,k,fa,rfl,hl,q⟩:=h;cases rx;obtain⟨t,rfl⟩:=ry;have d:s.heap.DictOf (Bm X.prog X.w) a (Lz l):=T.dict I.kIn;have hv:valueAt (Lz l) (.inr k)=some (.ref fa):=by
  have r:=eh l k;rw[hl] at r;cases e:valueAt (Lz l) (.inr k) with
  |none=>rw[e] at r;cases r
  |some z=>rw[e] at r;exact congrArg some r
 exact tail_any d.typeIs PySem.F.slot_dict_getitem.lookup (wpAny_getItem_of (Go X.prog X.w k t) d.mapOf hv ⟨.ref fa,H,I.tok _,rfl,q⟩) hs
theorem A0w{o b:Expr}{tb:TE}(T:DU X.w X.K a l)(ho:PE X o (λ_ H Q=>Q (.ref a) H))(hb:PE X b tb)(hs:Y1 b):PE X (.Subscript o b pos) (tOp (jl a l) (λ_ H Q=>Q (.ref a) H) tb):=qx (A1a T) ho hb hs
def FC:V->List V->Hp->VK->Prop:=λx vs H Q=>∃y z,x=.str y/\vs=[.str z]/\Q (.bl (Txt.startswith y z)) H
theorem kc:MtM X "str.startswith" FC:=by
 intro pins s Z H x vs v us Q I rx rv h;obtain⟨y,z,rfl,rfl,q⟩:=h;obtain⟨t,rfl⟩:=rx;obtain⟨u,rfl,ru⟩:=rv.one;obtain⟨t2,rfl⟩:=ru;exact SC.startswith ⟨.bl _,H,I,rfl,q⟩
abbrev TFx:=Str->St->Hp->VK->Prop
def PFx(X:Cx)(es:List Expr)(t:TFx):Prop:=∀(pins:List (Addr×Obj)) (s:Shared) (Z:St) (H:Hp) (acc:Str) (Q:VK),Inv X pins Z H s->t acc Z H Q->wpAny (model X.prog X.w) X.A (joinParts acc (evalEach es X.env)) (EP X pins Z Q) X.xe s
def FU:TFx:=λacc _ H Q=>acc.length<=1000000/\Q (.str acc) H
def Yn(x:Str)(t:TFx):TFx:=λacc Z H Q=>(acc++x).length<=1000000/\t (acc++x) Z H Q
def Ym(te:TE)(t:TFx):TFx:=λacc Z H Q=>te Z H λv H1=>∃i:Int,v=.int i/\i.natAbs<10^577/\(acc++Str.ofString (toString i)).length<=1000000/\t (acc++Str.ofString (toString i)) Z H1 Q
section
variable {t:TFx}{p q:Pos}
theorem xx:PFx X [] FU:=λpins s Z H acc Q I h=>joinParts_nil ⟨.str acc,H,I.tok _,⟨_,rfl⟩,h.2⟩ (Xg h.1)
theorem xy(ht:PFx X es t):PFx X (.Constant (.str x) j p::es) (Yn x t):=λpins s Z H acc Q I h=>joinParts_cons (Calls.Constant_str ⟨Xg h.1,ht pins _ Z H (acc++x) Q (I.tok _) h.2⟩)
theorem gk(he:PE X e te)(ht:PFx X es t):PFx X (.FormattedValue e (-1) none p::es) (Ym te t):=λpins s Z H acc Q I h=>by
 refine joinParts_cons (FormattedValue_plain (thn (he pins s Z H _ I h) λu s1 z0=>?_));obtain⟨v,H1,I1,r,i,hv,hi,hl,hq⟩:=z0;subst hv;obtain⟨tk,rfl⟩:=r;exact formatField_int_small (ub hi) ⟨Xg hl,ht pins _ Z H1 _ Q (I1.tok _) hq⟩
theorem A0z(h:PFx X (e::e2::es) t):PE X (.JoinedStr (e::e2::es) p) (λZ H Q=>t Str.empty Z H Q):=λpins s Z H Q I hq=>JoinedStr_many (h pins s Z H Str.empty Q I hq)
end
theorem zg{cd:Value}{E:XK}:(Xr CX P w K mg base N q sc f cd A outer s H E).K=K:=rfl
theorem Fun.go{st:Stmt}{k:Nat}(F:Fun K x qual st f fd)(N:List Str)(S:Lr N ps (C2 st))(len:∀vs H Q E,sp vs H Q E->vs.length=ps.length)
  (hbody:N.Nodup->∀(cdv:Value) (A:Around) (outer:List Env) (s:Shared) (H:Hp) (vs:List V) (Q:VK) (E:XK),AM k (A.deeper (envOfC qual (C2 st) s.heap.objs.size f cdv))->sp vs H Q E ->
   ∃t,PSs (Xr CX0 P w K mg base N qual (C2 st) f cdv A outer s H E).nox (E6 st) t/\t {nx:=λ_ H'=>Q .non H',rt:=Q} (Ir N vs) H):B2 P w K mg base CX0 (k+1) f fd ps sp:=F.ok S len (hbody S.nd)
end L2
namespace K91
open PySem L2 NP PySem.W
seal PE PA PT PS PSs PI PO PC PW
set_option hygiene false in
local macro_rules | `(tactic| walk_at "f")=>`(tactic| ((focus (constructor<;>first|rfl|decide +kernel));(focus (intro vs H Q E h;first|(obtain⟨_,rfl,_⟩:=h;rfl;done)|(obtain⟨_,_,rfl,_⟩:=h;rfl;done)|(obtain⟨_,_,_,rfl,_⟩:=h;rfl;done)|(obtain⟨_,_,_,_,rfl,_⟩:=h;rfl;done)|(obtain⟨_,_,_,_,_,rfl,_⟩:=h;rfl;done)|(obtain⟨_,_,_,_,_,_,rfl,_⟩:=h;rfl;done)|(obtain⟨_,_,_,_,_,_,_,rfl,_⟩:=h;rfl;done)|(obtain⟨_,_,_,_,_,_,_,_,rfl,_⟩:=h;rfl;done)|(rcases h with⟨_,_,_,rfl,_⟩|⟨_,_,_,_,_,rfl,_⟩<;>rfl)));intro Nd cdv A outer s H vs Q E hr h))
def Zrd:="Rc FJ ny f6 b9 on Yo ou Cv v8 jg tC tCB Uk ER Rf tOp tUn Uh tB ox tOr oj Yq oh Yh tIf nv om tSl Yg EY tBA xb FD Oc tYes rI rI0 rU rEq rNe rIsA FB EV lenA Wi gc fw FM FG lenQ EB yp FN ga uo ul z6 rCat EO Z3 Ve Vd ur Ye Yf Yk tIf Zw um Zv Zu xo rNeD xn xl z7 Rb K0 Wf Wg FH Wj Qj rSum FP fz Yi FQ g8 Yp rRep Qh FO FF Qi xm EZ Wh N8 FL EU L2.Ir Jm Mj Qe Qq EM zg Yj FT FU Yn Ym oq qd Ui Uj jl FC g7 fv EW FR EX FI FS Yl Zt D.ty E5 Ed Ec E3 Du E4 Gi Ht Hs Gg Fn Gh Ho J0 Iz Hm Gc Hn Hj Iy Ix Hh G8 Hi Gb Hl Hk G9 Fl Ga Fk G7 G6 Fi El Fj Gf Hr Hq Gd Fm Ge Qm Ni Ql Nf Lm Ng Zu3 Zu2 Zug Zvc Zvk Zxp Zvj Zvi Zza Zxn Zz6 Zxk Zx2 Zys Zx6 Zvb Zva List.set_nil Zw7 Zw6 Zvv exists_eq_left' exists_eq_left V.int.injEq V.bl.injEq V.str.injEq V.ref.injEq V.ty.injEq Zuf and_true true_and and_assoc exists_and_left exists_eq_right reduceCtorEq false_and and_false exists_false or_false false_or"
local macro_rules | `(tactic| walk_at "rd")=>do let xs:=(Zrd.splitOn " ").toArray.map λs=>Lean.mkIdent s.toName;`(tactic| simp only[$[$xs:ident],*,↓reduceIte])
local macro_rules | `(tactic| walk_at "r0")=>do let xs:=((Zrd++" FA").splitOn " ").toArray.map λs=>Lean.mkIdent s.toName;`(tactic| simp only[$[$xs:ident],*,↓reduceIte])
def top(i:Nat):Stmt:=PySem.Challenge.pw_needplan_k91_whole_text_to_plan.main.body.getD i (.Pass ⟨0,0,0,0⟩)
abbrev Uz:Stmt:=top 29
abbrev Rt:Stmt:=top 30
abbrev V0:Stmt:=top 31
abbrev Mz:Stmt:=top 32
abbrev Ru:Stmt:=top 33
abbrev N6:Stmt:=top 34
abbrev N0:Stmt:=top 35
abbrev Kt:Stmt:=top 36
abbrev Uy:Stmt:=top 37
abbrev Ps:Stmt:=top 38
abbrev Uv:Stmt:=top 39
abbrev Pq:Stmt:=top 40
abbrev Uw:Stmt:=top 41
abbrev Pr:Stmt:=top 42
abbrev Ux:Stmt:=top 43
abbrev Rm:Stmt:=top 44
abbrev Ms:Stmt:=top 45
abbrev Kq:Stmt:=top 46
abbrev Up:Stmt:=top 47
abbrev Ko:Stmt:=top 49
abbrev Kb:Stmt:=top 50
abbrev px:Stmt:=top 51
abbrev M8:Stmt:=top 52
abbrev Yy:Stmt:=top 53
abbrev Mo:Stmt:=top 54
abbrev fk:Stmt:=top 55
abbrev Yx:Stmt:=top 57
abbrev Rn:Stmt:=top 58
abbrev Mt:Stmt:=top 59
abbrev Yw:Stmt:=top 62
abbrev Us:Stmt:=top 63
abbrev Ut:Stmt:=top 64
abbrev N1:Stmt:=top 65
abbrev Pp:Stmt:=top 66
abbrev Pc:Stmt:=top 67
abbrev P9:Stmt:=top 68
abbrev Ks:Stmt:=top 69
abbrev Mp:Stmt:=top 70
abbrev M7:Stmt:=top 71
abbrev Ur:Stmt:=top 92
abbrev Pd:Stmt:=top 94
abbrev py:Stmt:=top 95
abbrev Pl:Stmt:=top 102
abbrev M4:Stmt:=top 103
abbrev Pb:Stmt:=top 104
abbrev Mr:Stmt:=top 105
abbrev Rl:Stmt:=top 106
abbrev Pa:Stmt:=top 107
abbrev Kn:Stmt:=top 108
abbrev Uq:Stmt:=top 109
abbrev Ff:Stmt:=ie (top 113) 0
abbrev Gn:Stmt:=ie (top 113) 1
abbrev K6:Stmt:=top 114
abbrev N5:Stmt:=top 115
abbrev Yz:Stmt:=top 117
abbrev Mq:Stmt:=top 118
abbrev Pm:Stmt:=top 120
abbrev M3:Stmt:=top 121
abbrev M6:Stmt:=top 123
abbrev Pj:Stmt:=top 124
abbrev Rq:Stmt:=top 125
abbrev My:Stmt:=top 126
abbrev Pe:Stmt:=top 127
abbrev Mx:Stmt:=top 128
abbrev Rp:Stmt:=top 129
abbrev Ro:Stmt:=top 130
abbrev Rr:Stmt:=top 131
abbrev Pk:Stmt:=top 132
abbrev Pg:Stmt:=top 133
abbrev Mu:Stmt:=top 134
abbrev Kr:Stmt:=top 135
abbrev Pf:Stmt:=top 136
abbrev Mw:Stmt:=top 137
abbrev Pi:Stmt:=top 138
abbrev Ph:Stmt:=top 139
abbrev Mv:Stmt:=top 140
abbrev K8:Stmt:=top 141
abbrev M5:Stmt:=top 142
abbrev Ka:Stmt:=top 143
abbrev Uu:Stmt:=top 144
structure Txt(mg:Str->Option Value):Prop where
 Zts:mg "len" = none
 Zti:mg "isinstance" = none
 Zte:mg "str" = none
 Zs8:mg "all" = none
 Zqr:mg "bool" = none
 Zr6:mg "int" = none
 Ztk:mg "tuple" = none
 Zth:mg "range" = none
 Zrv:mg "max" = none
 Zqx:mg "sorted" = none
 Zr0:mg "reversed" = none
 Zqz:mg "zip" = none
 Zqt:mg "min" = none
 Zr5:mg "enumerate" = none
 Zqw:mg "list" = none
 Zqs:mg "sum" = none
 Zsm:∃t,mg "COMING" = some (.int 5 t)
 Zsd:∃t,mg "FIGURES" = some (.str "0123456789" t)
 Zs6:∃t,mg "FLOOR" = some (.int 3 t)
 Zsl:∃t,mg "GIVES" = some (.int 2 t)
 Zs7:∃t,mg "LAG" = some (.int 1 t)
 Zt4:∃t,mg "LAST_DAY" = some (.int 400 t)
 Zsc:∃t,mg "LETTERS" = some (.str "abcdefghijklmnopqrstuvwxyz" t)
 Zss:∃t,mg "MEMBERS" = some (.int 7 t)
 Zt1:∃t,mg "MOST_COMING" = some (.int 12 t)
 Ztb:∃t,mg "MOST_FIGURES" = some (.int 60 t)
 Zsr:∃t,mg "MOST_LAG" = some (.int 30 t)
 Zta:∃t,mg "MOST_LETTERS" = some (.int 8 t)
 Zsw:∃t,mg "MOST_PARTS" = some (.int 6 t)
 Zt9:∃t,mg "MOST_WANTS" = some (.int 20 t)
 Zsv:∃t,mg "MOST_WARES" = some (.int 12 t)
 Ztc:∃t,mg "NAME" = some (.int 0 t)
 Zsk:∃t,mg "PARTS" = some (.int 6 t)
 Zsu:∃t,mg "SHOP_ROW" = some (.str "shop\n" t)
 Zs5:∃t,mg "STOCK" = some (.int 4 t)
 Ztd:∃t,mg "WANT_AMOUNT" = some (.int 2 t)
 Zt3:∃t,mg "WANT_DAY" = some (.int 1 t)
 Zt0:∃t,mg "WANT_NAME" = some (.int 0 t)
structure Dk where
 (C fi ft:Addr)
structure Dsk(K:Zzw)(mg:Str->Option Value)(d:Dk):Prop where
 c:Cls K d.C
 nk:BX K d.C "kept"
 mt:zz K d.C "tell" d.ft
 me:Mk K d.C d.fi
 md:mg "Desk" = some (.ref d.C)
noncomputable def lamP:Pos:=⟨141,38,141,65⟩
noncomputable def lamQ:Str:=("worked" : Str) ++ ".<locals>." ++ "<lambda>"
def Tb(H:L2.Hp)(Pt:Addr):Prop:=L2.BS H Pt lamP lamQ
inductive Ke (K:Zzw) (l:List (Str×Tok×Addr)) (x:Str) (fs:List Str):Prop | mk (a:Addr) (tl:List (Str×Tok)) (_:Le l x=.ref a) (_:ES K a tl) (_:tl.map (·.1)=fs)
inductive Rws (w:World) (K:Zzw) (mg:Str->Option Value):Prop | mk (a:Addr) (l:List (Str×Tok×Addr)) (_:mg "ROWS" = some (.ref a)) (_:DU w K a l) (_:Ke K l "ware" ["name", "number", "number", "number", "number"]) (_:Ke K l "coming" ["name", "number", "number"]) (_:Ke K l "part" ["name", "name", "number"]) (_:Ke K l "want" ["name", "number", "number"]) (_:l.map (·.1)=(["ware", "coming", "part", "want"]:List Str))
inductive Fms (w:World) (K:Zzw) (mg:Str->Option Value):Prop | mk (a:Addr) (l:List (Str×Tok×Addr)) (_:mg "FORMS" = some (.ref a)) (_:DU w K a l) (_:Ke K l "plan" []) (_:Ke K l "late" []) (_:Ke K l "stock" ["name"])
noncomputable def DO:List Nat:=("abcdefghijklmnopqrstuvwxyz" : Str).cps.toList
noncomputable def Bp(x:Str):Bool:=decide (1<=x.length)&&decide (x.length<=8)&&x.cps.toList.all λc=>decide (c∈DO)
def A2r(w:Wr):Prop:=(0<=w.lag/\w.lag<=30)/\(1<=w.gives/\w.gives<=100)/\(0<=w.floor/\w.floor<=100)/\(0<=w.stock/\w.stock<=10^42)/\w.parts.length<=6/\(∀p∈w.parts,1<=p.2/\p.2<=100)/\(w.parts.map (·.1)).Nodup/\w.coming.length<=12/\∀c∈w.coming,(0<=c.1/\c.1<9)/\0<=c.2/\c.2<10^41
structure SD(S:Sh):Prop where
 n:1<=S.wares.length/\S.wares.length<=12
 nm:∀w∈S.wares,Bp w.name=true
 nd:(S.wares.map (·.name)).Nodup
 wb:∀w∈S.wares,A2r w
 own:∀w∈S.wares,∀p∈w.parts,p.1∈S.wares.map (·.name)
 un:S.wants.length<=20
 us:∀u∈S.wants,u.1∈S.wares.map (·.name)/\(0<=u.2.1/\u.2.1<=400)/\0<=u.2.2/\u.2.2<10^41
theorem SD.named(sd:SD S)(h:x∈S.wares.map (·.name)):Bp x=true:=by
 obtain⟨w,hw,rfl⟩:=Zzv.mp h;exact sd.nm w hw
section
variable {dk:Dk}
inductive DP (vs:List V) (H:Hp) (Q:VK) (E:XK):Prop | mk (i:_) (_:vs=[.int i]) (_:Q (.bl true) H)
theorem Zf(F:Fun K "is_whole" "is_whole" Rt f fd)(T:Txt mg):B2 P w K mg base CX0 1 f fd ["found"] DP:=by
 refine F.go ["found"] ?_ ?_ ?_;walk_at "f";obtain⟨i,rfl,k⟩:=h;refine⟨_,(Aa (Ae (Ep (Ai Dr rfl T.Zti Cw (A3 (pv 0) (A3 (Iu (v:=.ty "int") rfl T.Zr6 Ow rfl) A1))) (Gy (A0x (Ai Dr rfl T.Zti Cw (A3 (pv 0) (A3 (Iu (v:=.ty "bool") rfl T.Zqr zm rfl) A1)))))))),?_⟩;walk_at "rd";refine⟨_,rfl,?_⟩;rw[FZ (by decide)];exact⟨_,rfl,k⟩
inductive BA (vs:List V) (H:Hp) (Q:VK) (E:XK):Prop | mk (i n:_) (_:vs=[.int i,.int n]) (_:n<=i) (_:Q (.bl true) H)
theorem ce(F:Fun K "is_from" "is_from" V0 f fd)(T:Txt mg)(Zrg:Has P w K mg base "is_whole" 1 ["found"] DP):B2 P w K mg base CX0 2 f fd ["found", "least"] BA:=by
 refine F.go ["found", "least"] ?_ ?_ ?_;walk_at "f";obtain⟨i,n,rfl,h1,k⟩:=h;refine⟨_,(Aa (Ae (Ep (A7 Zrg hr.z rfl (A3 (pv 0) A1)) (Gy (Dj gq (pv 0) (pv 1) (Aj _)))))),?_⟩;walk_at "rd";refine⟨i,rfl,?_⟩;walk_at "rd";rw[FW h1];exact k
inductive BG (vs:List V) (H:Hp) (Q:VK) (E:XK):Prop | mk (i n m:_) (_:vs=[.int i,.int n,.int m]) (_:n<=i) (_:i<=m) (_:Q (.bl true) H)
theorem Tz(F:Fun K "is_between" "is_between" Mz f fd)(T:Txt mg)(Ztw:Has P w K mg base "is_from" 2 ["found", "least"] BA):B2 P w K mg base CX0 3 f fd ["found", "least", "most"] BG:=by
 refine F.go ["found", "least", "most"] ?_ ?_ ?_;walk_at "f";obtain⟨i,n,m,rfl,h1,h2,k⟩:=h;refine⟨_,(Aa (Ae (Ep (A7 Ztw hr.z rfl (A3 (pv 0) (A3 (pv 1) A1))) (Gy (Dj S8 (pv 0) (pv 2) (Aj _)))))),?_⟩;walk_at "rd";refine⟨i,n,rfl,h1,?_⟩;walk_at "rd";rw[FW h2];exact k
inductive AN (vs:List V) (H:Hp) (Q:VK) (E:XK):Prop | mk (a xs n m:_) (_:vs=[.ref a,.int n,.int m]) (_:H a=some (.tup xs)) (_:n<=(xs.length:Nat)) (_:((xs.length:Nat):Int)<=m) (_:Q (.bl true) H)
theorem Zg(F:Fun K "is_tuple" "is_tuple" Ru f fd)(T:Txt mg):B2 P w K mg base CX0 1 f fd ["found", "least", "most"] AN:=by
 refine F.go ["found", "least", "most"] ?_ ?_ ?_;walk_at "f";obtain⟨a,xs,n,m,rfl,ha,h1,h2,k⟩:=h;refine⟨_,(Aa (Ae (Ep (Ai Dr rfl T.Zti Cw (A3 (pv 0) (A3 (Iu (v:=.ty "tuple") rfl T.Ztk D2 rfl) A1))) (Gy (qz S8 S8 (pv 1) (Ai BU rfl T.Zts Ct (A3 (pv 0) A1)) (pv 2)))))),?_⟩;walk_at "rd";refine⟨_,A0i ha,?_⟩;rw[FZ (by decide)];refine .inl ⟨_,.inr ha,?_⟩;rw[FZ (FW h1),FW h2];exact k
inductive BK (vs:List V) (H:Hp) (Q:VK) (E:XK):Prop | mk (x:_) (_:vs=[.str x]) (_:Bp x=true) (_:∀H',AA H H'->Q (.bl true) H')
theorem yk(h:Bp x=true):1<=x.length/\x.length<=8/\∀c∈x.cps.toList,c∈DO:=by
 unfold Bp at h;simp only[Zyy,decide_eq_true_eq,Zy5] at h;exact⟨h.1.1,h.1.2,h.2⟩
theorem Fs{α:Type}(xs:List α):(xs.map λ_=>true).all id=true:=by
 rw[Zy5];intro x hx;obtain⟨y,_,rfl⟩:=Zzv.mp hx;rfl
theorem c8(F:Fun K "is_name" "is_name" Uz f fd)(T:Txt mg):B2 P w K mg base CX0 1 f fd ["found"] BK:=by
 refine F.go ["found"] ?_ ?_ ?_;walk_at "f";obtain⟨x,rfl,hx,k⟩:=h;have hu:=Au hr;obtain⟨h1,h2,h3⟩:=yk hx;refine⟨_,(A2 (Ay (PW.pt (Fg (C6 (C9 (Ai Dr rfl T.Zti Cw (A3 (pv 0) (A3 (Iu (v:=.ty "str") rfl T.Zte Dz rfl) A1))))) (En (C6 (S0 S8 S8 A6 (Ai BU rfl T.Zts Ct (A3 (pv 0) A1)) (Ao rfl T.Zta)))))) (Aa (Ae Ft)) Ak)
 (Aa (Ae (Ai (Fq rfl) rfl T.Zs8 Jy (A3 (Bc (own:=["sign"]) (cap:=[]) rfl (Br rfl) (Aq (by decide)) (J8 (pv 0))
 (λ_ _ _ _ _ _=>⟨(Ac (i:=0) (FV rfl) rfl (Zzt rfl) (.inr rfl)),Bb,(Dj (Mb hu) (pv 0) (Na rfl T.Zsc) rfl)⟩)) A1))))),?_⟩
 walk_at "rd";refine⟨_,rfl,?_⟩;rw[FY (by decide)];refine⟨Ag (by lia),?_⟩;rw[FZ (FW (by lia)),FY (by rw[FW (by lia)];decide)];refine Bg (v6 x) (Ag (Zzd h2 (by decide))) (λ_ _=>trivial) ((x.cps.toList.map λ_=>true).map V.bl) (by simp) (λi y H' hi hy s' N M hN=>?_) (λH' s' p hp=>?_)
 ·obtain⟨c,hc,rfl⟩:=hy;rw[<- Zvs] at hc;walk_at "rd";refine⟨_,.inr (.inl ⟨_,_,rfl,rfl,rfl⟩),?_⟩;rw[StrLaws.found_one,show decide (c∈(Str.ofString "abcdefghijklmnopqrstuvwxyz").cps.toList)=true from FW (h3 c (Zzu hc))];exact hN _ _ s' (by rw[Zzy,Zzy,hc];rfl)
 ·refine⟨p,rfl,_,A0,?_⟩;rw[Fs];exact k _ (s'.trans (A4 hp))
inductive BV (vs:List V) (H:Hp) (Q:VK) (E:XK):Prop | mk (a:Addr) (xs:List Str) (_:vs=[.ref a]) (_:H a=some (.lst (xs.map V.str))) (_:xs.length<=1000) (_:xs.Nodup) (_:∀H',AA H H'->Q (.bl true) H')
theorem U3(F:Fun K "are_unlike" "are_unlike" N6 f fd)(T:Txt mg):B2 P w K mg base CX0 1 f fd ["names"] BV:=by
 refine F.go ["names"] ?_ ?_ ?_;walk_at "f";obtain⟨a,xs,rfl,ha,hx,nd,k⟩:=h;have hu:=Au hr;refine⟨_,(Aa (Ae (Ai (Fq rfl) rfl T.Zs8 Jy (A3 (Bc (own:=["name"]) (cap:=[0]) rfl (Br rfl) (Aq (by decide)) (Cq (pv 0))
 (λ_ _ _ _ _ _=>⟨(Ac (i:=0) (FV rfl) rfl (Zzt rfl) (.inr rfl)),Bb,(Dj (Bl hu) (Cf Zz5 PySem.F.slot_list_count PySem.F.type_list_count ss (pv 1) (A3 (pv 0) A1)) A6 (Aj _))⟩)) A1)))),?_⟩
 walk_at "rd";refine⟨_,ha,?_⟩;refine Bg (Dw a _) (by rw[Zzz];exact Ag hx) (λH' s'=>s' _ _ ha) ((xs.map λ_=>true).map V.bl) (by simp) (λi y H' hi hy s' N M hN=>?_) (λH' s' p hp=>?_)
 ·rw[Zzy] at hy;cases e:xs[i]? with
  |none=>rw[e] at hy;cases hy
  |some z =>
   rw[e] at hy;cases hy;walk_at "rd";have ha':=s' _ _ ha;refine⟨by unfold Oa;simp only[ha'],_,ha',rfl,by simp[Io],rfl,hN _ _ s' ?_⟩;rw[Zzy,Zzy,e];show some (V.bl _)=some (V.bl _);congr 2;rw[List.countP_map];have e2:((λw=>eqV w (V.str z))∘V.str)=λy=>y == z:=rfl;show true=decide (((List.countP ((λw=>eqV w (V.str z))∘V.str) xs:Nat):Int)=1);rw[e2];have e3:List.countP (λy=>y == z) xs=1:=by
    show xs.count z=1;rw[nd.count,FZ (Zzu e)]
   rw[e3];rfl
 ·refine⟨p,rfl,_,A0,?_⟩;rw[Fs];exact k _ (s'.trans (A4 hp))
theorem Xz{own:List Str}{Q:VK}(ha:H a=some (.tup xs))(hz:xs.length<=1000)
  (hs:∀(i:Nat) x H',xs[i]?=some x->AA H H'->∀N:V->Hp->Prop,(∀H4,AA H' H4->N (.bl true) H4)->te ((Jm own cap Z).set 0 (some x)) H' N)
  (hd:∀a' H',AA H H'->H' a'=some (.lst ((xs.map λ_=>true).map V.bl))->Q (.ref a') H'):W4 (ItT a xs) own cap (Cv 0) tYes te Z H Q:=by
 refine Bg (D1 a xs) (Ag hz) (λH' s'=>s' _ _ ha) ((xs.map λ_=>true).map V.bl) (by simp) (λi y H' hi hy s' N M hN=>?_) (λH' s' q hq=>?_)
 ·show if true=true then te _ H' N else M H'
  rw[FZ rfl];refine hs i y H' hy s' N λH4 s4=>hN _ _ (s'.trans s4) ?_;rw[Zzy,Zzy,hy];rfl
 ·exact hd q _ (s'.trans (A4 hq)) A0
inductive CP (vs:List V) (H:Hp) (Q:VK) (E:XK):Prop | mk (a:Addr) (c:Int×Int) (_:vs=[.ref a]) (_:H a=some (.tup [.int c.1,.int c.2])) (_:(0<=c.1/\c.1<=400)) (_:0<=c.2) (_:Q (.bl true) H)
theorem U0(F:Fun K "is_arrival" "is_arrival" N0 f fd)(T:Txt mg)(Ztw:Has P w K mg base "is_from" 2 ["found", "least"] BA)(Ztr:Has P w K mg base "is_between" 3 ["found", "least", "most"] BG)(Ztz:Has P w K mg base "is_tuple" 1 ["found", "least", "most"] AN):B2 P w K mg base CX0 4 f fd ["found"] CP:=by
 refine F.go ["found"] ?_ ?_ ?_;walk_at "f";obtain⟨a,c,rfl,ha,h1,h2,k⟩:=h;have hu:=Au hr;refine⟨_,(Aa (Ae (Ep (A7 Ztz hr.z rfl (A3 (pv 0) (A3 A6 (A3 A6 A1)))) (Ep (A7 Ztr hr.z rfl (A3 (A8 hu (pv 0) A6 (λ_ _=>rfl)) (A3 A6 (A3 (Ao rfl T.Zt4) A1)))) (Gy (A7 Ztw hr.z rfl (A3 (A8 hu (pv 0) A6 (λ_ _=>rfl)) (A3 A6 A1)))))))),?_⟩;walk_at "rd";refine⟨a,_,2,2,rfl,ha,Zz9 _,Zz9 _,_,rfl,?_⟩;rw[FZ rfl];refine⟨_,Ad (j:=0) ha rfl,c.1,0,400,rfl,h1.1,h1.2,_,rfl,?_⟩;rw[FZ rfl];exact⟨_,Ad (j:=1) ha rfl,c.2,0,rfl,h2,k⟩
inductive CG (vs:List V) (H:Hp) (Q:VK) (E:XK):Prop | mk (v:V) (cs:List (Int×Int)) (_:vs=[v]) (_:RD H (.tuple (cs.map Ox)) v) (_:cs.length<=12) (_:(∀c∈cs,(0<=c.1/\c.1<=400)/\0<=c.2)) (_:∀H',AA H H'->Q (.bl true) H')
theorem Q9(F:Fun K "are_arrivals" "are_arrivals" Kt f fd)(T:Txt mg)(Zs4:Has P w K mg base "is_arrival" 4 ["found"] CP)(Ztz:Has P w K mg base "is_tuple" 1 ["found", "least", "most"] AN):B2 P w K mg base CX0 5 f fd ["found"] CG:=by
 refine F.go ["found"] ?_ ?_ ?_;walk_at "f";obtain⟨v,cs,rfl,rv,hl,ok,k⟩:=h;have hu:=Au hr;obtain⟨a,xs,rfl,ha,rx⟩:=RD.tup_of rv;have hx:=Aw rx;refine⟨_,(Aa (Ae (Ep (A7 Ztz hr.z rfl (A3 (pv 0) (A3 A6 (A3 (Ao rfl T.Zt1) A1)))) (Gy (Ai (Fq rfl) rfl T.Zs8 Jy (A3 (Bc (own:=["arrival"]) (cap:=[]) rfl (Br rfl) (Aq (by decide)) (J8 (pv 0))
 (λ_ _ _ _ _ _=>⟨(Ac (i:=0) (FV rfl) rfl (Zzt rfl) (.inr rfl)),Bb,(A7 Zs4 hr.z rfl (A3 (pv 0) A1))⟩)) A1)))))),?_⟩
 walk_at "rd";refine⟨a,_,0,12,rfl,ha,by lia,by lia,_,rfl,?_⟩;rw[FZ rfl];refine .inr ⟨xs,ha,Xz ha (by lia) (λi x H' hx s' N hN=>?_) λa' H' s' ha'=>⟨a',rfl,_,ha',?_⟩⟩
 ·obtain⟨c,ec,rc⟩:=Ax rx hx;obtain⟨ca,rfl,hca⟩:=Te rc;have o:=ok c (Zzu ec);walk_at "rd";exact⟨ca,c,rfl,s' _ _ hca,o.1,o.2,hN _ (AA.refl _)⟩
 ·rw[Fs];exact k _ s'
inductive DV (vs:List V) (H:Hp) (Q:VK) (E:XK):Prop | mk (a:Addr) (c:Str×Int) (_:vs=[.ref a]) (_:H a=some (.tup [.str c.1,.int c.2])) (_:Bp c.1=true) (_:1<=c.2) (_:∀H',AA H H'->Q (.bl true) H')
theorem c6(F:Fun K "is_part" "is_part" Uy f fd)(T:Txt mg)(Ztw:Has P w K mg base "is_from" 2 ["found", "least"] BA)(Zto:Has P w K mg base "is_name" 1 ["found"] BK)(Ztz:Has P w K mg base "is_tuple" 1 ["found", "least", "most"] AN):B2 P w K mg base CX0 3 f fd ["found"] DV:=by
 refine F.go ["found"] ?_ ?_ ?_;walk_at "f";obtain⟨a,c,rfl,ha,h1,h2,k⟩:=h;have hu:=Au hr;refine⟨_,(Aa (Ae (Ep (A7 Ztz hr.z rfl (A3 (pv 0) (A3 A6 (A3 A6 A1)))) (Ep (A7 Zto hr.z rfl (A3 (A8 hu (pv 0) A6 (λ_ _=>rfl)) A1)) (Gy (A7 Ztw hr.z rfl (A3 (A8 hu (pv 0) A6 (λ_ _=>rfl)) (A3 A6 A1)))))))),?_⟩;walk_at "rd";refine⟨a,_,2,2,rfl,ha,Zz9 _,Zz9 _,_,rfl,?_⟩;rw[FZ rfl];refine⟨_,Ad (j:=0) ha rfl,c.1,rfl,h1,λH1 s1=>⟨_,rfl,?_⟩⟩;rw[FZ rfl];exact⟨_,Ad (j:=1) (s1 _ _ ha) rfl,c.2,1,rfl,h2,k H1 s1⟩
inductive DB (vs:List V) (H:Hp) (Q:VK) (E:XK):Prop | mk (v:V) (cs:List (Str×Int)) (_:vs=[v]) (_:RD H (.tuple (cs.map Ew)) v) (_:cs.length<=6) (_:(∀c∈cs,Bp c.1=true/\1<=c.2)) (_:(cs.map (·.1)).Nodup) (_:∀H',AA H H'->Q (.bl true) H')
theorem Xa(F:Fun K "are_parts" "are_parts" Ps f fd)(T:Txt mg)(Zrc:Has P w K mg base "is_part" 3 ["found"] DV)(Ztz:Has P w K mg base "is_tuple" 1 ["found", "least", "most"] AN)(Zt8:Has P w K mg base "are_unlike" 1 ["names"] BV):B2 P w K mg base CX0 4 f fd ["found"] DB:=by
 refine F.go ["found"] ?_ ?_ ?_;walk_at "f";obtain⟨v,cs,rfl,rv,hl,ok,nd,k⟩:=h;have hu:=Au hr;obtain⟨a,xs,rfl,ha,rx⟩:=RD.tup_of rv;have hx:=Aw rx;refine⟨_,(A2 (Ay (PW.pt (Fg (C6 (C9 (A7 Ztz hr.z rfl (A3 (pv 0) (A3 A6 (A3 (Ao rfl T.Zsw) A1)))))) (En (C6 (C9 (Ai (Fq rfl) rfl T.Zs8 Jy (A3 (Bc (own:=["part"]) (cap:=[]) rfl (Br rfl) (Aq (by decide)) (J8 (pv 0))
 (λ_ _ _ _ _ _=>⟨(Ac (i:=0) (FV rfl) rfl (Zzt rfl) (.inr rfl)),Bb,(A7 Zrc hr.z rfl (A3 (pv 0) A1))⟩)) A1))))))) (Aa (Ae Ft)) Ak)
 (Aa (Ae (A7 Zt8 hr.z rfl (A3 (Bc (own:=["part"]) (cap:=[]) rfl (Br rfl) (Aq (by decide)) (J8 (pv 0))
 (λ_ _ _ _ _ _=>⟨(Ac (i:=0) (FV rfl) rfl (Zzt rfl) (.inr rfl)),Bb,(A8 hu (pv 0) A6 (λ_ _=>rfl))⟩)) A1))))),?_⟩
 walk_at "rd";refine⟨a,_,0,6,rfl,ha,by lia,by lia,_,rfl,?_⟩;rw[FY (by decide)];refine .inr ⟨xs,ha,Xz ha (by lia) (λi x H' hx s' N hN=>?_) λa' H2 s2 ha'=>⟨a',rfl,_,ha',?_⟩⟩
 ·obtain⟨c,ec,rc⟩:=Ax rx hx;obtain⟨ca,rfl,hca⟩:=Iv rc;have o:=ok c (Zzu ec);walk_at "rd";exact⟨ca,c,rfl,s' _ _ hca,o.1,o.2,hN⟩
 ·rw[Fs,FY (by decide)];have ha2:=s2 _ _ ha;refine .inr ⟨xs,ha2,?_⟩;refine Bg (D1 a xs) (Ag (by lia)) (λH' s'=>s' _ _ ha2) ((cs.map (·.1)).map V.str) (by simp[hx]) (λi y H' hi hy s' N M hN=>?_) (λH' s' q hq=>?_)
  ·obtain⟨c,ec,rc⟩:=Ax rx hy;obtain⟨ca,rfl,hca⟩:=Iv rc;walk_at "rd";exact⟨_,Ad (j:=0) (s' _ _ (s2 _ _ hca)) rfl,hN _ _ s' (by rw[Zzy,Zzy,ec];rfl)⟩
  ·exact⟨q,_,rfl,A0,by rw[Zzz];lia,nd,λH5 s5=>k H5 (s2.trans (s'.trans ((A4 hq).trans s5)))⟩
def WV(w:Wr):Prop:=Bp w.name=true/\A2r w/\∀p∈w.parts,Bp p.1=true
inductive DW (vs:List V) (H:Hp) (Q:VK) (E:XK):Prop | mk (v:V) (w:Wr) (_:vs=[v]) (_:RD H w.d v) (_:WV w) (_:∀H',AA H H'->Q (.bl true) H')
theorem bv(F:Fun K "is_ware" "is_ware" Uv f fd)(T:Txt mg)(Ztz:Has P w K mg base "is_tuple" 1 ["found", "least", "most"] AN)(Ztw:Has P w K mg base "is_from" 2 ["found", "least"] BA)(Ztr:Has P w K mg base "is_between" 3 ["found", "least", "most"] BG)(Zto:Has P w K mg base "is_name" 1 ["found"] BK)(Zrt:Has P w K mg base "are_parts" 4 ["found"] DB)(Zsj:Has P w K mg base "are_arrivals" 5 ["found"] CG):B2 P w K mg base CX0 6 f fd ["found"] DW:=by
 refine F.go ["found"] ?_ ?_ ?_;walk_at "f";obtain⟨v,wr,rfl,rv,⟨hn,⟨h1,h2,h3,h4,h5,h6,h7,h8,h9⟩,hp⟩,k⟩:=h;have hu:=Au hr;obtain⟨a,c,p,rfl,ha,rc,rp⟩:=Bt rv;refine⟨_,(A2 (Ay (C6 (C9 (A7 Ztz hr.z rfl (A3 (pv 0) (A3 (Ao rfl T.Zss) (A3 (Ao rfl T.Zss) A1)))))) (Aa (Ae Ft)) Ak)
 (A2 (Ay (PW.pt (Fg (C6 (C9 (A7 Zto hr.z rfl (A3 (A8 hu (pv 0) (Ao rfl T.Ztc) (λ_ _=>rfl)) A1)))) (Fg (C6 (C9 (A7 Ztr hr.z rfl (A3 (A8 hu (pv 0) (Ao rfl T.Zs7) (λ_ _=>rfl)) (A3 A6 (A3 (Ao rfl T.Zsr) A1)))))) (En (C6 (C9 (A7 Ztw hr.z rfl (A3 (A8 hu (pv 0) (Ao rfl T.Zsl) (λ_ _=>rfl)) (A3 A6 A1))))))))) (Aa (Ae Ft)) Ak)
 (A2 (Ay (PW.pt (Fg (C6 (C9 (A7 Ztw hr.z rfl (A3 (A8 hu (pv 0) (Ao rfl T.Zs6) (λ_ _=>rfl)) (A3 A6 A1))))) (En (C6 (C9 (A7 Ztw hr.z rfl (A3 (A8 hu (pv 0) (Ao rfl T.Zs5) (λ_ _=>rfl)) (A3 A6 A1)))))))) (Aa (Ae Ft)) Ak)
 (Aa (Ae (Ep (A7 Zsj hr.z rfl (A3 (A8 hu (pv 0) (Ao rfl T.Zsm) (λ_ _=>rfl)) A1)) (Gy (A7 Zrt hr.z rfl (A3 (A8 hu (pv 0) (Ao rfl T.Zsk) (λ_ _=>rfl)) A1))))))))),?_⟩
 walk_at "rd";refine⟨a,_,7,7,rfl,ha,Zz9 _,Zz9 _,_,rfl,?_⟩;rw[FY (by decide)];refine⟨_,Ad (j:=0) ha rfl,_,rfl,hn,λH1 s1=>⟨_,rfl,?_⟩⟩;have ha:=s1 _ _ ha;rw[FY (by decide)];refine⟨_,Ad (j:=1) ha rfl,_,0,30,rfl,h1.1,h1.2,_,rfl,?_⟩;rw[FY (by decide)];refine⟨_,Ad (j:=2) ha rfl,_,1,rfl,h2.1,_,rfl,?_⟩;rw[FY (by decide)];refine⟨_,Ad (j:=3) ha rfl,_,0,rfl,h3.1,_,rfl,?_⟩;rw[FY (by decide)];refine⟨_,Ad (j:=4) ha rfl,_,0,rfl,h4.1,_,rfl,?_⟩;rw[FY (by decide)];refine⟨_,Ad (j:=5) ha rfl,_,_,rfl,RD.same s1 _ _ rc,h8,λc hc=>⟨⟨(h9 c hc).1.1,by have:=(h9 c hc).1.2;lia⟩,(h9 c hc).2.1⟩,λH2 s2=>⟨_,rfl,?_⟩⟩;rw[FZ rfl];exact⟨_,Ad (j:=6) (s2 _ _ ha) rfl,_,_,rfl,RD.same (s1.trans s2) _ _ rp,h5,λc hc=>⟨hp c hc,(h6 c hc).1⟩,h7,λH3 s3=>k H3 ((s1.trans s2).trans s3)⟩
inductive DC (vs:List V) (H:Hp) (Q:VK) (E:XK):Prop | mk (v:V) (cs:List Wr) (_:vs=[v]) (_:RD H (.tuple (cs.map Wr.d)) v) (_:(1<=cs.length/\cs.length<=12)) (_:(∀c∈cs,WV c)) (_:(cs.map (·.name)).Nodup) (_:∀H',AA H H'->Q (.bl true) H')
theorem X8(F:Fun K "are_wares" "are_wares" Pq f fd)(T:Txt mg)(Zrb:Has P w K mg base "is_ware" 6 ["found"] DW)(Ztz:Has P w K mg base "is_tuple" 1 ["found", "least", "most"] AN)(Zt8:Has P w K mg base "are_unlike" 1 ["names"] BV):B2 P w K mg base CX0 7 f fd ["found"] DC:=by
 refine F.go ["found"] ?_ ?_ ?_;walk_at "f";obtain⟨v,cs,rfl,rv,hl,ok,nd,k⟩:=h;have hu:=Au hr;obtain⟨a,xs,rfl,ha,rx⟩:=RD.tup_of rv;have hx:=Aw rx;refine⟨_,(A2 (Ay (PW.pt (Fg (C6 (C9 (A7 Ztz hr.z rfl (A3 (pv 0) (A3 A6 (A3 (Ao rfl T.Zsv) A1)))))) (En (C6 (C9 (Ai (Fq rfl) rfl T.Zs8 Jy (A3 (Bc (own:=["ware"]) (cap:=[]) rfl (Br rfl) (Aq (by decide)) (J8 (pv 0))
 (λ_ _ _ _ _ _=>⟨(Ac (i:=0) (FV rfl) rfl (Zzt rfl) (.inr rfl)),Bb,(A7 Zrb hr.z rfl (A3 (pv 0) A1))⟩)) A1))))))) (Aa (Ae Ft)) Ak)
 (Aa (Ae (A7 Zt8 hr.z rfl (A3 (Bc (own:=["ware"]) (cap:=[]) rfl (Br rfl) (Aq (by decide)) (J8 (pv 0))
 (λ_ _ _ _ _ _=>⟨(Ac (i:=0) (FV rfl) rfl (Zzt rfl) (.inr rfl)),Bb,(A8 hu (pv 0) (Ao rfl T.Ztc) (λ_ _=>rfl))⟩)) A1))))),?_⟩
 walk_at "rd";refine⟨a,_,1,12,rfl,ha,by lia,by lia,_,rfl,?_⟩;rw[FY (by decide)];refine .inr ⟨xs,ha,Xz ha (by lia) (λi x H' hx s' N hN=>?_) λa' H2 s2 ha'=>⟨a',rfl,_,ha',?_⟩⟩
 ·obtain⟨c,ec,rc⟩:=Ax rx hx;walk_at "rd";exact⟨x,c,rfl,RD.same s' _ _ rc,ok c (Zzu ec),hN⟩
 ·rw[Fs,FY (by decide)];have ha2:=s2 _ _ ha;refine .inr ⟨xs,ha2,?_⟩;refine Bg (D1 a xs) (Ag (by lia)) (λH' s'=>s' _ _ ha2) ((cs.map (·.name)).map V.str) (by simp[hx]) (λi y H' hi hy s' N M hN=>?_) (λH' s' q hq=>?_)
  ·obtain⟨c,ec,rc⟩:=Ax rx hy;obtain⟨ca,_,_,rfl,hca,_⟩:=Bt rc;walk_at "rd";exact⟨_,Ad (j:=0) (s' _ _ (s2 _ _ hca)) rfl,hN _ _ s' (by rw[Zzy,Zzy,ec];rfl)⟩
  ·exact⟨q,_,rfl,A0,by rw[Zzz];lia,nd,λH5 s5=>k H5 (s2.trans (s'.trans ((A4 hq).trans s5)))⟩
inductive DX (vs:List V) (H:Hp) (Q:VK) (E:XK):Prop | mk (a:Addr) (u:Wt) (_:vs=[.ref a]) (_:H a=some (.tup [.str u.1,.int u.2.1,.int u.2.2])) (_:Bp u.1=true) (_:(0<=u.2.1/\u.2.1<=400)) (_:0<=u.2.2) (_:∀H',AA H H'->Q (.bl true) H')
theorem bw(F:Fun K "is_want" "is_want" Uw f fd)(T:Txt mg)(Ztz:Has P w K mg base "is_tuple" 1 ["found", "least", "most"] AN)(Ztw:Has P w K mg base "is_from" 2 ["found", "least"] BA)(Ztr:Has P w K mg base "is_between" 3 ["found", "least", "most"] BG)(Zto:Has P w K mg base "is_name" 1 ["found"] BK):B2 P w K mg base CX0 4 f fd ["found"] DX:=by
 refine F.go ["found"] ?_ ?_ ?_;walk_at "f";obtain⟨a,c,rfl,ha,h1,h2,h3,k⟩:=h;have hu:=Au hr;refine⟨_,(A2 (Ay (C6 (C9 (A7 Ztz hr.z rfl (A3 (pv 0) (A3 A6 (A3 A6 A1)))))) (Aa (Ae Ft)) Ak)
 (Aa (Ae (Ep (A7 Zto hr.z rfl (A3 (A8 hu (pv 0) A6 (λ_ _=>rfl)) A1)) (Ep (A7 Ztr hr.z rfl (A3 (A8 hu (pv 0) A6 (λ_ _=>rfl)) (A3 A6 (A3 (Ao rfl T.Zt4) A1)))) (Gy (A7 Ztw hr.z rfl (A3 (A8 hu (pv 0) A6 (λ_ _=>rfl)) (A3 A6 A1))))))))),?_⟩
 walk_at "rd";refine⟨a,_,3,3,rfl,ha,Zz9 _,Zz9 _,_,rfl,?_⟩;rw[FY (by decide)];refine⟨_,Ad (j:=0) ha rfl,c.1,rfl,h1,λH1 s1=>⟨_,rfl,?_⟩⟩;rw[FZ rfl];refine⟨_,Ad (j:=1) (s1 _ _ ha) rfl,_,0,400,rfl,h2.1,h2.2,_,rfl,?_⟩;rw[FZ rfl];exact⟨_,Ad (j:=2) (s1 _ _ ha) rfl,_,0,rfl,h3,k H1 s1⟩
inductive DD (vs:List V) (H:Hp) (Q:VK) (E:XK):Prop | mk (v:V) (cs:List Wt) (_:vs=[v]) (_:RD H (.tuple (cs.map Ha)) v) (_:cs.length<=20) (_:(∀u∈cs,Bp u.1=true/\(0<=u.2.1/\u.2.1<=400)/\0<=u.2.2)) (_:∀H',AA H H'->Q (.bl true) H')
theorem X9(F:Fun K "are_wants" "are_wants" Pr f fd)(T:Txt mg)(Zra:Has P w K mg base "is_want" 4 ["found"] DX)(Ztz:Has P w K mg base "is_tuple" 1 ["found", "least", "most"] AN):B2 P w K mg base CX0 5 f fd ["found"] DD:=by
 refine F.go ["found"] ?_ ?_ ?_;walk_at "f";obtain⟨v,cs,rfl,rv,hl,ok,k⟩:=h;have hu:=Au hr;obtain⟨a,xs,rfl,ha,rx⟩:=RD.tup_of rv;have hx:=Aw rx;refine⟨_,(Aa (Ae (Ep (A7 Ztz hr.z rfl (A3 (pv 0) (A3 A6 (A3 (Ao rfl T.Zt9) A1)))) (Gy (Ai (Fq rfl) rfl T.Zs8 Jy (A3 (Bc (own:=["want"]) (cap:=[]) rfl (Br rfl) (Aq (by decide)) (J8 (pv 0))
 (λ_ _ _ _ _ _=>⟨(Ac (i:=0) (FV rfl) rfl (Zzt rfl) (.inr rfl)),Bb,(A7 Zra hr.z rfl (A3 (pv 0) A1))⟩)) A1)))))),?_⟩
 walk_at "rd";refine⟨a,_,0,20,rfl,ha,by lia,by lia,_,rfl,?_⟩;rw[FZ rfl];refine .inr ⟨xs,ha,Xz ha (by lia) (λi x H' hx s' N hN=>?_) λa' H' s' ha'=>⟨a',rfl,_,ha',?_⟩⟩
 ·obtain⟨c,ec,rc⟩:=Ax rx hx;obtain⟨ca,rfl,hca⟩:=G3 rc;have o:=ok c (Zzu ec);walk_at "rd";exact⟨ca,c,rfl,s' _ _ hca,o.1,o.2.1,o.2.2,hN⟩
 ·rw[Fs];exact k _ s'
end
set_option maxHeartbeats 4000000
set_option maxHeartbeats 4000000
set_option maxHeartbeats 4000000
section
variable {dk:Dk}
def A2q(w:Wr):Prop:=w.parts.length<=1000/\w.coming.length<=1000
structure Th(S:Sh):Prop where
 names:(S.wares.map (·.name)).Nodup
 len:S.wares.length<=1000
 wares:∀w∈S.wares,A2q w
inductive AX (vs:List V) (H:Hp) (Q:VK) (E:XK):Prop | mk (v:V) (w:Wr) (_:vs=[v]) (_:RD H w.d v) (_:A2q w) (_:∀p H',H p=none->H' p=some (.lst ((w.parts.map (·.1)).map V.str))->AA H H'->Q (.ref p) H')
theorem Ts(F:Fun K "part_names" "part_names" Ms f fd)(T:Txt mg):B2 P w K mg base CX0 1 f fd ["ware"] AX:=by
 refine F.go ["ware"] ?_ ?_ ?_;walk_at "f";obtain⟨v,w,rfl,rw',ok,k⟩:=h;have hu:=Au hr;refine⟨_,(Aa (Ae (Bc (own:=["part"]) (cap:=[]) rfl (Br rfl) (Aq (by decide)) (Ca (A8 hu (pv 0) (Ao rfl T.Zsk) (λ_ _=>rfl)))
 (λ_ _ _ _ _ _=>⟨(Ac (i:=0) (FV rfl) rfl (Zzt rfl) (.inr rfl)),Bb,(A8 hu (pv 0) A6 (λ_ _=>rfl))⟩)))),?_⟩
 obtain⟨a,c,p,rfl,ha,rc,rp⟩:=Bt rw';obtain⟨b,ps,rfl,hb,rps⟩:=RD.tup_of rp;have hl:=Aw rps;walk_at "rd";refine⟨_,Ad (j:=6) ha rfl,b,rfl,_,hb,?_⟩;refine Bg (D1 b _) (Ag (by rw[hl];exact ok.1)) (λH' s'=>s' _ _ hb) ((w.parts.map (·.1)).map V.str) (by rw[Zzz,Zzz,hl]) (λi x H' hi hx s' N M hN=>?_) (λH' s' p hp=>?_)
 ·obtain⟨y,hy,ry⟩:=Ax rps hx;obtain⟨e,rfl,he⟩:=Iv ry;walk_at "rd";exact⟨_,Ad (j:=0) (s' _ _ he) rfl,hN _ _ s' (by rw[Zzy,Zzy,hy];rfl)⟩
 ·exact k p _ (AA.free s' hp) A0 (s'.trans (A4 hp))
inductive BL (vs:List V) (H:Hp) (Q:VK) (E:XK):Prop | mk (v:V) (S:Sh) (n:Str) (_:vs=[v,.str n]) (_:RD H S.d v) (_:Th S) (_:n∈S.wares.map (·.name)) (_:∀x w,w∈S.wares->w.name=n->RD H w.d x->Q x H)
inductive zq (b:V) (n:Str) (ws:List Wr) (H:Hp) (i:Nat) (Z:St) (H':Hp):Prop | mk (c:Option V) (_:Z=[some b,some (.str n),c]) (_:H'=H) (_:∀w∈ws.take i,w.name≠n)
theorem bo(F:Fun K "ware_of" "ware_of" Up f fd)(T:Txt mg):B2 P w K mg base CX0 1 f fd ["shop", "name"] BL:=by
 refine F.go ["shop", "name", "ware"] ?_ ?_ ?_;walk_at "f";obtain⟨v,S,n,rfl,rs,ok,hn,k⟩:=h;have hu:=Au hr;refine⟨_,(A2 (Bk PassesOwn.never rfl (Ca (A8 hu (pv 0) A6 (λ_ _=>rfl))) (Ac (i:=2) Nd rfl (Zzt rfl))
 (Aa (Ay (Ah (Bl hu) (A8 hu (pv 2) (Ao rfl T.Ztc) (λ_ _=>rfl)) (pv 1) (Aj _)) (Aa (Ae (pv 2))) Ak)))
 (Aa qq)),?_⟩
 obtain⟨a,b,c,ws,us,rfl,ha,hb,hc,rws,rus⟩:=Cb rs;have hl:=Aw rws;walk_at "rd";refine⟨_,Ad (j:=0) ha rfl,b,rfl,_,hb,?_⟩;refine Cp (D1 b _) (zq (.ref a) n S.wares H) ⟨_,rfl,rfl,by simp⟩ (λi Z H' _ h=>by obtain⟨_,_,rfl,_⟩:=h;exact hb) (λi x Z H' hi hx h=>?_) (λZ H' h=>?_)
 ·obtain⟨c,rfl,rfl,hno⟩:=h;obtain⟨w,hw,rw'⟩:=Ax rws hx;obtain⟨e,c1,c2,rfl,he,_⟩:=Bt rw';walk_at "rd";refine⟨_,Ad (j:=0) he rfl,rfl,Dq (λh=>?_) (λh=>?_)⟩
  ·exact k _ w (Zzu hw) (by have:=FV h;cases this;rfl) rw'
  ·refine⟨_,rfl,rfl,λw' hw'=>?_⟩;rw[Zzb,hw] at hw';rcases Zz4.mp hw' with z | z
   ·exact hno w' z
   ·have e:w'=w:=by simpa using z
    subst e;intro e;exact h (FW (by rw[e]))
 ·obtain⟨c,rfl,rfl,hno⟩:=h;rw[hl,Zzf] at hno;obtain⟨w,hw,e⟩:=Zzv.mp hn;exact absurd e (hno w hw)
inductive CI (vs:List V) (H:Hp) (Q:VK) (E:XK):Prop | mk (a:Addr) (kvs:List (Key×V)) (G:Gr) (_:vs=[.ref a]) (_:H a=some (.dK kvs)) (_:PDk H kvs G) (_:(Bf G).Nodup) (_:G.length<=1000) (_:(∀e∈G,e.2.length<=1000)) (_:∀p kvs' H',H p=none->H' p=some (.dK kvs')->PDk H' kvs' (lj G)->But a H H'->Q (.ref p) H')
def A01(a p:Addr)(o:Obj)(kvs:List (Key×V))(G:Gr)(H:Hp)(i:Nat)(Z:St)(H':Hp):Prop:=∃(n g:Option V) (kvs':List (Key×V)),Z=[some (.ref a),some (.ref p),n,g]/\H' a=some (.frz o (.dK kvs))/\H' p=some (.dK kvs')/\PDk H' kvs' ((G.take i).filterMap (Dv (Bf G)))/\But a H H'
def A34(a p:Addr)(o:Obj)(kvs kvs':List (Key×V))(G G':Gr)(ps:List Str)(H:Hp)(i:Nat)(acc:List V)(H':Hp):Prop:=acc=(Sz (Bf G) (ps.take i)).map V.str/\H' a=some (.frz o (.dK kvs))/\H' p=some (.dK kvs')/\PDk H' kvs' G'/\But a H H'/\PDk H' kvs G
theorem Vh{ks:List Str}(h:ps[i]?=some x):Sz ks (ps.take (i+1))=Sz ks (ps.take i)++if decide (x∈ks)=true then [x] else []:=by
 unfold Sz;rw[Zzb,h,Zyx];by_cases hx:x∈ks
 ·simp[hx]
 ·simp[hx]
theorem Q6(F:Fun K "without_ends" "without_ends" Ko f fd)(T:Txt mg):B2 P w K mg base CX0 1 f fd ["parts"] CI:=by
 refine F.go ["parts", "left", "name", "going_on"] ?_ ?_ ?_;walk_at "f";obtain⟨a,kvs,G,rfl,ha,pd,nd,hG,hps,k⟩:=h;have hu:=Au hr;have hkl:=pd.len;have ndk:(kvs.map (·.1)).Nodup:=by rw[pd.keys];exact l6 nd
 refine⟨_,(A2 (Af (i:=1) Nd rfl (Zzt rfl) Jh)
 (A2 (Bk PassesOwn.never rfl (A0u (pv 0)) (Ac (i:=2) Nd rfl (Zzt rfl))
 (A2 (Df (own:=["part"]) (cap:=[0]) (i:=3) rfl (Br rfl) (Aq (by decide)) Nd rfl rfl (Cq (A8 hu (pv 0) (pv 2) (λ_ _=>rfl)))
 (λ_ _ _ _ _ _=>⟨(Ac (i:=0) (FV rfl) rfl (Zzt rfl) (.inr rfl)),(G4 (Ah (Mb hu) (pv 0) (pv 1) rfl)),(pv 0)⟩))
 (Aa (Ay (ge (pv 3)) (Aa (Eo (pv 3) (Fy (pv 1) (pv 2) (Gm hu)))) Ak))))
 (Aa (Ae (pv 1))))),?_⟩
 walk_at "rd";refine λp hp=>⟨_,by rw[Ab (A5 ha hp)];exact ha,λo=>?_⟩;have nap:a≠p:=A5 ha hp;have b0:But a H (upd (upd H p (.dK [])) a (.frz o (.dK kvs))):=(Qv hp).trans Xu;have pl:∀{H':Hp},But a H H'->PDk H' kvs G:=λ{H'} bt=>pd.mono λl xs h=>bt l _ (λz=>by rw[z,ha] at h;cases h) h;refine Cp (A2i a o kvs) (A01 a p o kvs G H) ⟨_,_,[],rfl,A0,by rw[Ab (Zzi nap),A0],.nil,b0⟩ (λi Z H' _ h=>by obtain⟨_,_,_,_,h,_⟩:=h;exact h) (λi x Z H' hi hx h=>?_) (λZ H' h=>?_)
 ·obtain⟨n,g,kvs',rfl,h1,h2,h3,bt⟩:=h;obtain⟨key,val,hk,rfl⟩:=hx;obtain⟨e,l,he,rfl,rfl,hl⟩:=PDk.get' (pl bt) hk;have hv:=R6 ndk hk;have hmem:=Zzu he;refine A1k (λZ' H''=>∃q:Addr,Z'=[some (.ref a),some (.ref p),some (.str e.1),some (.ref q)]/\H'' q=some (.lst ((Sz (Bf G) e.2).map V.str))/\H'' a=some (.frz o (.dK kvs))/\H'' p=some (.dK kvs')/\PDk H'' kvs' ((G.take i).filterMap (Dv (Bf G)))/\But a H H'') ?_ (λKK hK=>?_)
  ·rintro Z' H'' ⟨q,rfl,hq,g1,g2,g3,gb⟩;walk_at "rd";refine⟨_,hq,?_⟩;have et:(G.take (i+1)).filterMap (Dv (Bf G))=(G.take i).filterMap (Dv (Bf G))++(Dv (Bf G) e).toList:=by
    rw[Zzb,he,List.filterMap_append];cases hc:Dv (Bf G) e<;>simp[hc]
   refine Dq (λhz=>?_) (λhz=>?_)
   ·have hne:Sz (Bf G) e.2≠[]:=λz=>by rw[z] at hz;exact absurd hz (by decide)
    have hc:Dv (Bf G) e=some (e.1,Sz (Bf G) e.2):=by unfold Dv;rw[FY hne]
    have nin:e.1∉Bf ((G.take i).filterMap (Dv (Bf G))):=λm=>by
     have m':e.1∈Bf (G.take i):=(BR (ks:=Bf G) (G:=G.take i)).subset m;have nd':(Bf (G.take i)++Bf (G.drop i)).Nodup:=by
      have:Bf (G.take i)++Bf (G.drop i)=Bf G:=by unfold Bf;rw[<- Zzo,Zwm]
      rw[this];exact nd
     have hlt:i<G.length:=(Zze.mp he).1;have md:e.1∈Bf (G.drop i):=by
      unfold Bf;rw[Zvg hlt];have:G[i]=e:=(Zze.mp he).2;rw[this,Zza];exact Zzm
     exact(Zv1.mp nd').2.2 _ m' _ md rfl
    have hlen':kvs'.length<sizeLine:=by
     have:=g3.len;have h5:((G.take i).filterMap (Dv (Bf G))).length<=(G.take i).length:=List.length_filterMap_le _ _;rw[Zz7] at h5;exact Zz0 (m:=1000) (by lia) (by decide)
    refine⟨kvs',.inr e.1,rfl,g2,hlen',?_⟩;have ku:∀l xs,H'' l=some (.lst xs)->upd H'' p (.dK (Gx kvs' (.inr e.1) (.ref q))) l=some (.lst xs):=λl xs h=>by rw[Ab (λz=>by rw[z,g2] at h;cases h)];exact h
    refine⟨_,_,_,rfl,by rw[Ab nap];exact g1,A0,?_,?_⟩
    ·rw[et,hc];exact(g3.mono ku).snoc nin (ku _ _ hq)
    ·exact λb o' nb hb=>by rw[Ab (A5 hb hp)];exact gb b o' nb hb
   ·have hne:Sz (Bf G) e.2=[]:=by
     cases hx:Sz (Bf G) e.2 with
     |nil=>rfl
     |cons y r=>rw[hx] at hz;exact absurd rfl hz
    have hc:Dv (Bf G) e=none:=by unfold Dv;rw[FZ hne]
    exact⟨_,_,_,rfl,g1,g2,by rw[et,hc];simpa using g3,gb⟩
  ·walk_at "rd";refine⟨_,Ik (.inr ⟨o,h1⟩) hv,l,rfl,_,hl,?_⟩;refine Et (Dw l _) (Ag (by rw[Zzz];exact hps e hmem)) (A34 a p o kvs kvs' G ((G.take i).filterMap (Dv (Bf G))) e.2 H) ⟨rfl,h1,h2,h3,bt,pl bt⟩ (λj acc H2 _ h=>?_) (λj acc H2 h=>?_) (λj x acc H2 hj hx h=>?_) (λacc H2 h q hq=>?_)
   ·obtain⟨_,_,_,_,hb,hpd⟩:=h;obtain⟨l2,hl2,hl3⟩:=PDk.get hpd he;rw[hk] at hl2;cases hl2;exact hl3
   ·rw[h.1,Zzz];refine Zzd (Zyh _ _) ?_;rw[Zz7];exact Nat.min_le_left _ _
   ·obtain⟨rfl,w1,w2,w3,w4,w5⟩:=h;rw[Zzy] at hx;cases ex:e.2[j]? with
    |none=>rw[ex] at hx;cases hx
    |some y =>
    rw[ex] at hx;cases hx;walk_at "rd";refine⟨_,.inr (.inr ⟨a,kvs,.inr y,rfl,rfl,.inr ⟨o,w1⟩,rfl⟩),?_⟩;rw[w5.has y];refine Dq (λhy=>?_) (λhy=>?_)
    ·exact⟨by rw[Vh ex,FZ hy,Zzo];rfl,w1,w2,w3,w4,w5⟩
    ·exact⟨by rw[Vh ex,FY hy,Zz6],w1,w2,w3,w4,w5⟩
   ·obtain⟨rfl,w1,w2,w3,w4,w5⟩:=h;rw[Zzz,Zzf];have nq:∀{b:Addr} {o':HO} (o'':HO),H2 b=some o'->upd H2 q o'' b=some o':=λ{b o'} o'' hb=>by rw[Ab (A5 hb hq)];exact hb
    exact hK _ _ ⟨q,rfl,A0,nq _ w1,nq _ w2,w3.mono λl xs h=>nq _ h,w4.trans (Qv hq)⟩
 ·obtain⟨n,g,kvs',rfl,h1,h2,h3,bt⟩:=h;walk_at "rd";rw[hkl,Zzf] at h3;exact k p kvs' H' hp h2 h3 bt
inductive BY (vs:List V) (H:Hp) (Q:VK) (E:XK):Prop | mk (v:V) (S:Sh) (_:vs=[v]) (_:RD H S.d v) (_:Th S) (_:∀p kvs' H',H p=none->H' p=some (.dK kvs')->PDk H' kvs' (T6 S.wares.length (Il S))->AA H H'->Q (.ref p) H')
inductive A20 (v:V) (p:Addr) (S:Sh) (H:Hp) (i:Nat) (Z:St) (H':Hp):Prop | mk (n g:Option V) (kvs':List (Key×V)) (_:Z=[some v,some (.ref p),n,g]) (_:H' p=some (.dK kvs')) (_:PDk H' kvs' ((Il S).take i)) (_:AA H H')
inductive A1w (v:V) (S:Sh) (H:Hp) (i:Nat) (Z:St) (H':Hp):Prop | mk (q:Addr) (n g:Option V) (kvs':List (Key×V)) (_:Z=[some v,some (.ref q),n,g]) (_:H q=none) (_:H' q=some (.dK kvs')) (_:PDk H' kvs' (T6 i (Il S))) (_:AA H H')
theorem yv(S:Sh):Bf (Il S)=S.wares.map (·.name):=by unfold Bf Il;rw[Zz1];rfl
theorem d5(S:Sh):(Il S).length=S.wares.length:=by unfold Il;rw[Zzz]
theorem v0(ok:Th S):∀e∈Il S,e.2.length<=1000:=λe he=>by
 obtain⟨w,hw,rfl⟩:=Zzv.mp he;show (w.parts.map (·.1)).length<=1000;rw[Zzz];exact(ok.wares w hw).1
theorem Oi(F:Fun K "endless_parts" "endless_parts" Kb f fd)(T:Txt mg)(Ztv:Has P w K mg base "part_names" 1 ["ware"] AX)(Zsi:Has P w K mg base "without_ends" 1 ["parts"] CI):B2 P w K mg base CX0 2 f fd ["shop"] BY:=by
 refine F.go ["shop", "parts", "ware", "turn"] ?_ ?_ ?_;walk_at "f";obtain⟨v,S,rfl,rs,ok,k⟩:=h;have hu:=Au hr;have nd:(Bf (Il S)).Nodup:=by rw[yv];exact ok.names
 refine⟨_,(A2 (Af (i:=1) Nd rfl (Zzt rfl) Jh)
 (A2 (Bk PassesOwn.never rfl (Ca (A8 hu (pv 0) A6 (λ_ _=>rfl))) (Ac (i:=2) Nd rfl (Zzt rfl))
 (Aa (Eo (A7 Ztv hr.z rfl (A3 (pv 2) A1)) (Fy (pv 1) (A8 hu (pv 2) (Ao rfl T.Ztc) (λ_ _=>rfl)) (Gm hu)))))
 (A2 (Bk PassesOwn.never rfl (Cl rfl T.Zth (A3 (Ai Bs rfl T.Zts Ct (A3 (A8 hu (pv 0) A6 (λ_ _=>rfl)) A1)) A1)) (Ac (i:=3) Nd rfl (Zzt rfl))
 (Aa (Af (i:=1) Nd rfl (Zzt rfl) (A7 Zsi hr.z rfl (A3 (pv 1) A1)))))
 (Aa (Ae (pv 1)))))),?_⟩
 obtain⟨a,b,c,ws,us,rfl,ha,hb,hc,rws,rus⟩:=Cb rs;have hl:=Aw rws;refine zh (λZ' H'=>∃(p:Addr) (n g:Option V) (kvs':List (Key×V)),Z'=[some (.ref a),some (.ref p),n,g]/\H p=none/\H' p=some (.dK kvs')/\PDk H' kvs' (Il S)/\AA H H') ?_ (λKK hK=>?_)
 ·rintro Z' H1 ⟨p,n,g,kvs',rfl,hp,hp1,pd,sm⟩;walk_at "rd";refine⟨_,Ad (j:=0) (sm _ _ ha) rfl,b,rfl,_,.inr (sm _ _ hb),by lia,by have:=ok.len;lia,?_⟩;have en:((ws.length:Nat):Int).toNat=S.wares.length:=by lia
  rw[en];refine Cp (J4 0 _) (A1w (.ref a) S H) ⟨p,_,_,_,rfl,hp,hp1,pd,sm⟩ (λ_ _ _ _ _=>trivial) (λi x Z H2 hi hx h=>?_) (λZ H2 h=>?_)
  ·obtain⟨q,n,g,kvs',rfl,hq,hq1,pd,sm⟩:=h;walk_at "rd";refine⟨q,kvs',_,rfl,hq1,pd,T5 nd i,by have:=ae (Il S) i;rw[d5] at this;have:=ok.len;lia,λe he=>?_,λp2 kvs2 H3 hp2 hp3 pd3 bt=>?_⟩
   ·obtain⟨ps,h1,_,h3⟩:=Jx i he;have:=v0 ok _ h1;have:ps.length<=1000:=this;lia
   ·exact⟨p2,_,_,kvs2,rfl,AA.free sm hp2,hp3,pd3,λb' o hb'=>bt b' o (A5 hb' hq) (sm b' o hb')⟩
  ·obtain⟨q,n,g,kvs',rfl,hq,hq1,pd,sm⟩:=h;walk_at "rd";exact k q kvs' H2 hq hq1 pd sm
 ·walk_at "rd";refine λp hp=>?_;refine⟨_,Ad (j:=0) (by rw[Ab (A5 ha hp)];exact ha) rfl,b,rfl,_,by rw[Ab (A5 hb hp)];exact hb,?_⟩;refine Cp (D1 b _) (A20 (.ref a) p S H) ⟨_,_,[],rfl,A0,.nil,A4 hp⟩ (λi Z H' _ h=>by obtain⟨_,_,_,_,_,_,s⟩:=h;exact s _ _ hb) (λi x Z H' hi hx h=>?_) (λZ H' h=>?_)
  ·obtain⟨n,g,kvs',rfl,h1,h2,sm⟩:=h;obtain⟨w,hw,rw'⟩:=Ax rws hx;have hg:(Il S)[i]?=some (w.name,w.parts.map (·.1)):=by unfold Il;rw[Zzy,hw];rfl
   walk_at "rd";refine⟨x,w,rfl,RD.same sm _ _ rw',ok.wares w (Zzu hw),λq H2 hq hq2 sm2=>?_⟩;obtain⟨e,c1,c2,rfl,he,_⟩:=Bt rw';have sm02:=sm.trans sm2;have nin:w.name∉Bf ((Il S).take i):=λm=>by
    have nd':(Bf ((Il S).take i)++Bf ((Il S).drop i)).Nodup:=by
     have:Bf ((Il S).take i)++Bf ((Il S).drop i)=Bf (Il S):=by unfold Bf;rw[<- Zzo,Zwm]
     rw[this];exact nd
    have hlt:i<(Il S).length:=(Zze.mp hg).1;have md:w.name∈Bf ((Il S).drop i):=by
     unfold Bf;rw[Zvg hlt];have:(Il S)[i]=(w.name,w.parts.map (·.1)):=(Zze.mp hg).2;rw[this,Zza];exact Zzm
    exact(Zv1.mp nd').2.2 _ m _ md rfl
   have hp2:=sm2 p _ h1;refine⟨_,Ad (j:=0) (sm02 _ _ he) rfl,kvs',.inr w.name,rfl,hp2,?_,?_⟩
   ·have:=h2.len
    rw[Zz7,d5] at this;have:=ok.len;exact Zz0 (m:=1000) (by lia) (by decide)
   ·have ku:∀l xs,H2 l=some (.lst xs)->upd H2 p (.dK (Gx kvs' (.inr w.name) (.ref q))) l=some (.lst xs):=λl xs h=>by rw[Ab (λz=>by rw[z,hp2] at h;cases h)];exact h
    refine⟨_,_,_,rfl,A0,?_,λb' o hb'=>by rw[Ab (A5 hb' hp)];exact sm02 b' o hb'⟩;rw[Zzb,hg];exact((h2.mono λl xs h=>sm2 l _ h).mono ku).snoc nin (ku _ _ hq2)
  ·obtain⟨n,g,kvs',rfl,h1,h2,sm⟩:=h;rw[hl,<- d5,Zzf] at h2;exact hK _ _ ⟨p,_,_,kvs',rfl,hp,h1,h2,sm⟩
def K4(S:Sh):Prop:=T6 S.wares.length (Il S)=[]
inductive EK (vs:List V) (H:Hp) (Q:VK) (E:XK):Prop | mk (v:V) (S:Sh) (_:vs=[v]) (_:RD H S.d v) (_:Th S) (_:K4 S) (_:∀H',AA H H'->Q .non H')
theorem yf(F:Fun K "ring" "ring" px f fd)(T:Txt mg)(Zsq:Has P w K mg base "endless_parts" 2 ["shop"] BY):B2 P w K mg base CX0 3 f fd ["shop"] EK:=by
 refine F.go ["shop", "parts", "way", "name"] ?_ ?_ ?_;walk_at "f";obtain⟨v,S,rfl,rs,ok,no,k⟩:=h;have hu:=Au hr;refine⟨_,(A2 (Af (i:=1) Nd rfl (Zzt rfl) (A7 Zsq hr.z rfl (A3 (pv 0) A1)))
 (A2 (Ay (C6 (xr (pv 1))) (Aa (Ae Fz)) Ak)
 C0)),?_⟩
 walk_at "rd";refine⟨v,S,rfl,rs,ok,λp kvs H' hp hp' pd sm=>?_⟩;rw[no] at pd;cases pd;exact⟨p,rfl,[],hp',iteT (k H' sm)⟩
inductive AW (vs:List V) (H:Hp) (Q:VK) (E:XK):Prop | mk (v:V) (S:Sh) (_:vs=[v]) (_:RD H S.d v) (_:Th S) (_:K4 S) (_:∀H',AA H H'->Q .non H')
theorem Sg(F:Fun K "check_rings" "check_rings" M8 f fd)(T:Txt mg)(Zqv:Has P w K mg base "ring" 3 ["shop"] EK):B2 P w K mg base CX0 4 f fd ["shop"] AW:=by
 refine F.go ["shop", "found", "names"] ?_ ?_ ?_;walk_at "f";obtain⟨v,S,rfl,rs,ok,no,k⟩:=h;have hu:=Au hr;refine⟨_,(A2 (Af (i:=1) Nd rfl (Zzt rfl) (A7 Zqv hr.z rfl (A3 (pv 0) A1)))
 (Aa (Ay (Ah V5 (pv 1) Fz (Aj _)) C0 Ak))),?_⟩
 walk_at "rd";refine⟨v,S,rfl,rs,ok,no,λH' sm=>?_⟩;walk_at "rd";exact A2d trivial (k H' sm)
end
set_option maxHeartbeats 4000000
section
variable {dk:Dk}
structure W2(S:Sh):Prop extends Lev S where
 ok:Th S
 few:S.wares.length<64
theorem cx(h:Lev S):K4 S:=by
 obtain⟨r,h1,h2⟩:=h.low;unfold K4;refine ad (r:=r) (λe he x hx=>?_) (λe he=>?_)
 ·obtain⟨w,hw,rfl⟩:=Zzv.mp he;obtain⟨p,hp,rfl⟩:=Zzv.mp hx;exact h2 w hw p hp
 ·obtain⟨w,hw,rfl⟩:=Zzv.mp he;exact h1 w hw
def Be(S:Sh):List Str:=S.wares.map (·.name)
theorem Cn(S:Sh):(Be S).length=S.wares.length:=by unfold Be;rw[Zzz]
inductive BD (vs:List V) (H:Hp) (Q:VK) (E:XK):Prop | mk (v:V) (S:Sh) (_:vs=[v]) (_:RD H S.d v) (_:S.wares.length<=1000) (_:∀p H',H p=none->H' p=some (.lst ((Be S).map V.str))->AA H H'->Q (.ref p) H')
theorem Z9(F:Fun K "names_of" "names_of" Rm f fd)(T:Txt mg):B2 P w K mg base CX0 1 f fd ["shop"] BD:=by
 refine F.go ["shop"] ?_ ?_ ?_;walk_at "f";obtain⟨v,S,rfl,rs,hlen,k⟩:=h;have hu:=Au hr;refine⟨_,(Aa (Ae (Bc (own:=["ware"]) (cap:=[]) rfl (Br rfl) (Aq (by decide)) (Ca (A8 hu (pv 0) A6 (λ_ _=>rfl)))
 (λ_ _ _ _ _ _=>⟨(Ac (i:=0) (FV rfl) rfl (Zzt rfl) (.inr rfl)),Bb,(A8 hu (pv 0) (Ao rfl T.Ztc) (λ_ _=>rfl))⟩)))),?_⟩
 obtain⟨a,b,c,ws,us,rfl,ha,hb,hc,rws,rus⟩:=Cb rs;have hl:=Aw rws;walk_at "rd";refine⟨_,Ad (j:=0) ha rfl,b,rfl,_,hb,?_⟩;refine Bg (D1 b _) (Ag (by lia)) (λH' s'=>s' _ _ hb) ((Be S).map V.str) (by rw[Zzz,Cn,hl]) (λi x H' hi hx s' N M hN=>?_) (λH' s' p hp=>?_)
 ·obtain⟨y,hy,ry⟩:=Ax rws hx;obtain⟨e,c1,c2,rfl,he,_⟩:=Bt ry;walk_at "rd";refine⟨_,Ad (j:=0) (s' _ _ he) rfl,hN _ _ s' ?_⟩;unfold Be;rw[Zzy,Zzy,hy];rfl
 ·exact k p _ (AA.free s' hp) A0 (s'.trans (A4 hp))
inductive EC (vs:List V) (H:Hp) (Q:VK) (E:XK):Prop | mk (v:V) (S:Sh) (_:vs=[v]) (_:RD H S.d v) (_:W2 S) (_:∀p H',H p=none->H' p=some (.dK (fnD (Be S) (lv S)))->AA H H'->Q (.ref p) H')
inductive zo (v:V) (p:Addr) (S:Sh) (H:Hp) (i:Nat) (Z:St) (H':Hp):Prop | mk (o1 o2 o3 o4:Option V) (_:Z=[some v,some (.ref p),o1,o2,o3,o4]) (_:H' p=some (.dK (fnD ((Be S).take i) λ_=>0))) (_:AA H H')
def A0b(S:Sh)(k i j:Nat)(g:Str->Int):Prop:=(∀x,0<=g x/\lvF S k x<=g x/\(x∈Be S->g x<=lv S x))/\(∀w∈S.wares.take i,∀p∈w.parts,1+lvF S k w.name<=g p.1)/\∀w,S.wares[i]?=some w->∀p∈w.parts.take j,1+lvF S k w.name<=g p.1
inductive zr (v:V) (p:Addr) (S:Sh) (H:Hp) (k:Nat) (Z:St) (H':Hp):Prop | mk (o1 o2 o3 o4:Option V) (g:Str->Int) (_:Z=[some v,some (.ref p),o1,o2,o3,o4]) (_:H' p=some (.dK (fnD (Be S) g))) (_:(∀x,0<=g x/\lvF S k x<=g x/\(x∈Be S->g x<=lv S x))) (_:AA H H')
inductive zu (v:V) (p:Addr) (S:Sh) (k:Nat) (H:Hp) (i:Nat) (Z:St) (H':Hp):Prop | mk (o1 o2 o3 o4:Option V) (g:Str->Int) (_:Z=[some v,some (.ref p),o1,o2,o3,o4]) (_:H' p=some (.dK (fnD (Be S) g))) (_:A0b S k i 0 g) (_:AA H H')
inductive wn (v:V) (p:Addr) (t:V) (S:Sh) (k i:Nat) (H:Hp) (j:Nat) (Z:St) (H':Hp):Prop | mk (o1 o2 o4:Option V) (g:Str->Int) (_:Z=[some v,some (.ref p),o1,o2,some t,o4]) (_:H' p=some (.dK (fnD (Be S) g))) (_:A0b S k i j g) (_:AA H H')
theorem jy(F:Fun K "levels" "levels" Yy f fd)(T:Txt mg)(Ztx:Has P w K mg base "check_rings" 4 ["shop"] AW)(Ztu:Has P w K mg base "names_of" 1 ["shop"] BD)(Ztv:Has P w K mg base "part_names" 1 ["ware"] AX):B2 P w K mg base CX0 5 f fd ["shop"] EC:=by
 refine F.go ["shop", "told", "name", "turn", "ware", "part"] ?_ ?_ ?_;walk_at "f";obtain⟨v,S,rfl,rs,L,k⟩:=h;have hu:=Au hr;refine⟨_,(A2 (C5 (A7 Ztx hr.z rfl (A3 (pv 0) A1)))
 (A2 (Af (i:=1) Nd rfl (Zzt rfl) Jh)
 (A2 (Bk PassesOwn.never rfl (Cq (A7 Ztu hr.z rfl (A3 (pv 0) A1))) (Ac (i:=2) Nd rfl (Zzt rfl))
 (Aa (Eo A6 (Fy (pv 1) (pv 2) (Gm hu)))))
 (A2 (Bk PassesOwn.never rfl (Cl rfl T.Zth (A3 (Ai Bs rfl T.Zts Ct (A3 (A8 hu (pv 0) A6 (λ_ _=>rfl)) A1)) A1)) (Ac (i:=3) Nd rfl (Zzt rfl))
 (Aa (Bk PassesOwn.never rfl (Ca (A8 hu (pv 0) A6 (λ_ _=>rfl))) (Ac (i:=4) Nd rfl (Zzt rfl))
 (Aa (Bk PassesOwn.never rfl (Cq (A7 Ztv hr.z rfl (A3 (pv 4) A1))) (Ac (i:=5) Nd rfl (Zzt rfl))
 (Aa (Eo (Ai (Ou rfl) rfl T.Zrv Me (A3 (A8 hu (pv 1) (pv 5) (λ_ _=>rfl)) (A3 (At C7 (A8 hu (pv 1) (A8 hu (pv 4) (Ao rfl T.Ztc) (λ_ _=>rfl)) (λ_ _=>rfl)) A6) A1))) (Fy (pv 1) (pv 5) (Gm hu)))))))))
 (Aa (Ae (pv 1))))))),?_⟩
 have hfew:=L.few;walk_at "rd";refine⟨v,S,rfl,rs,L.ok,cx L.toLev,λH1 sm1=>?_⟩;obtain⟨a,b,c,ws,us,rfl,ha,hb,hc,rws,rus⟩:=Cb rs;have hl:=Aw rws;intro p hp;have u1:=sm1.trans (A4 (o:=.dK []) hp);have fp:H p=none:=AA.free sm1 hp;have hnl:=Cn S;refine⟨.ref a,S,rfl,RD.same u1 _ _ rs,by lia,λq H2 hq hq2 sm2=>⟨q,rfl,_,hq2,?_⟩⟩;have hp2:=sm2 p _ A0;have s2:=u1.trans sm2;have qp:q≠p:=λz=>by rw[z,A0] at hq;cases hq
 refine Cp (Dw q _) (λi Z H'=>zo (.ref a) p S H i Z H'/\H' q=some (.lst ((Be S).map V.str))) ⟨⟨_,_,_,_,rfl,hp2,s2⟩,hq2⟩ (λi Z H' _ h=>h.2) (λi x Z H3 hi hx h=>?_) (λZ H3 h=>?_)
 ·obtain⟨⟨o1,o2,o3,o4,rfl,hp3,s3⟩,hq3⟩:=h;rw[Zzz] at hi;rw[Zzy] at hx;cases en:(Be S)[i]? with
  |none=>rw[en] at hx;cases hx
  |some nm =>
  rw[en] at hx;have hx:V.str nm=x:=Zzh hx;subst hx;walk_at "rd";refine⟨_,.inr nm,rfl,hp3,?_,⟨_,_,_,_,rfl,?_,λb' o' hb'=>by rw[Ab (A5 hb' fp)];exact s3 b' o' hb'⟩,by rw[Ab qp];exact hq3⟩
  ·rw[Xo,Zz7];exact Zz0 (m:=1000) (by lia) (by decide)
  ·have nin:nm∉(Be S).take i:=Ja L.nd en
   rw[A0,ii nin,Zzb,en];exact congrArg (λz=>some (HO.dK z)) (Op λx _=>by split<;>rfl)
 ·obtain⟨⟨o1,o2,o3,o4,rfl,hp3,s3⟩,_⟩:=h;rw[Zzz,Zzf] at hp3;walk_at "rd";refine⟨_,Ad (j:=0) (s3 _ _ ha) rfl,b,rfl,_,.inr (s3 _ _ hb),by lia,by lia,?_⟩;have en:((ws.length:Nat):Int).toNat=S.wares.length:=by lia
  rw[en];refine Cp (J4 0 _) (zr (.ref a) p S H) ⟨_,_,_,_,λ_=>0,rfl,hp3,λx=>⟨Zz9 _,Zz9 _,λ_=>Ss S x⟩,s3⟩ (λ_ _ _ _ _=>trivial) (λk' x Z H4 hi hx h=>?_) (λZ H4 h=>?_)
  ·obtain⟨o1,o2,o3,o4,g,rfl,hp4,hg,s4⟩:=h;walk_at "rd";refine⟨_,Ad (j:=0) (s4 _ _ ha) rfl,b,rfl,_,s4 _ _ hb,?_⟩;refine Cp (D1 b _) (zu (.ref a) p S k' H) ⟨_,_,_,_,g,rfl,hp4,⟨hg,(λw hw=>by cases hw),λw _ p hp=>by cases hp⟩,s4⟩ (λi Z H' _ h=>by obtain⟨_,_,_,_,_,_,_,_,s⟩:=h;exact s _ _ hb) (λi y Z H5 hi2 hy h=>?_) (λZ H5 h=>?_)
   ·obtain⟨o1,o2,o3,o4,g,rfl,hp5,hg,s5⟩:=h;obtain⟨t,ht,rt⟩:=Ax rws hy;have htm:=Zzu ht;obtain⟨te,d1,d2,rfl,hte,_⟩:=Bt rt;walk_at "rd";refine⟨.ref te,t,rfl,RD.same s5 _ _ rt,L.ok.wares t htm,λq2 H6 hq6 hq7 sm6=>⟨q2,rfl,_,hq7,?_⟩⟩;have hp6:=sm6 p _ hp5;have s6:=s5.trans sm6;have q2p:q2≠p:=λz=>by rw[z,hp5] at hq6;cases hq6
    refine Cp (Dw q2 _) (λj Z H'=>wn (.ref a) p (.ref te) S k' i H j Z H'/\H' q2=some (.lst ((t.parts.map (·.1)).map V.str))) ⟨⟨_,_,_,g,rfl,hp6,hg,s6⟩,hq7⟩ (λj Z H' _ h=>h.2) (λj z Z H7 hj hz h=>?_) (λZ H7 h=>?_)
    ·obtain⟨⟨o1,o2,o4,g,rfl,hp7,hg,s7⟩,hq8⟩:=h;rw[Zzz,Zzz] at hj;obtain⟨pp,hpp⟩:∃pp,t.parts[j]?=some pp:=⟨_,Zzr hj⟩;rw[Zzy,Zzy,hpp] at hz;have hz:V.str pp.1=z:=Zzh hz;subst hz;have hpm:=Zzu hpp;have hown:pp.1∈Be S:=L.own t htm pp hpm;have htn:t.name∈Be S:=Zzv.mpr ⟨t,htm,rfl⟩;walk_at "rd";have hg1:=(hg.1 pp.1);have hgt:=(hg.1 t.name);have hup:g t.name+1<=lv S pp.1:=by have h1:=hgt.2.2 htn;have h2:=Ln L.toLev htm hpm;lia
     refine⟨.int (g pp.1),Ik (.inl hp7) (Nu hown),_,Ad (j:=0) (s7 _ _ hte) rfl,.int (g t.name),Ik (.inl hp7) (Nu htn),_,rfl,_,rfl,_,.inr pp.1,rfl,hp7,by rw[Xo,hnl];exact Zz0 (m:=1000) (by lia) (by decide),?_,by rw[Ab q2p];exact hq8⟩;rw[zc hown];refine⟨_,_,_,λx=>if x=pp.1 then (if g t.name+1 > g pp.1 then g t.name+1 else g pp.1) else g x,rfl,A0,?_,λb' o' hb'=>by rw[Ab (A5 hb' fp)];exact s7 b' o' hb'⟩;have gr:∀x,g x<=(if x=pp.1 then (if g t.name+1 > g pp.1 then g t.name+1 else g pp.1) else g x):=λx=>by
      split
      ·rename_i e;rw[e];split<;>lia
      ·exact Zz9 _
     refine⟨λx=>⟨Zxm (hg.1 x).1 (gr x),Zxm (hg.1 x).2.1 (gr x),λhx=>?_⟩,λw hw p hp=>Zxm (hg.2.1 w hw p hp) (gr p.1),λw hw p hp=>?_⟩
     ·show (if x=pp.1 then (if g t.name+1 > g pp.1 then g t.name+1 else g pp.1) else g x)<=lv S x
      split
      ·rename_i e;rw[e];have:=hg1.2.2 hown;split<;>lia
      ·exact(hg.1 x).2.2 hx
     ·rw[ht] at hw;have e:t=w:=Zzh hw;subst e;rw[Zzb,hpp] at hp;rcases Zz4.mp hp with m | m
      ·exact Zxm (hg.2.2 t ht p m) (gr p.1)
      ·have e:p=pp:=by simpa using m
       subst e;show 1+lvF S k' t.name<=(if p.1=p.1 then (if g t.name+1 > g p.1 then g t.name+1 else g p.1) else g p.1);rw[FZ rfl];have:=hgt.2.1;split<;>lia
    ·obtain⟨⟨o1,o2,o4,g,rfl,hp7,hg,s7⟩,_⟩:=h;rw[Zzz,Zzz] at hg;refine⟨_,_,_,_,g,rfl,hp7,⟨hg.1,λw hw p hp=>?_,λw _ p hp=>by cases hp⟩,s7⟩;rw[Zzb,ht] at hw;rcases Zz4.mp hw with m | m
     ·exact hg.2.1 w m p hp
     ·have e:w=t:=by simpa using m
      subst e;exact hg.2.2 w ht p (by rw[Zzf];exact hp)
   ·obtain⟨o1,o2,o3,o4,g,rfl,hp5,hg,s5⟩:=h;rw[hl] at hg;exact⟨_,_,_,_,g,rfl,hp5,λx=>⟨(hg.1 x).1,sw (λx=>(hg.1 x).1) (λw hw p hp=>hg.2.1 w (by rw[Zzf];exact hw) p hp) x,(hg.1 x).2.2⟩,s5⟩
  ·obtain⟨o1,o2,o3,o4,g,rfl,hp4,hg,s4⟩:=h;walk_at "rd";refine k p H4 fp ?_ s4;rw[hp4];exact congrArg (λz=>some (HO.dK z)) (Op λx hx=>Int.le_antisymm ((hg x).2.2 hx) (hg x).2.1)
inductive Lg (Pt:Addr) (vs:List V) (H:Hp) (Q:VK) (E:XK):Prop | mk (v:V) (S:Sh) (_:vs=[v]) (_:RD H S.d v) (_:W2 S) (_:Tb H Pt) (_:∀p ys H',H p=none->H' p=some (.lst (ys.map V.str))->Q3 (lv S) (Be S) ys->Jo (lv S) (Be S) ys->Tb H' Pt->But Pt H H'->Q (.ref p) H')
theorem ED:Lr ["shop", "level_of"] ["shop"] (C2 Mo):=by constructor<;>first | rfl | decide +kernel
theorem jv{ct:Addr}(F:Fun K "worked" "worked" Mo f fd)(T:Txt mg)(Zr4:Has P w K mg base "levels" 5 ["shop"] EC)(Ztu:Has P w K mg base "names_of" 1 ["shop"] BD)(C:ww K f ct Pt)(hB:Ma mg base):B2 P w K mg base CX0 6 f fd ["shop"] (Lg Pt):=by
 refine F.okC C ED (λvs H Q E h=>?_) (λA outer s H vs Q E hr h=>?_)
 ·obtain⟨v,S,rfl,_⟩:=h;rfl
 ·obtain⟨v,S,rfl,rs,L,tb,k⟩:=h;have hu:=Au hr;refine⟨_,(A2 (Af (i:=1) ED.nd rfl (Zwd rfl) (A7 Zr4 hr.z rfl (A3 (pv 0) A1)))
 (Aa (Ae (qv (i:=1) (nm := "name") (lv := "level_of") rfl T.Zqx (A7 Ztu hr.z rfl (A3 (pv 0) A1)) hr rfl C.hd hB rfl rfl rfl (λ_ h=>ag rfl h) ⟨rfl,rfl,rfl,rfl,rfl,by decide⟩ (λ_ _ _ _ _=>rfl))))),?_⟩
  have hfew:=L.few;walk_at "rd";refine⟨v,S,rfl,rs,L,λp H1 hp hp1 sm1=>?_⟩;refine⟨v,S,rfl,RD.same sm1 _ _ rs,by lia,λq H2 hq hq2 sm2=>?_⟩;have s2:=sm1.trans sm2;unfold K0;refine⟨q,Be S,p,fnD (Be S) (lv S),lv S,rfl,hq2,by rw[Cn];exact hfew,rfl,sm2 _ _ hp1,λx hx=>Nu hx,BS.same tb s2,λr ys H3 hr3 hr4 so sb tb3 bt=>?_⟩;exact k r ys H3 (AA.free s2 hr3) hr4 so sb tb3 (λb o nb hb=>bt b o nb (s2 b o hb))
theorem Tb.same(t:Tb H Pt)(s:AA H H'):Tb H' Pt:=BS.same t s
theorem Tb.at(t:Tb H Pt):∃u,H Pt=some (.tbl u):=t.elim (λe=>⟨_,e⟩) (λz0=>by obtain⟨_,e,_⟩:=z0;exact ⟨_,e⟩)
theorem Kk(t:Tb H Pt)(b:But Pt H H'):AS H H':=λa xs e=>b a _ (λz=>by obtain⟨u,hu⟩:=t.at;rw[z,hu] at e;cases e) e
theorem Ly(t:Tb H Pt)(h:H p=some o)(hn:∀u,o≠.tbl u):p≠Pt:=λz=>by
 obtain⟨u,e⟩:=t.at;rw[<- z,h] at e;exact hn u (Zzh e)
end
set_option maxHeartbeats 4000000
section
variable {dk:Dk}
noncomputable def M9(ws:List Wr)(us:List Wt):List Str:=us.map (·.1)++(ws.map λw=>w.parts.map (·.1)).flatten
inductive CJ (vs:List V) (H:Hp) (Q:VK) (E:XK):Prop | mk (v:V) (S:Sh) (_:vs=[v]) (_:RD H S.d v) (_:SD S) (_:∀p H',H' p=some (.lst ((M9 S.wares S.wants).map V.str))->AA H H'->Q (.ref p) H')
inductive A30 (v:V) (p:Addr) (S:Sh) (H:Hp) (i:Nat) (Z:St) (H':Hp):Prop | mk (o2:Option V) (_:Z=[some v,some (.ref p),o2]) (_:H' p=some (.lst ((M9 (S.wares.take i) S.wants).map V.str))) (_:AA H H')
theorem Sq{us:List Wt}:∀{ws:List Wr},(∀w∈ws,w.parts.length<=6)->(M9 ws us).length<=us.length+6*ws.length
 |[],_=>by unfold M9;simp
 |w::r,h=>by
  have ih:=Sq (us:=us) (ws:=r) λx hx=>h x (Zzl _ hx);have:=h w Zzm;unfold M9 at ih ⊢;simp only[Zza,Zxv,Zyv,Zzz,Zys] at ih ⊢;lia
theorem Q7(F:Fun K "needed_names" "needed_names" Kq f fd)(T:Txt mg)(Ztv:Has P w K mg base "part_names" 1 ["ware"] AX):B2 P w K mg base CX0 2 f fd ["shop"] CJ:=by
 refine F.go ["shop", "names", "ware"] ?_ ?_ ?_;walk_at "f";obtain⟨v,S,rfl,rs,sd,k⟩:=h;have hu:=Au hr;have hn:=sd.n;have un:=sd.un;have p6:∀w∈S.wares,w.parts.length<=6:=λw hw=>(sd.wb w hw).2.2.2.2.1;refine⟨_,(A2 (Df (own:=["want"]) (cap:=[]) (i:=1) rfl (Br rfl) (Aq (by decide)) Nd rfl rfl (Ca (A8 hu (pv 0) A6 (λ_ _=>rfl)))
 (λ_ _ _ _ _ _=>⟨(Ac (i:=0) (FV rfl) rfl (Zzt rfl) (.inr rfl)),Bb,(A8 hu (pv 0) A6 (λ_ _=>rfl))⟩))
 (A2 (Bk PassesOwn.never rfl (Ca (A8 hu (pv 0) A6 (λ_ _=>rfl))) (Ac (i:=2) Nd rfl (Zzt rfl))
 (Aa (C5 (Cf Zz5 Zwb Zwa Ll (pv 1) (A3 (A7 Ztv hr.z rfl (A3 (pv 2) A1)) A1)))))
 (Aa (Ae (pv 1))))),?_⟩
 walk_at "rd";obtain⟨a,b,c,ws,us,rfl,ha,hb,hc,rws,rus⟩:=Cb rs;have hlw:=Aw rws;have hlu:=Aw rus;refine⟨_,Ad (j:=1) ha rfl,c,rfl,us,hc,?_⟩;refine Bg (D1 c us) (Ag (by lia)) (λH' s'=>s' _ _ hc) ((S.wants.map (·.1)).map V.str) (by simp[hlu]) (λi y H' hi hy s' N M hN=>?_) (λH1 s1 p hp=>?_)
 ·obtain⟨u,eu,ru⟩:=Ax rus hy;obtain⟨ua,rfl,hua⟩:=G3 ru;walk_at "rd";exact⟨_,Ad (j:=0) (s' _ _ hua) rfl,hN _ _ s' (by rw[Zzy,Zzy,eu];rfl)⟩
 have u1:=s1.trans (A4 (o:=.lst ((S.wants.map (·.1)).map V.str)) hp);have fp:H p=none:=AA.free s1 hp;refine⟨_,Ad (j:=0) (u1 _ _ ha) rfl,b,rfl,ws,u1 _ _ hb,?_⟩;refine Cp (D1 b ws) (A30 (.ref a) p S H) ⟨_,rfl,by rw[A0];unfold M9;simp,u1⟩ (λi Z H' _ h=>by obtain⟨_,_,_,s⟩:=h;exact s _ _ hb) (λi x Z H2 hi hx h=>?_) (λZ H2 h=>?_)
 ·obtain⟨o2,rfl,hp2,s2⟩:=h;obtain⟨wr,ew,rw'⟩:=Ax rws hx;have hm:=Zzu ew;have wb:=sd.wb wr hm;walk_at "rd";refine⟨Ds hp2,x,wr,rfl,RD.same s2 _ _ rw',⟨by have:=wb.2.2.2.2.1;lia,by have:=wb.2.2.2.2.2.2.2.1;lia⟩,λq H3 hq hq3 s3=>?_⟩;have hnl:=Sq (us:=S.wants) (ws:=S.wares.take i) λx hx=>p6 x (Zuh hx);rw[Zz7] at hnl;have:=p6 wr hm;refine⟨p,q,_,_,rfl,rfl,s3 _ _ hp2,hq3,Zzd (m:=1000) (by simp only[Zzz];lia) (by decide),_,rfl,?_,λb' o' e=>?_⟩
  ·rw[A0,<- Zzo];congr 3;unfold M9;rw[Zzb,ew,Zzo,Zw8,Zwk];simp
  ·rw[Ab (A5 e fp)];exact s3 _ _ (s2 _ _ e)
 ·obtain⟨o2,rfl,hp2,s2⟩:=h;walk_at "rd";rw[hlw,Zzf] at hp2;exact k p H2 hp2 s2
inductive DY (vs:List V) (H:Hp) (Q:VK) (E:XK):Prop | mk (v:V) (S:Sh) (_:vs=[v]) (_:RD H S.d v) (_:SD S) (_:∀H',AA H H'->Q (.bl true) H')
theorem bx(F:Fun K "is_shop" "is_shop" Ux f fd)(T:Txt mg)(Zrs:Has P w K mg base "are_wants" 5 ["found"] DD)(Zrr:Has P w K mg base "are_wares" 7 ["found"] DC)(Ztz:Has P w K mg base "is_tuple" 1 ["found", "least", "most"] AN)(Ztu:Has P w K mg base "names_of" 1 ["shop"] BD)(Zsh:Has P w K mg base "needed_names" 2 ["shop"] CJ):B2 P w K mg base CX0 8 f fd ["found"] DY:=by
 refine F.go ["found", "names"] ?_ ?_ ?_;walk_at "f";obtain⟨v,S,rfl,rs,sd,k⟩:=h;have hu:=Au hr;have hn:=sd.n;have un:=sd.un;refine⟨_,(A2 (Ay (PW.pt (Fg (C6 (C9 (A7 Ztz hr.z rfl (A3 (pv 0) (A3 A6 (A3 A6 A1)))))) (Fg (C6 (C9 (A7 Zrr hr.z rfl (A3 (A8 hu (pv 0) A6 (λ_ _=>rfl)) A1)))) (En (C6 (C9 (A7 Zrs hr.z rfl (A3 (A8 hu (pv 0) A6 (λ_ _=>rfl)) A1)))))))) (Aa (Ae Ft)) Ak)
 (A2 (Af (i:=1) Nd rfl (Zwd rfl) (A7 Ztu hr.z rfl (A3 (pv 0) A1)))
 (Aa (Ae (Ai (Fq rfl) rfl T.Zs8 Jy (A3 (Bc (own:=["name"]) (cap:=[1]) rfl (Br rfl) (Aq (by decide)) (Cq (A7 Zsh hr.z rfl (A3 (pv 0) A1)))
 (λ_ _ _ _ _ _=>⟨(Ac (i:=0) (FV rfl) rfl (Zzt rfl) (.inr rfl)),Bb,(Dj (Mb hu) (pv 0) (pv 1) rfl)⟩)) A1)))))),?_⟩
 walk_at "rd";obtain⟨a,b,c,ws,us,rfl,ha,hb,hc,rws,rus⟩:=Cb rs;refine⟨a,_,2,2,rfl,ha,Zz9 _,Zz9 _,_,rfl,?_⟩;rw[FY (by decide)];refine⟨_,Ad (j:=0) ha rfl,_,S.wares,rfl,RD.tup_mk hb rws,hn,λw hw=>⟨sd.nm w hw,sd.wb w hw,λp hp=>sd.named (sd.own w hw p hp)⟩,sd.nd,λH1 s1=>⟨_,rfl,?_⟩⟩;rw[FY (by decide)];refine⟨_,Ad (j:=1) (s1 _ _ ha) rfl,_,S.wants,rfl,RD.same s1 _ _ (RD.tup_mk hc rus),un,λu hu=>⟨sd.named (sd.us u hu).1,(sd.us u hu).2.1,(sd.us u hu).2.2.1⟩,λH2 s2=>⟨_,rfl,?_⟩⟩;rw[FY (by decide)];have s02:=s1.trans s2;refine⟨_,S,rfl,RD.same s02 _ _ rs,by lia,λp H3 hp hp3 s3=>⟨_,S,rfl,RD.same (s02.trans s3) _ _ rs,sd,λq H4 hq s4=>⟨q,rfl,_,hq,?_⟩⟩⟩;have nl:=Sq (us:=S.wants) (ws:=S.wares) λw hw=>(sd.wb w hw).2.2.2.2.1;refine Bg (Dw q _) (Ag (by rw[Zzz];lia)) (λH' s'=>s' _ _ hq) (((M9 S.wares S.wants).map λ_=>true).map V.bl) (by simp) (λi z H' hi hz s' N M hN=>?_) (λH6 s6 r hr6=>?_)
 ·rw[Zzy] at hz;cases en:(M9 S.wares S.wants)[i]? with
  |none=>rw[en] at hz;cases hz
  |some nm =>
  rw[en] at hz;have hz:V.str nm=z:=Zzh hz;subst hz;walk_at "rd";refine⟨_,.inl ⟨p,_,rfl,.inl (s' _ _ (s4 _ _ hp3)),rfl,Jn _,rfl⟩,?_⟩;have hm:nm∈Be S:=by
   have hm:=Zzu en;unfold M9 at hm;rcases Zz4.mp hm with z | z
   ·obtain⟨u,hu,rfl⟩:=Zzv.mp z;exact(sd.us u hu).1
   ·obtain⟨l,hl,hx⟩:=List.mem_flatten.mp z;obtain⟨w,hw,rfl⟩:=Zzv.mp hl;obtain⟨p,hp,rfl⟩:=Zzv.mp hx;exact sd.own w hw p hp
  rw[L6,FW hm];exact hN _ _ s' (by rw[Zzy,Zzy,en];rfl)
 ·refine⟨r,rfl,_,A0,?_⟩;rw[Fs];exact k _ ((s02.trans s3).trans (s4.trans (s6.trans (A4 hr6))))
end
set_option maxHeartbeats 4000000
section
variable {dk:Dk}
noncomputable def ET:List Nat:=("0123456789" : Str).cps.toList
noncomputable def Sj(x:Str):Bool:=decide (x = "0")||!decide ((⟨#[x.cps.toList.headD 0]⟩:Str) = "0")
noncomputable def On(x:Str):Bool:=decide (1<=x.length)&&decide (x.length<=60)&&(x.cps.toList.all λc=>decide (c∈ET))&&Sj x
inductive DE (vs:List V) (H:Hp) (Q:VK) (E:XK):Prop | mk (x:_) (_:vs=[.str x]) (_:On x=true) (_:∀H',AA H H'->Q (.bl true) H')
theorem X5(F:Fun K "is_number" "is_number" Pl f fd)(T:Txt mg):B2 P w K mg base CX0 1 f fd ["word"] DE:=by
 refine F.go ["word"] ?_ ?_ ?_;walk_at "f";obtain⟨x,rfl,hx,k⟩:=h;have hu:=Au hr;unfold On Sj at hx;simp only[Zyy,decide_eq_true_eq,Zy5] at hx;obtain⟨⟨⟨h1,h2⟩,h3⟩,h4⟩:=hx;refine⟨_,(A2 (Ay (PW.pt (Fg (C6 (C9 (Ai Dr rfl T.Zti Cw (A3 (pv 0) (A3 (Iu (v:=.ty "str") rfl T.Zte Dz rfl) A1))))) (En (C6 (S0 S8 S8 A6 (Ai BU rfl T.Zts Ct (A3 (pv 0) A1)) (Ao rfl T.Ztb)))))) (Aa (Ae Ft)) Ak)
 (A2 (Ay (C6 (C9 (Ai (Fq rfl) rfl T.Zs8 Jy (A3 (Bc (own:=["sign"]) (cap:=[]) rfl (Br rfl) (Aq (by decide)) (J8 (pv 0))
 (λ_ _ _ _ _ _=>⟨(Ac (i:=0) (FV rfl) rfl (Zzt rfl) (.inr rfl)),Bb,(Dj (Mb hu) (pv 0) (Na rfl T.Zsd) rfl)⟩)) A1)))) (Aa (Ae Ft)) Ak)
 (Aa (Ae (A27 (Dj (Bl hu) (pv 0) Am (Aj _)) (Gy (Dj (Kv hu) (A8 hu (pv 0) A6 (λ_ _=>rfl)) Am (Aj _)))))))),?_⟩
 walk_at "rd";refine⟨_,rfl,?_⟩;rw[FY (by decide)];refine⟨Ag (by lia),?_⟩;rw[FZ (FW (by lia)),FY (by rw[FW (by lia)];decide)];refine Bg (v6 x) (Ag (Zzd h2 (by decide))) (λ_ _=>trivial) ((x.cps.toList.map λ_=>true).map V.bl) (by simp) (λi y H' hi hy s' N M hN=>?_) (λH' s' p hp=>?_)
 ·obtain⟨c,hc,rfl⟩:=hy;rw[<- Zvs] at hc;walk_at "rd";refine⟨_,.inr (.inl ⟨_,_,rfl,rfl,rfl⟩),?_⟩;rw[StrLaws.found_one,show decide (c∈(Str.ofString "0123456789").cps.toList)=true from FW (h3 c (Zzu hc))];exact hN _ _ s' (by rw[Zzy,Zzy,hc];rfl)
 ·refine⟨p,rfl,_,A0,?_⟩;have k:=k _ (s'.trans (A4 (o:=.lst ((x.cps.toList.map λ_=>true).map V.bl)) hp));rw[Fs,FY (by decide)];refine⟨rfl,Dq (λ_=>k) (λc=>?_)⟩;have hl:x.cps.toList.length=x.length:=Zxq;refine⟨_,A1c (Ag (by lia)) (by decide) (c:=x.cps.toList.headD 0) ?_,rfl,?_⟩
  ·cases e:x.cps.toList with
   |nil=>rw[e] at hl;simp at hl;lia
   |cons a r=>rfl
  ·have n:¬ (⟨#[x.cps.toList.headD 0]⟩:Str)=Str.ofString "0" := λz=>by
    rcases Bool.or_eq_true_iff.mp h4 with y | y
    ·exact c y
    ·rw[FW z] at y;cases y
   rw[FX λz=>n (V.str.inj z)];exact k
theorem Uf:∀(k m:Nat),m<10^(k+1)->(Zwn 10 m).length<=k+1
 |0,m,h=>by rw[Zw5 (by lia)];exact Zzq _
 |k+1,m,h=>by
  by_cases z:m<10
  ·rw[Zw5 z];show 1<=k+1+1;lia
  ·have hm:m % 10<10:=Nat.mod_lt m (by decide)
   have t:Zwn 10 (m / 10)++Zwn 10 (m % 10)=Zwn 10 (10*(m / 10)+m % 10):=Nat.toDigits_append_toDigits (by decide) (by lia) hm;rw[Nat.div_add_mod] at t;rw[<- t,Zyv,Zw5 hm];have:=Uf k (m / 10) (by rw[Nat.pow_succ] at h;lia);show _+1<=_;lia
theorem au:∀(m:Nat),0<m->∃c r,Zwn 10 m=c::r/\c.toNat≠48:=by
 intro m;induction m using Nat.strongRecOn with
 |_ m ih =>
  intro h0;by_cases z:m<10
  ·rw[Zw5 z];have k:∀d:Nat,d<10->0<d->(Nat.digitChar d).toNat≠48:=by decide
   exact⟨_,[],rfl,k m z h0⟩
  ·have hm:m % 10<10:=Nat.mod_lt m (by decide)
   have t:Zwn 10 (m / 10)++Zwn 10 (m % 10)=Zwn 10 (10*(m / 10)+m % 10):=Nat.toDigits_append_toDigits (by decide) (by lia) hm;rw[Nat.div_add_mod] at t;obtain⟨c,r,e,hc⟩:=ih (m / 10) (by lia) (by lia);exact⟨c,r++Zwn 10 (m % 10),by rw[<- t,e];rfl,hc⟩
theorem ij(h:48<=c/\c<=57):c∈ET:=by
 rw[show ET=List.range' 48 10 by decide +kernel,List.mem_range'_1];exact⟨h.1,Nat.lt_succ_of_le h.2⟩
theorem ik{k:Nat}(hk:k<600){n:Int}(h0:0<=n)(h1:n<10^(k+1)):(∀c∈(Str.ofString (toString n)).cps.toList,48<=c/\c<=57)/\Zv8 (Str.ofString (toString n))=some n/\1<=(Str.ofString (toString n)).length/\(Str.ofString (toString n)).length<=k+1:=by
 obtain⟨m,rfl⟩:=Int.eq_ofNat_of_zero_le h0;have hs:=KIN.signs_num m;have hl:(Str.ofString (toString ((m:Nat):Int))).cps.toList.length=(Str.ofString (toString ((m:Nat):Int))).length:=Zxq;rw[hs,Zzz] at hl;have a1:=Uf k m (by exact_mod_cast h1);have a0:=toDigits_len_ge 10 m;have hd:∀c∈(Str.ofString (toString ((m:Nat):Int))).cps.toList,48<=c/\c<=57:=by
  intro c hc;rw[hs] at hc;obtain⟨ch,hch,e⟩:=Zzv.mp hc;have r:=PyProof.Rows.digit_range (Nat.isDigit_of_mem_toDigits (by decide) (by decide) hch);rw[<- e];exact r
 have ne:(Str.ofString (toString ((m:Nat):Int))).cps.toList≠[]:=by
  intro e;have:=congrArg Zxa e;rw[hs,Zzz,Zx6] at this;lia
 have e:=intText_digits hd ne (by lia);rw[hs,KIN.val_back] at e;exact⟨hd,e,by lia,by lia⟩
theorem f8{n:Int}(h0:0<=n)(h1:n<10^60):On (Str.ofString (toString n))=true/\Zv8 (Str.ofString (toString n))=some n/\1<=(Str.ofString (toString n)).length/\(Str.ofString (toString n)).length<=60:=by
 obtain⟨hd,hi,l1,l2⟩:=ik (k:=59) (by decide) h0 h1;refine⟨?_,hi,l1,l2⟩;obtain⟨m,rfl⟩:=Int.eq_ofNat_of_zero_le h0;have hs:=KIN.signs_num m;unfold On;rw[FW l1,FW l2,Zuy,Zuy,Zyy];constructor
 ·rw[Zy5];intro c hc;exact FW (ij (hd c hc))
 ·unfold Sj;by_cases z:m=0
  ·subst z;have:(Str.ofString (toString (((0:Nat)):Int)))=("0" : Str):=rfl;rw[FW this];rfl
  ·obtain⟨c,r,e,hc⟩:=au m (by lia);have:¬ ((⟨#[(Str.ofString (toString ((m:Nat):Int))).cps.toList.headD 0]⟩:Str) = "0"):=by
    rw[hs,e];intro q;have q:=congrArg (λz:Str=>z.cps.toList) q;have e2:("0" : Str).cps.toList=[48]:=by decide +kernel
    rw[e2] at q;exact hc (Zwt q).1
   rw[FX this,Bool.not_false,Bool.or_true]
inductive CL (vs:List V) (H:Hp) (Q:VK) (E:XK):Prop | mk (x:Str) (n:Int) (_:vs=[.str x]) (_:x.length<=60) (_:On x=true) (_:Zv8 x=some n) (_:∀H',AA H H'->Q (.int n) H')
theorem Sc(F:Fun K "read_number" "read_number" M4 f fd)(T:Txt mg)(Zrq:Has P w K mg base "is_number" 1 ["word"] DE):B2 P w K mg base CX0 2 f fd ["word"] CL:=by
 refine F.go ["word"] ?_ ?_ ?_;walk_at "f";obtain⟨x,n,rfl,hx,hb,hn,k⟩:=h;have hu:=Au hr;refine⟨_,(A2 (Ay (C6 (C9 (A7 Zrq hr.z rfl (A3 (pv 0) A1)))) C0 Ak)
 (Aa (Ae (As Vw rfl T.Zr6 Ow (A3 (pv 0) A1))))),?_⟩
 walk_at "rd";refine⟨x,rfl,hb,λH1 sm=>⟨_,rfl,?_⟩⟩;rw[FY (by decide)];exact⟨n,hn,by lia,k H1 sm⟩
inductive DF (vs:List V) (H:Hp) (Q:VK) (E:XK):Prop | mk (x:Str) (_:vs=[.str x]) (_:Bp x=true) (_:∀H',AA H H'->Q (.str x) H')
theorem Wu(F:Fun K "read_name" "read_name" Pb f fd)(T:Txt mg)(Zto:Has P w K mg base "is_name" 1 ["found"] BK):B2 P w K mg base CX0 2 f fd ["word"] DF:=by
 refine F.go ["word"] ?_ ?_ ?_;walk_at "f";obtain⟨x,rfl,hb,k⟩:=h;have hu:=Au hr;refine⟨_,(A2 (Ay (C6 (C9 (A7 Zto hr.z rfl (A3 (pv 0) A1)))) C0 Ak)
 (Aa (Ae (pv 0)))),?_⟩
 walk_at "rd";refine⟨x,rfl,hb,λH1 sm=>⟨_,rfl,?_⟩⟩;rw[FY (by decide)];exact k H1 sm
end
set_option maxHeartbeats 4000000
section
variable {dk:Dk}
noncomputable def AG:Key->Str
 |.inl i=>Str.ofString (toString i)
 |.inr x=>x
noncomputable def Hc:Key->Str
 |.inl _ => "number"
 |.inr _ => "name"
def Mh:Key->Prop
 |.inl i=>0<=i/\i<10^60
 |.inr x=>Bp x=true
inductive J6 (K:Zzw) (vs:List V) (H:Hp) (Q:VK) (E:XK):Prop | mk (a b:Addr) (ks:List Key) (_:vs=[.ref a,.ref b]) (_:H a=some (.lst ((ks.map AG).map V.str))) (_:SqT K H b ((ks.map Hc).map V.str)) (_:ks.length<=100) (_:(∀k∈ks,Mh k)) (_:∀p H',H p=none->H' p=some (.lst (ks.map kV))->AA H H'->Q (.ref p) H')
inductive A0a (a b p:Addr) (ks:List Key) (H:Hp) (i:Nat) (Z:St) (H':Hp):Prop | mk (o1 o2:Option V) (_:Z=[some (.ref a),some (.ref b),some (.ref p),o1,o2]) (_:H' p=some (.lst ((ks.take i).map kV))) (_:AA H H')
theorem Yu(h:SqT K H b xs)(s:AA H H'):SqT K H' b xs:=by
 rcases h with (e | ⟨o,e⟩) | h
 ·exact .inl (.inl (s _ _ e))
 ·exact .inl (.inr ⟨o,s _ _ e⟩)
 ·exact .inr h
theorem Tr(F:Fun K "read_words" "read_words" Mr f fd)(T:Txt mg)(Zrp:Has P w K mg base "read_name" 2 ["word"] DF)(Zsb:Has P w K mg base "read_number" 2 ["word"] CL):B2 P w K mg base CX0 3 f fd ["words", "form"] (J6 K):=by
 refine F.go ["words", "form", "told", "word", "sort"] ?_ ?_ ?_;walk_at "f";obtain⟨a,b,ks,rfl,ha,hb,hl,ok,k⟩:=h;have hu:=Au hr;refine⟨_,(A2 (Ay (PW.pt (Fg (Ah Wp (pv 1) Fz (Aj _)) (En (Ah (Kv hu) (Ai Bs rfl T.Zts Ct (A3 (pv 0) A1)) (Ai Hu rfl T.Zts Ct (A3 (pv 1) A1)) (Aj _))))) C0 Ak)
 (A2 (Af (i:=2) Nd rfl (Zzt rfl) (Bh A1))
 (A2 (Bk PassesOwn.never rfl (gg rfl T.Zqz (A3 (pv 0) (A3 (pv 1) A1))) (Do (n:=2) rfl (An (Ac (i:=3) Nd rfl (Zzt rfl)) (An (Ac (i:=4) Nd rfl (Zzt rfl)) Cj)))
 (Aa (C5 (Cf Zz5 Zyn Zym Ck (pv 2) (A3 (Z4 (Ah (Bl hu) (pv 4) Am (Aj _)) (A7 Zrp hr.z rfl (A3 (pv 3) A1)) (A7 Zsb hr.z rfl (A3 (pv 3) A1))) A1)))))
 (Aa (Ae (pv 2)))))),?_⟩
 walk_at "rd";rw[FY (by decide)];refine⟨_,.inl ha,_,.inr hb,rfl,?_⟩;rw[FY (by rw[FW (by simp only[Zzz])];decide)];refine⟨by decide,λp hp=>?_⟩;have u:=A4 (o:=.lst []) hp;have hpa:a≠p:=A5 ha hp;refine⟨_,u _ _ ha,_,Yu hb u,?_⟩;have hmin:min ((ks.map AG).map V.str).length ((ks.map Hc).map V.str).length=ks.length:=by simp only[Zzz,Zui]
 refine Zz (v4 _ a b _ _) (A0a a b p ks H) ⟨_,_,rfl,A0,u⟩ (λi Z H' _ h=>?_) (λi ys t Z H' hi hy h ht=>?_) (λZ H' h=>?_)
 ·obtain⟨_,_,_,_,s'⟩:=h;exact⟨s' _ _ ha,Yu hb s'⟩
 ·obtain⟨o1,o2,rfl,hp1,s1⟩:=h;obtain⟨y,z,ey,ez,rfl⟩:=hy;rw[Zzy,Zzy] at ey ez;obtain⟨kk,ek⟩:∃kk,ks[i]?=some kk:=⟨_,Zzr (by rw[hmin] at hi;exact hi)⟩;rw[ek] at ey ez;have ey:V.str (AG kk)=y:=Zzh ey;have ez:V.str (Hc kk)=z:=Zzh ez;subst ey ez;have ut:=A4 (o:=.tup [V.str (AG kk),V.str (Hc kk)]) ht;have s2:=s1.trans ut;have hp2:=ut _ _ hp1;refine gT2 ?_;generalize upd H' t (.tup [V.str (AG kk),V.str (Hc kk)])=H2 at s2 hp2;walk_at "rd";have okk:=ok kk (Zzu ek);have hlen:((ks.take i).map kV).length<1000:=by rw[Zzz,Zz7];lia
  have go:∀H3,AA H2 H3->∃x,H3 p=some (.lst x)/\x.length<sizeLine/\A0a a b p ks H (i+1) [some (.ref a),some (.ref b),some (.ref p),some (.str (AG kk)),some (.str (Hc kk))] (upd H3 p (.lst (x++[kV kk]))):=λH3 s3=>by
   refine⟨_,s3 _ _ hp2,Zz3 hlen (Ag (Zzq _)),_,_,rfl,?_,λc o e=>?_⟩
   ·rw[A0,Zzb,ek,Zzo];rfl
   ·rw[Ab (A5 e hp)];exact s3 _ _ (s2 _ _ e)
  refine⟨Ds hp2,rfl,?_⟩;cases kk with
  |inr x =>
   rw[FZ (by show decide (("name" : Str) = "name")=true;decide +kernel)];exact⟨x,rfl,okk,λH3 s3=>go H3 s3⟩
  |inl n =>
   rw[FY (by show ¬ decide (("number" : Str) = "name")=true;decide +kernel)];have q:=f8 okk.1 okk.2;exact⟨_,n,rfl,q.2.2.2,q.1,q.2.1,λH3 s3=>go H3 s3⟩
 ·obtain⟨o1,o2,rfl,hp1,s1⟩:=h;rw[hmin,Zzf] at hp1;walk_at "rd";exact k p H' hp hp1 s1
end
set_option maxHeartbeats 4000000
section
variable {dk:Dk}
theorem D7{i:Int}(hi:0<=i):E7 xs (some i) none=xs.drop i.toNat:=by
 unfold E7;rw[q9 hi];have e:HT.sIx xs.length xs.length none=xs.length:=rfl;rw[e];by_cases h:i.toNat<=xs.length
 ·rw[Nat.min_eq_left h,Zwq (by rw[Zxr];exact Zzq _)]
 ·have h:xs.length<=i.toNat:=by lia
  rw[Nat.min_eq_right h,List.drop_length,List.drop_of_length_le h,List.take_nil]
noncomputable def Im:List (Str×List Str):=[("ware",["name", "number", "number", "number", "number"]),("coming",["name", "number", "number"]),("part",["name", "name", "number"]),("want",["name", "number", "number"])]
structure Iq(r:Str×List Key):Prop where
 form:(r.1,r.2.map Hc)∈Im
 cells:∀k∈r.2,Mh k
noncomputable def Lu(r:Str×List Key):Str:=Str.join (one 32) (r.1::r.2.map AG)
def rowV(r:Str×List Key):List V:=.str r.1::r.2.map kV
theorem Nz{k:Key}(h:Mh k):(32∉(AG k).cps.toList/\10∉(AG k).cps.toList)/\(AG k).length<=60:=by
 cases k with
 |inl n =>
  obtain⟨h1,h2,h3,h4⟩:=f8 h.1 h.2;refine⟨?_,h4⟩;unfold On at h1;simp only[Zyy] at h1;have all:=Zy5.mp h1.1.2;exact⟨λz=>absurd (FV (all 32 z)) (by decide +kernel),λz=>absurd (FV (all 10 z)) (by decide +kernel)⟩
 |inr x =>
  have h:Bp x=true:=h;unfold Bp at h;simp only[Zyy,decide_eq_true_eq] at h;have all:=Zy5.mp h.2;exact⟨⟨λz=>absurd (FV (all 32 z)) (by decide +kernel),λz=>absurd (FV (all 10 z)) (by decide +kernel)⟩,Zzd h.1.2 (by decide)⟩
theorem Ip(h:Iq r):(32∉r.1.cps.toList/\10∉r.1.cps.toList)/\r.1.length<=60/\r.2.length<=5:=by
 have hf:=h.form;unfold Im at hf;simp only[Zzs,Zzk,or_false,Prod.mk.injEq] at hf;have g:∀x:Str,x = "ware" \/ x = "coming" \/ x = "part" \/ x = "want" -> (32∉x.cps.toList/\10∉x.cps.toList)/\x.length<=60:=λx hx=>by
  rcases hx with rfl | rfl | rfl | rfl<;>decide +kernel
 have hl:r.2.length=(r.2.map Hc).length:=by rw[Zzz]
 rcases hf with ⟨e1,e2⟩ | ⟨e1,e2⟩ | ⟨e1,e2⟩ | ⟨e1,e2⟩<;>rw[e2] at hl
 ·exact⟨(g r.1 (.inl e1)).1,(g r.1 (.inl e1)).2,by rw[hl];decide⟩
 ·exact⟨(g r.1 (.inr (.inl e1))).1,(g r.1 (.inr (.inl e1))).2,by rw[hl];decide⟩
 ·exact⟨(g r.1 (.inr (.inr (.inl e1)))).1,(g r.1 (.inr (.inr (.inl e1)))).2,by rw[hl];decide⟩
 ·exact⟨(g r.1 (.inr (.inr (.inr e1)))).1,(g r.1 (.inr (.inr (.inr e1)))).2,by rw[hl];decide⟩
theorem Lc(h:Iq r){P:Str->Prop}(h1:P r.1)(h2:∀k∈r.2,P (AG k)):∀w∈r.1::r.2.map AG,P w:=λw hw=>by
 rcases Zzs.mp hw with rfl | hw
 ·exact h1
 ·obtain⟨k,hk,rfl⟩:=Zzv.mp hw;exact h2 k hk
theorem jj(h:Iq r):Txt.split (Lu r) (one 32)=r.1::r.2.map AG :=
 Fw (by decide) (by simp) (Lc h (P:=λw=>32∉w.cps.toList) (Ip h).1.1 λk hk=>(Nz (h.cells k hk)).1.1)
theorem Wc(h:Iq r):(Lu r).length<=400:=by
 have:=Ij (sep:=one 32) (B:=60) (Lc h (P:=λw=>w.length<=60) (Ip h).2.1 λk hk=>(Nz (h.cells k hk)).2);have hl:=(Ip h).2.2;simp only[Zys,Zzz] at this;have l1:(one 32).length=1:=rfl;unfold Lu;rw[l1] at this;lia
inductive DQ (vs:List V) (H:Hp) (Q:VK) (E:XK):Prop | mk (r:Str×List Key) (_:vs=[.str (Lu r)]) (_:Iq r) (_:∀p H',H p=none->H' p=some (.lst (rowV r))->AA H H'->Q (.ref p) H')
theorem Z8(F:Fun K "read_row" "read_row" Rl f fd)(T:Txt mg)(R:Rws w K mg)(Zt7:Has P w K mg base "read_words" 3 ["words", "form"] (J6 K)):B2 P w K mg base CX0 4 f fd ["row"] DQ:=by
 refine F.go ["row", "words"] ?_ ?_ ?_;walk_at "f";obtain⟨r,rfl,ok,k⟩:=h;have hu:=Au hr;obtain⟨R_a,R_l,R_m,R_t,f1,f2,f3,f4,_⟩:=R;refine⟨_,(A2 (Af (i:=1) Nd rfl (Zzt rfl) (Cf Zyr Zx4 Zx3 Ji (pv 0) (A3 Am A1)))
 (Aa (Ae (At Ig (Bh (A3 (A8 hu (pv 1) A6 (λ_ _=>rfl)) A1)) (A7 Zt7 hr.z rfl (A3 (Co Ek (pv 1) (Dh A6) Di) (A3 (gm R_t (Nb (v:=.ref R_a) rfl R_m rfl) (A8 hu (pv 1) A6 (λ_ _=>rfl)) ⟨rfl,rfl,rfl,rfl⟩) A1))))))),?_⟩
 walk_at "rd";have fm:Ke K R_l r.1 (r.2.map Hc):=by
  have hf:=ok.form;unfold Im at hf;simp only[Zzs,Zzk,or_false,Prod.mk.injEq] at hf;rcases hf with ⟨q1,q2⟩ | ⟨q1,q2⟩ | ⟨q1,q2⟩ | ⟨q1,q2⟩<;>rw[q1,q2]<;>assumption
 obtain⟨fa,tl,q1,q2,q3⟩:=fm;have hl5:=(Ip ok).2.2;have htl:tl.length<=1000:=by
  have:=congrArg Zxa q3;rw[Zzz,Zzz] at this;lia
 have sq:∀H':Hp,SqT K H' fa ((r.2.map Hc).map V.str):=λH'=>by rw[<- q3];exact q2.sq htl H'
 refine⟨rfl,32,by decide +kernel,Zzd (Wc ok) (by decide),λp hp=>?_⟩;rw[jj ok,Zza];have u1:=A4 (o:=.lst (V.str r.1::(r.2.map AG).map V.str)) hp;refine⟨_,Bq (j:=0) A0 rfl,by decide,λp1 hp1=>?_⟩;have u2:=A4 (o:=.lst [V.str r.1]) hp1;refine⟨_,u2 _ _ A0,λp2 hp2=>?_⟩;have ec:E7 (V.str r.1::(r.2.map AG).map V.str) (some 1) none=(r.2.map AG).map V.str:=by
  rw[D7 (by decide)];rfl
 rw[ec];have u3:=A4 (o:=.lst ((r.2.map AG).map V.str)) hp2;refine⟨_,Bq (j:=0) (u3 _ _ (u2 _ _ A0)) rfl,_,rfl,?_⟩;rw[q1];have uu:=(u1.trans u2).trans u3;refine⟨p2,fa,r.2,rfl,A0,sq _,by lia,ok.cells,λp3 H3 hp3 hp3' s3=>⟨p3,rfl,_,s3 _ _ (u3 _ _ A0),_,hp3',Ag (by rw[Zzz];simp;lia),λp4 hp4=>?_⟩⟩;exact k p4 _ (AA.free (uu.trans s3) hp4) A0 ((uu.trans s3).trans (A4 hp4))
end
set_option maxHeartbeats 4000000
section
variable {dk:Dk}
def No:Key->PyData
 |.inl i=>.int i
 |.inr x=>.str x
abbrev R3:=Str×Str×List Key
def r3(r:R3):Str×List Key:=(r.1,.inr r.2.1::r.2.2)
def r3D(r:R3):PyData:=.list (.str r.1::.str r.2.1::r.2.2.map No)
def P7(r:R3):PyData:=.tuple (r.2.2.map No)
noncomputable def F0(s n:Str)(r:R3):Bool:=decide (r.1=s)&&decide (r.2.1=n)
theorem A0r{k:Key}(h:RD H (No k) v):v=kV k:=by
 cases k with
 |inl i=>rw[No,RD] at h;exact h
 |inr x=>rw[No,RD] at h;exact h
theorem xk(k:Key):RD H (No k) (kV k):=by
 cases k with
 |inl i=>exact RD.int_mk
 |inr x=>exact RD.str_mk
theorem Z0:∀{ks:List Key} {vs:List V},RDs H (ks.map No) vs->vs=ks.map kV
 |[],vs,h=>RDs.nil_of h
 |k::r,vs,h=>by
  obtain⟨x,r',rfl,h1,h2⟩:=RDs.cons_of h;rw[A0r h1,Z0 h2];rfl
theorem Jg:∀ks:List Key,RDs H (ks.map No) (ks.map kV)
 |[]=>RDs.nil
 |k::r=>RDs.cons (xk k) (Jg r)
theorem Qg(h:RD H (.list ds) v):∃a xs,v=.ref a/\H a=some (.lst xs)/\RDs H ds xs:=by rw[RD] at h;exact h
theorem gd{r:R3}(h:RD H (r3D r) v):∃a,v=.ref a/\H a=some (.lst (.str r.1::.str r.2.1::r.2.2.map kV)):=by
 obtain⟨a,xs,rfl,ha,hx⟩:=Qg h;obtain⟨x,r1,rfl,h1,h2⟩:=RDs.cons_of hx;obtain⟨y,r2,rfl,h3,h4⟩:=RDs.cons_of h2;rw[RD] at h1 h3;rw[h1,h3,Z0 h4] at ha;exact⟨a,rfl,ha⟩
inductive DZ (vs:List V) (H:Hp) (Q:VK) (E:XK):Prop | mk (a:Addr) (rs:List R3) (s n:Str) (_:vs=[.ref a,.str s,.str n]) (_:RD H (.list (rs.map r3D)) (.ref a)) (_:rs.length<=1000) (_:(∀r∈rs,r.2.2.length<=5)) (_:∀p xs H',H p=none->H' p=some (.lst xs)->RDs H' ((rs.filter (F0 s n)).map P7) xs->AA H H'->Q (.ref p) H')
theorem bp(F:Fun K "rows_of" "rows_of" Uq f fd)(T:Txt mg):B2 P w K mg base CX0 1 f fd ["rows", "sort", "name"] DZ:=by
 refine F.go ["rows", "sort", "name"] ?_ ?_ ?_;walk_at "f";obtain⟨a,rs,s',n,rfl,hrd,hl,hk,k⟩:=h;have hu:=Au hr;refine⟨_,(Aa (Ae (Bc (own:=["row"]) (cap:=[1,2]) rfl (Br rfl) (Aq (by decide)) (Cq (pv 0))
 (λ_ _ _ _ _ _=>⟨(Ac (i:=0) (FV rfl) rfl (Zzt rfl) (.inr rfl)),(G4 (PW.pt (J7 (Ah (Bl hu) (A8 hu (pv 0) A6 (λ_ _=>rfl)) (pv 1) (Aj _)) (He (Ah (Bl hu) (A8 hu (pv 0) A6 (λ_ _=>rfl)) (pv 2) (Aj _)))))),(As Bv rfl T.Ztk D2 (A3 (Co Ek (pv 0) (Dh A6) Di) A1))⟩)))),?_⟩
 walk_at "rd";obtain⟨a',vs,ea,ha,rv⟩:=Qg hrd;cases ea;have hvl:=Aw rv;refine⟨_,ha,?_⟩;refine Et (Dw a _) (Ag (by lia)) (λi acc H'=>RDs H' (((rs.take i).filter (F0 s' n)).map P7) acc/\AA H H') ⟨RDs.nil,AA.refl _⟩ (λi acc H' _ h=>h.2 _ _ ha) (λi acc H' h=>?_) (λi x acc H' hi hx h=>?_) (λacc H' h p hp=>?_)
 ·have:=Aw h.1
  have h2:((rs.take i).filter (F0 s' n)).length<=i:=Zzd (Zyh _ _) (by rw[Zz7];lia);lia
 ·obtain⟨racc,s1⟩:=h;obtain⟨r,er,rr⟩:=Ax rv hx;obtain⟨ra,rfl,hra⟩:=gd rr;have hra1:=s1 _ _ hra;have et:(rs.take (i+1)).filter (F0 s' n)=(rs.take i).filter (F0 s' n)++if F0 s' n r=true then [r] else []:=by
   rw[Zzb,er,Zyx];congr 1;by_cases z:F0 s' n r=true
   ·rw[FZ z];simp[z]
   ·rw[FY z];simp[z]
  walk_at "rd";refine⟨_,Bq (j:=0) hra1 rfl,rfl,?_⟩;have no:F0 s' n r=false->RDs H' (((rs.take (i+1)).filter (F0 s' n)).map P7) acc/\AA H H':=λz=>by
   rw[et,FY (by rw[z];decide),Zz6];exact⟨racc,s1⟩
  refine Dq (λz1=>⟨_,Bq (j:=1) hra1 rfl,rfl,Dq (λz2=>?_) (λz2=>no ?_)⟩) (λz1=>no ?_)
  ·have e1:r.1=s':=V.str.inj (FV z1)
   have e2:r.2.1=n:=V.str.inj (FV z2);have ec:E7 (V.str r.1::V.str r.2.1::r.2.2.map kV) (some 2) none=r.2.2.map kV:=by
    rw[D7 (by decide)];rfl
   refine⟨_,hra1,λp hp=>?_⟩;rw[ec];refine⟨_,.inl ⟨A0,λl hl=>?_⟩⟩;have u:=(A4 (o:=.lst (r.2.2.map kV)) hp).trans (A4 (o:=.tup (r.2.2.map kV)) hl);refine⟨?_,s1.trans u⟩;rw[et,FZ (by unfold F0;rw[FW e1,FW e2];rfl),Zzo];exact RDs.app (RDs.same u _ _ racc) (RDs.one (RD.tup_mk A0 (Jg _)))
  ·have h2:decide (r.2.1=n)=false:=FX λz=>z2 (FW (by rw[z]))
   unfold F0;rw[h2,Bool.and_false]
  ·have h1:decide (r.1=s')=false:=FX λz=>z1 (FW (by rw[z]))
   unfold F0;rw[h1,Bool.false_and]
 ·obtain⟨racc,s1⟩:=h;rw[hvl,Zzf] at racc;exact k p acc _ (AA.free s1 hp) A0 (RDs.same (A4 hp) _ _ racc) (s1.trans (A4 hp))
end
set_option maxHeartbeats 4000000
section
variable {dk:Dk}
def Kh(rs:List R3)(r:R3):PyData:=.tuple ((.str r.2.1::r.2.2.map No)++[.tuple ((rs.filter (F0 "coming" r.2.1)).map P7),.tuple ((rs.filter (F0 "part" r.2.1)).map P7)])
def mv(r:R3):PyData:=.tuple (.str r.2.1::r.2.2.map No)
noncomputable def isS(s:Str)(r:R3):Bool:=decide (r.1=s)
def wrD(rs:List R3):PyData:=.tuple [.tuple ((rs.filter (isS "ware")).map (Kh rs)),.tuple ((rs.filter (isS "want")).map mv)]
theorem gw:∀xs ys:List PyData,Dt xs=true->Dt ys=true->Dt (xs++ys)=true
 |[],ys,_,h=>h
 |x::r,ys,h1,h2=>by
  rw[Dt,Zyy] at h1;rw[Zx2,Dt,h1.1,gw r ys h1.2 h2];rfl
theorem sf(k:Key):Ef (No k)=true:=by cases k<;>rfl
theorem Xd(r:R3):Ef (P7 r)=true:=by
 unfold P7;rw[Ef];exact D0 No sf _
theorem se(rs:List R3)(r:R3):Ef (Kh rs r)=true:=by
 unfold Kh;rw[Ef];refine gw _ _ ?_ ?_
 ·rw[Dt,D0 No sf];rfl
 ·simp only[Dt,Ef,D0 P7 Xd,Zvn]
theorem Np{rs:List R3}{s:Str}{r:R3}(h:rs[i]?=some r):(rs.take (i+1)).filter (isS s)=(rs.take i).filter (isS s)++if r.1=s then [r] else []:=by
 rw[Zzb,h,Zyx];congr 1;unfold isS;by_cases z:r.1=s
 ·rw[FZ z];simp[z]
 ·rw[FY z];simp[z]
theorem yt{l:Addr}{ys:List V}(h:H l=some (.lst xs)):AS H (upd H l (.lst ys)):=Xk h (λ_ z=>by cases z)
inductive CK (vs:List V) (H:Hp) (Q:VK) (E:XK):Prop | mk (a:Addr) (rs:List R3) (_:vs=[.ref a]) (_:RD H (.list (rs.map r3D)) (.ref a)) (_:rs.length<=1000) (_:(∀r∈rs,r.2.2.length<=5)) (_:∀t H',RD H' (wrD rs) (.ref t)->AA H H'->Q (.ref t) H')
inductive A2p (a q:Addr) (rs:List R3) (H:Hp) (i:Nat) (Z:St) (H':Hp):Prop | mk (vs:List V) (o1 o2 o3:Option V) (_:Z=[some (.ref a),some (.ref q),o1,o2,o3,none]) (_:H' q=some (.lst vs)) (_:RDs H' (((rs.take i).filter (isS "ware")).map (Kh rs)) vs) (_:AA H H')
theorem Q5(F:Fun K "written_shop" "written_shop" Kn f fd)(T:Txt mg)(Zru:Has P w K mg base "rows_of" 1 ["rows", "sort", "name"] DZ):B2 P w K mg base CX0 2 f fd ["rows"] CK:=by
 refine F.go ["rows", "wares", "row", "coming", "parts", "wants"] ?_ ?_ ?_;walk_at "f";obtain⟨a,rs,rfl,hrd,hl,hk,k⟩:=h;have hu:=Au hr;refine⟨_,(A2 (Af (i:=1) Nd rfl (Zzt rfl) (Bh A1))
 (A2 (Bk PassesOwn.never rfl (Cq (pv 0)) (Ac (i:=2) Nd rfl (Zzt rfl))
 (Aa (Ay (Ah (Bl hu) (A8 hu (pv 2) A6 (λ_ _=>rfl)) Am (Aj _)) (A2 (Af (i:=3) Nd rfl (Zzt rfl) (As Bv rfl T.Ztk D2 (A3 (A7 Zru hr.z rfl (A3 (pv 0) (A3 Am (A3 (A8 hu (pv 2) A6 (λ_ _=>rfl)) A1)))) A1)))
 (A2 (Af (i:=4) Nd rfl (Zzt rfl) (As Bv rfl T.Ztk D2 (A3 (A7 Zru hr.z rfl (A3 (pv 0) (A3 Am (A3 (A8 hu (pv 2) A6 (λ_ _=>rfl)) A1)))) A1)))
 (Aa (C5 (Cf Zz5 Zyn Zym Ck (pv 1) (A3 (At Z7 (As Bv rfl T.Ztk D2 (A3 (Co Ek (pv 2) (Dh A6) Di) A1)) (Cz (A3 (pv 3) (A3 (pv 4) A1)))) A1)))))) Ak)))
 (A2 (Df (own:=["row"]) (cap:=[]) (i:=5) rfl (Br rfl) (Aq (by decide)) Nd rfl rfl (Cq (pv 0))
 (λ_ _ _ _ _ _=>⟨(Ac (i:=0) (FV rfl) rfl (Zzt rfl) (.inr rfl)),(G4 (Ah (Bl hu) (A8 hu (pv 0) A6 (λ_ _=>rfl)) Am (Aj _))),(As Bv rfl T.Ztk D2 (A3 (Co Ek (pv 0) (Dh A6) Di) A1))⟩))
 (Aa (Ae (Cz (A3 (As Bv rfl T.Ztk D2 (A3 (pv 1) A1)) (A3 (As Bv rfl T.Ztk D2 (A3 (pv 5) A1)) A1)))))))),?_⟩
 walk_at "rd";obtain⟨a',vs,ea,ha,rv⟩:=Qg hrd;cases ea;have hvl:=Aw rv;refine⟨by decide,λq hq=>?_⟩;have uq:=A4 (o:=.lst []) hq;refine⟨_,uq _ _ ha,?_⟩;refine Cp (Dw a _) (A2p a q rs H) ⟨[],_,_,_,rfl,A0,RDs.nil,uq⟩ (λi Z H' _ h=>by obtain⟨_,_,_,_,_,_,_,s'⟩:=h;exact s' _ _ ha) (λi x Z H1 hi hx h=>?_) (λZ H1 h=>?_)
 ·obtain⟨ws,o1,o2,o3,rfl,hq1,r1,s1⟩:=h;obtain⟨r,er,rr⟩:=Ax rv hx;obtain⟨ra,rfl,hra⟩:=gd rr;have hra1:=s1 _ _ hra;walk_at "rd";refine⟨_,Bq (j:=0) hra1 rfl,rfl,Dq (λz=>?_) (λz=>?_)⟩
  ·have z:r.1 = "ware" := V.str.inj (FV z)
   refine⟨_,Bq (j:=1) hra1 rfl,a,rs,_,_,rfl,RD.same s1 _ _ hrd,hl,hk,λp2 x2 H2 hp2 hp2' rc2 sm2=>⟨p2,rfl,x2,.inl ⟨hp2',λl1 hl1=>?_⟩⟩⟩;have u3:=A4 (o:=.tup x2) hl1;have s3:=(s1.trans sm2).trans u3;have hl1':upd H2 l1 (.tup x2) l1=some (.tup x2):=A0;have rc3:=RDs.same u3 _ _ rc2;have hq3:=u3 _ _ (sm2 _ _ hq1);have r3':=RDs.same (sm2.trans u3) _ _ r1;generalize upd H2 l1 (.tup x2)=H3 at s3 hl1' rc3 hq3 r3';refine⟨_,Bq (j:=1) (s3 _ _ hra) rfl,a,rs,_,_,rfl,RD.same s3 _ _ hrd,hl,hk,λp4 x4 H4 hp4 hp4' rc4 sm4=>⟨p4,rfl,x4,.inl ⟨hp4',λl2 hl2=>?_⟩⟩⟩;have u5:=A4 (o:=.tup x4) hl2;have s5:=(s3.trans sm4).trans u5;have hl2':upd H4 l2 (.tup x4) l2=some (.tup x4):=A0;have hl15:=u5 _ _ (sm4 _ _ hl1');have rc5:=RDs.same (sm4.trans u5) _ _ rc3;have rp5:=RDs.same u5 _ _ rc4;have hq5:=u5 _ _ (sm4 _ _ hq3);have r5':=RDs.same (sm4.trans u5) _ _ r3';generalize upd H4 l2 (.tup x4)=H5 at s5 hl2' hl15 rc5 rp5 hq5 r5';have ec:E7 (V.str r.1::V.str r.2.1::r.2.2.map kV) (some 1) none=V.str r.2.1::r.2.2.map kV:=by
    rw[D7 (by decide)];rfl
   refine⟨Ds hq5,_,s5 _ _ hra,λp6 hp6=>?_⟩;rw[ec];refine⟨_,.inl ⟨A0,λl3 hl3=>⟨by decide,λp7 hp7=>?_⟩⟩⟩;have u6:=(A4 (o:=.lst (V.str r.2.1::r.2.2.map kV)) hp6).trans (A4 (o:=.tup (V.str r.2.1::r.2.2.map kV)) hl3);have u7:=A4 (o:=.tup [V.ref l1,V.ref l2]) hp7;have hkr:=hk r (Zzu er);refine⟨_,u7 _ _ A0,_,A0,Ag (by simp only[Zys,Zzz,Zx6];lia),λp8 H8 hp8 sm8 _=>?_⟩;have ux:=(u6.trans u7).trans sm8;have hlw:=Aw r1;have hlw2:((rs.take i).filter (isS "ware")).length<=1000:=Zzd (Zyh _ _) (by rw[Zz7];lia);have hiw:((rs.take i).filter (isS "ware")).length<1000:=Zz0 (Zyh _ _) (by rw[Zz7];have:=(Zze.mp er).1;lia);have hqx:=ux _ _ hq5;have kx:=yt (ys:=ws++[V.ref p8]) hqx;refine⟨ws,hqx,Zz3 (show ws.length<1000 by lia) (Ag (Zzq _)),_,_,_,_,rfl,A0,?_,?_⟩
   ·rw[Np er,FZ z,Zzo];refine RDs.app (RDs.ku (ux.ku.trans kx) _ _ (D0 _ (se rs) _) r5') (RDs.one ?_);unfold Kh;refine RD.tup_mk (xs:=(V.str r.2.1::r.2.2.map kV)++[V.ref l1,V.ref l2]) (kx _ _ hp8) (RDs.app (RDs.cons RD.str_mk (Jg _)) (RDs.cons (RD.tup_mk ?_ (RDs.ku (ux.ku.trans kx) _ _ (D0 _ Xd _) rc5)) (RDs.one (RD.tup_mk ?_ (RDs.ku (ux.ku.trans kx) _ _ (D0 _ Xd _) rp5)))))
    ·exact kx _ _ (ux _ _ hl15)
    ·exact kx _ _ (ux _ _ hl2')
   ·intro c o e;rw[Ab (A5 e hq)];exact ux _ _ (s5 _ _ e)
  ·have z:¬ r.1 = "ware" := λy=>z (FW (by rw[y]))
   refine⟨ws,_,_,_,rfl,hq1,?_,s1⟩;rw[Np er,FY z,Zz6];exact r1
 ·obtain⟨ws,o1,o2,o3,rfl,hq1,r1,s1⟩:=h;rw[hvl,Zzf] at r1;walk_at "rd";refine⟨_,s1 _ _ ha,?_⟩;refine Et (Dw a _) (Ag (by lia)) (λi acc H'=>RDs H' (((rs.take i).filter (isS "want")).map mv) acc/\AA H1 H') ⟨RDs.nil,AA.refl _⟩ (λi acc H' _ h=>h.2 _ _ (s1 _ _ ha)) (λi acc H' h=>?_) (λi x acc H' hi hx h=>?_) (λacc H' h p hp=>?_)
  ·have:=Aw h.1
   have h2:((rs.take i).filter (isS "want")).length<=i:=Zzd (Zyh _ _) (by rw[Zz7];lia);lia
  ·obtain⟨racc,s2⟩:=h;obtain⟨r,er,rr⟩:=Ax rv hx;obtain⟨ra,rfl,hra⟩:=gd rr;have hra1:=s2 _ _ (s1 _ _ hra);walk_at "rd";refine⟨_,Bq (j:=0) hra1 rfl,rfl,Dq (λz=>?_) (λz=>?_)⟩
   ·have z:r.1 = "want" := V.str.inj (FV z)
    have ec:E7 (V.str r.1::V.str r.2.1::r.2.2.map kV) (some 1) none=V.str r.2.1::r.2.2.map kV:=by
     rw[D7 (by decide)];rfl
    refine⟨_,hra1,λp hp=>?_⟩;rw[ec];refine⟨_,.inl ⟨A0,λl hl=>?_⟩⟩;have u:=(A4 (o:=.lst (V.str r.2.1::r.2.2.map kV)) hp).trans (A4 (o:=.tup (V.str r.2.1::r.2.2.map kV)) hl);refine⟨?_,s2.trans u⟩;rw[Np er,FZ z,Zzo];exact RDs.app (RDs.same u _ _ racc) (RDs.one (RD.tup_mk A0 (RDs.cons RD.str_mk (Jg _))))
   ·have z:¬ r.1 = "want" := λy=>z (FW (by rw[y]))
    rw[Np er,FY z,Zz6];exact⟨racc,s2⟩
  ·obtain⟨racc,s2⟩:=h;rw[hvl,Zzf] at racc;have up:=A4 (o:=.lst acc) hp;refine⟨ws,.inl ⟨(s2.trans up) _ _ hq1,λl hl=>⟨p,rfl,acc,.inl ⟨A4 hl _ _ A0,λl2 hl2=>⟨by decide,λt ht=>?_⟩⟩⟩⟩⟩;have v1:=A4 (o:=.tup ws) hl;have v2:=A4 (o:=.tup acc) hl2;have v3:=A4 (o:=.tup [V.ref l,V.ref l2]) ht;have vv:=(v1.trans v2).trans v3;refine k t _ ?_ (((s1.trans s2).trans up).trans vv);unfold wrD;exact RD.tup_mk A0 (RDs.cons (RD.tup_mk (v3 _ _ (v2 _ _ A0)) (RDs.same ((s2.trans up).trans vv) _ _ r1)) (RDs.one (RD.tup_mk (v3 _ _ A0) (RDs.same (up.trans vv) _ _ racc))))
end
set_option maxHeartbeats 4000000
section
variable {dk:Dk}
noncomputable def Ob(rs:List R3):Str:=Str.join (one 10) (rs.map λr=>Lu (r3 r))
theorem qh(h:Iq r):10∉(Lu r).cps.toList:=by
 have g:∀ws:List Str,(∀w∈ws,10∉w.cps.toList)->10∉(Str.join (one 32) ws).cps.toList:=λws=>by
  induction ws with
  |nil=>intro _ z;exact absurd z (by decide +kernel)
  |cons w r ih =>
   intro hw;cases r with
   |nil=>exact hw w Zzm
   |cons v r =>
    rw[L5];intro z;rcases Zz4.mp z with z | z
    ·exact hw w Zzm z
    ·rcases Zzs.mp z with z | z
     ·exact absurd z (by decide)
     ·exact ih (λy hy=>hw y (Zzl _ hy)) z
 exact g _ (Lc h (P:=λw=>10∉w.cps.toList) (Ip h).1.2 λk hk=>(Nz (h.cells k hk)).1.2)
theorem ay{rs:List R3}(h0:rs≠[])(h:∀r∈rs,Iq (r3 r)):Txt.split (Ob rs) (one 10)=rs.map λr=>Lu (r3 r) :=
 Fw (by decide) (by simpa using h0) λw hw=>by
  obtain⟨r,hr,rfl⟩:=Zzv.mp hw;exact qh (h r hr)
theorem R9{rs:List R3}(h:∀r∈rs,Iq (r3 r)):(Ob rs).length<=rs.length*400+rs.length:=by
 have:=Ij (sep:=one 10) (B:=400) (xs:=rs.map λr=>Lu (r3 r)) λw hw=>by
  obtain⟨r,hr,rfl⟩:=Zzv.mp hw;exact Wc (h r hr)
 rw[Zzz,show (one 10).length=1 from rfl,Nat.mul_one] at this;exact this
end
set_option maxHeartbeats 4000000
section
variable {dk:Dk}
structure O6(rs:List R3)(S:Sh):Prop where
 ne:rs≠[]
 len:rs.length<=400
 ok:∀r∈rs,Iq (r3 r)
 eq:wrD rs=S.d
 sd:SD S
 own:∀r∈rs,r.2.1∈Be S
inductive BZ (vs:List V) (H:Hp) (Q:VK) (E:XK):Prop | mk (rs:List R3) (S:Sh) (_:vs=[.str (Ob rs)]) (_:O6 rs S) (_:∀t H',RD H' S.d (.ref t)->AA H H'->Q (.ref t) H')
theorem Ws(F:Fun K "read_shop" "read_shop" Pa f fd)(T:Txt mg)(Zrf:Has P w K mg base "read_row" 4 ["row"] DQ)(Zsg:Has P w K mg base "written_shop" 2 ["rows"] CK)(Ztu:Has P w K mg base "names_of" 1 ["shop"] BD)(Zr9:Has P w K mg base "is_shop" 8 ["found"] DY):B2 P w K mg base CX0 9 f fd ["text"] BZ:=by
 refine F.go ["text", "rows", "shop"] ?_ ?_ ?_;walk_at "f";obtain⟨rs,S,rfl,sr,k⟩:=h;have hu:=Au hr;refine⟨_,(A2 (Ay (C6 (C9 (Ai Dr rfl T.Zti Cw (A3 (pv 0) (A3 (Iu (v:=.ty "str") rfl T.Zte Dz rfl) A1))))) C0 Ak)
 (A2 (Df (own:=["row"]) (cap:=[]) (i:=1) rfl (Br rfl) (Aq (by decide)) Nd rfl rfl (J8 (Cf Zyr Zx4 Zx3 Ji (pv 0) (A3 Am A1)))
 (λ_ _ _ _ _ _=>⟨(Ac (i:=0) (FV rfl) rfl (Zzt rfl) (.inr rfl)),Bb,(A7 Zrf hr.z rfl (A3 (pv 0) A1))⟩))
 (A2 (Af (i:=2) Nd rfl (Zwd rfl) (A7 Zsg hr.z rfl (A3 (pv 1) A1)))
 (A2 (Ay (PW.pt (Fg (C6 (C9 (A7 Zr9 hr.z rfl (A3 (pv 2) A1)))) (En (C6 (C9 (Ai (Fq rfl) rfl T.Zs8 Jy (A3 (Bc (own:=["row"]) (cap:=[2]) rfl (Br rfl) (Aq (by decide)) (Cq (pv 1))
 (λ_ _ _ _ _ _=>⟨(Ac (i:=0) (FV rfl) rfl (Zzt rfl) (.inr rfl)),Bb,(Dj (Mb hu) (A8 hu (pv 0) A6 (λ_ _=>rfl)) (A7 Ztu hr.z rfl (A3 (pv 1) A1)) rfl)⟩)) A1))))))) C0 Ak)
 (Aa (Ae (pv 2))))))),?_⟩
 have hl:=sr.len;have htl:=R9 sr.ok;have h5:∀r∈rs,r.2.2.length<=5:=λr hr=>by
  have:=(Ip (sr.ok r hr)).2.2;have e:(r3 r).2.length=r.2.2.length+1:=rfl;lia
 walk_at "rd";refine⟨_,rfl,?_⟩;rw[FY (by decide)];refine⟨rfl,10,by decide +kernel,by lia,λp hp=>.inl ⟨_,A0,?_⟩⟩;rw[ay sr.ne sr.ok];have u1:=A4 (o:=.lst ((rs.map λr=>Lu (r3 r)).map V.str)) hp;have hp1:upd H p (.lst ((rs.map λr=>Lu (r3 r)).map V.str)) p=some (.lst ((rs.map λr=>Lu (r3 r)).map V.str)):=A0;generalize upd H p (.lst ((rs.map λr=>Lu (r3 r)).map V.str))=H1 at u1 hp1;refine Et (Dw p _) (Ag (by simp only[Zzz];lia)) (λi acc H'=>RDs H' ((rs.take i).map r3D) acc/\AA H1 H') ⟨RDs.nil,AA.refl _⟩ (λi acc H' _ h=>h.2 _ _ hp1) (λi acc H' h=>?_) (λi x acc H' hi hx h=>?_) (λacc H2 h q hq=>?_)
 ·have:=Aw h.1
  rw[Zz7] at this;lia
 ·obtain⟨racc,s1⟩:=h;rw[Zzy,Zzy] at hx;cases er:rs[i]? with
  |none=>rw[er] at hx;cases hx
  |some r =>
  rw[er] at hx;have hx:V.str (Lu (r3 r))=x:=Zzh hx;subst hx;walk_at "rd";refine⟨r3 r,rfl,sr.ok r (Zzu er),λp3 H3 hp3 hp3' s3=>⟨?_,s1.trans s3⟩⟩;rw[Zzb,er,Zzo];refine RDs.app (RDs.same s3 _ _ racc) (RDs.one ?_);show RD H3 (.list (.str r.1::.str r.2.1::r.2.2.map No)) (.ref p3);rw[RD];exact⟨p3,_,rfl,hp3',RDs.cons RD.str_mk (RDs.cons RD.str_mk (Jg _))⟩
 ·obtain⟨racc,s1⟩:=h;simp only[Zzz,Zzf] at racc;have u2:=A4 (o:=.lst acc) hq;have hq2:upd H2 q (.lst acc) q=some (.lst acc):=A0;have s2:=(u1.trans s1).trans u2;have racc:=RDs.same u2 _ _ racc;generalize upd H2 q (.lst acc)=H3 at hq2 s2 racc;have rrd:RD H3 (.list (rs.map r3D)) (.ref q):=by rw[RD];exact⟨q,acc,rfl,hq2,racc⟩
  refine⟨q,rs,rfl,rrd,by lia,h5,λt H4 rt s4=>?_⟩;rw[sr.eq] at rt;refine⟨.ref t,S,rfl,rt,sr.sd,λH5 s5=>⟨_,rfl,?_⟩⟩;rw[FY (by decide)];have s05:=s4.trans s5;obtain⟨q',vs5,eq5,hq5,rv5⟩:=Qg (RD.same s05 _ _ rrd);cases eq5;have hv5:=Aw rv5;refine⟨q,rfl,vs5,hq5,?_⟩;refine Bg (Dw q _) (Ag (by lia)) (λH' s'=>s' _ _ hq5) ((rs.map λ_=>true).map V.bl) (by rw[Zzz,Zzz];lia) (λi x H' hi hx s' N M hN=>?_) (λH' s' p6 hp6=>?_)
  ·obtain⟨r,er,rr⟩:=Ax rv5 hx;obtain⟨ra,rfl,hra⟩:=gd rr;walk_at "rd";have hn:=sr.sd.n;refine⟨_,Bq (j:=1) (s' _ _ hra) rfl,_,S,rfl,RD.same (s5.trans s') _ _ rt,by lia,λp7 H7 hp7 hp7' s7=>⟨true,.inl ⟨p7,_,rfl,.inl hp7',rfl,Jn _,?_⟩,hN _ _ (s'.trans s7) ?_⟩⟩
   ·rw[L6,FW (sr.own r (Zzu er))]
   ·rw[Zzy,Zzy,er];rfl
  ·refine⟨p6,rfl,_,A0,?_⟩;rw[Fs,FY (by decide)];have u6:=A4 (o:=.lst ((rs.map λ_=>true).map V.bl)) hp6;exact k t _ (RD.same (s5.trans (s'.trans u6)) _ _ rt) (s2.trans (s05.trans (s'.trans u6)))
end
set_option maxHeartbeats 4000000
section
variable {dk:Dk}
theorem sn(h:Bp x=true):PyData.strOk x=true:=by
 unfold Bp at h;simp only[Zyy] at h;have all:=Zy5.mp h.2;have lt:∀c∈DO,c<0x110000:=by decide +kernel
 unfold PyData.strOk;rw[<- Array.all_toList];exact Zy5.mpr λc hc=>FW (lt c (FV (all c hc)))
def AI(H:Hp)(st:Addr):Prop:=∃x y:Int,H st=some (.lst [.int x,.int y])
theorem AI.same(h:AI H st)(s:AA H H'):AI H' st:=by obtain⟨x,y,e⟩:=h;exact⟨x,y,s _ _ e⟩
theorem AI.but(h:AI H a)(s:But st H H')(hs:AI H' st):AI H' a:=by
 by_cases e:a=st
 ·rw[e];exact hs
 ·obtain⟨x,y,q⟩:=h;exact⟨x,y,s _ _ e q⟩
noncomputable def V6:List V->Bool
 |.int _::_=>false
 |_=>true
theorem AI.ne(h:AI H st)(ha:H a=some (.lst xs))(n:V6 xs=true):a≠st:=λe=>by
 obtain⟨x,y,q⟩:=h;rw[e,q] at ha;cases ha;cases n
theorem AI.neT(h:AI H st)(ha:H a=some (.tup xs)):a≠st:=λe=>by
 obtain⟨x,y,q⟩:=h;rw[e,q] at ha;cases ha
theorem Td(s:But st H H')(h:AI H st):AS H H':=λa xs e=>s a _ (h.neT e) e
inductive Ib (K:Zzw) (vs:List V) (H:Hp) (Q:VK) (E:XK):Prop | mk (a:Addr) (ns:List Int) (k:Int) (_:vs=[.ref a,.int k]) (_:SqL K H a (ns.map V.int)) (_:ns.length<=63) (_:0<=k) (_:∀c,0<=c->c<10^60->Q (.int c) H)
theorem Se(F:Fun K "_law_cell_at" "_law_cell_at" M6 f fd)(T:Txt mg):B2 P w K mg base CX0 1 f fd ["_law_script", "_law_k"] (Ib K):=by
 refine F.go ["_law_script", "_law_k"] ?_ ?_ ?_;walk_at "f";obtain⟨a,ns,k,rfl,hS,hlen,k0,q⟩:=h;have hu:=Au hr;refine⟨_,(A2 (Ay (Ah (Eh hu) (pv 1) (Ai Hu rfl T.Zts Ct (A3 (pv 0) A1)) (Aj _)) (Aa (Ae (At Kw (qx ib (pv 0) (pv 1) (λ_ _=>rfl)) (At rh A6 A6)))) Ak)
 (Aa (Ae A6))),?_⟩
 walk_at "rd";refine⟨_,.inl hS,Dq (λh=>?_) (λh=>q 0 (by decide) (by decide))⟩;have h:=FV h;rw[Zzz] at h;have hk:k.toNat<ns.length:=by lia
 have e:((k.toNat:Nat):Int)=k:=by lia
 refine⟨a,_,k,.int ns[k.toNat],rfl,rfl,hS,?_,⟨by decide,by decide,by decide⟩,_,rfl,by decide +kernel,?_⟩
 ·have q:=O0 (xs:=ns.map V.int) (j:=k.toNat) (v:=V.int ns[k.toNat]) (by rw[Zzy,Zzr hk];rfl)
  rw[e] at q;exact q
 ·exact q _ (Zuj _ (by decide +kernel)) (Zvd _ (by decide +kernel))
inductive Mn (K:Zzw) (vs:List V) (H:Hp) (Q:VK) (E:XK):Prop | mk (a:Addr) (ns:List Int) (k s:Int) (_:vs=[.ref a,.int k,.int s]) (_:SqL K H a (ns.map V.int)) (_:ns.length<=63) (_:0<=k) (_:∀st H',H st=none->AI H' st->AA H H'->Q (.ref st) H')
theorem X3(F:Fun K "_law_drawn" "_law_drawn" Pj f fd)(T:Txt mg)(Ztn:Has P w K mg base "_law_cell_at" 1 ["_law_script", "_law_k"] (Ib K)):B2 P w K mg base CX0 2 f fd ["_law_script", "_law_k", "_law_salt"] (Mn K):=by
 refine F.go ["_law_script", "_law_k", "_law_salt", "_law_cell", "_law_mixed"] ?_ ?_ ?_;walk_at "f";obtain⟨a,ns,k,sa,rfl,hS,hlen,k0,q⟩:=h;have hu:=Au hr;refine⟨_,(A2 (Af (i:=3) Nd rfl (Zzt rfl) (A7 Ztn hr.z rfl (A3 (pv 0) (A3 (pv 1) A1))))
 (A2 (Af (i:=4) Nd rfl (Zzt rfl) (At Kw (At C7 (At C7 (At G5 (pv 3) A6) (At G5 A6 (At C7 (pv 1) (pv 2)))) A6) A6))
 (A2 (Ay (Ah (Bl hu) (At Kw (A7 Ztn hr.z rfl (A3 (pv 0) (A3 A6 A1))) A6) A6 (Aj _)) (Aa (Ae (Bh (A3 (At Ie (pv 3) (At C7 A6 (As Ov rfl T.Zr6 Ow (A3 (Dj (Bl hu) (pv 1) A6 (Aj _)) A1)))) (A3 (pv 4) A1))))) Ak)
 (Aa (Ae (Bh (A3 A6 (A3 (pv 4) A1)))))))),?_⟩
 walk_at "rd";refine⟨a,ns,k,rfl,hS,hlen,k0,λc c0 c1=>?_⟩;walk_at "rd";refine⟨.inl (.inr ⟨by decide,by decide⟩),.inl (.inl ⟨by decide,by decide⟩),by decide,?_⟩;refine⟨a,ns,0,rfl,hS,hlen,by decide,λd d0 d1=>?_⟩;walk_at "rd";refine⟨by decide,rfl,Dq (λ_=>?_) (λ_=>?_)⟩
 ·refine⟨rfl,?_⟩;have hj:∀b:Bool,(0:Int)<1+(if b=true then 1 else 0)/\(1+(if b=true then 1 else 0):Int)<10^200:=by decide +kernel
  exact⟨(hj _).1,(hj _).2,by decide,λp hp=>q p _ hp ⟨_,_,A0⟩ (A4 hp)⟩
 ·exact⟨by decide,λp hp=>q p _ hp ⟨_,_,A0⟩ (A4 hp)⟩
inductive BE (vs:List V) (H:Hp) (Q:VK) (E:XK):Prop | mk (st m:_) (_:vs=[.ref st,.int m]) (_:AI H st) (_:0<m) (_:m<10^200) (_:∀d H',0<=d->d<m->AI H' st->But st H H'->Q (.int d) H')
theorem Zd(F:Fun K "_law_next" "_law_next" Rq f fd)(T:Txt mg):B2 P w K mg base CX0 1 f fd ["_law_state", "_law_many"] BE:=by
 refine F.go ["_law_state", "_law_many", "_law_digit"] ?_ ?_ ?_;walk_at "f";obtain⟨st,m,rfl,⟨x,y,hs⟩,h0,hm,k⟩:=h;have hu:=Au hr;refine⟨_,(A2 (Ay (Ah S9 (A8 hu (pv 0) A6 (λ_ _=>rfl)) A6 (Aj _)) (A2 (Af (i:=2) Nd rfl (Zzt rfl) (At Kw (A8 hu (pv 0) A6 (λ_ _=>rfl)) (pv 1)))
 (A2 (Eo (At Ie (A8 hu (pv 0) A6 (λ_ _=>rfl)) (pv 1)) (Fy (pv 0) A6 Gk))
 (Aa (Ae (pv 2))))) Ak)
 (A2 (Eo (At Kw (At C7 (At G5 (A8 hu (pv 0) A6 (λ_ _=>rfl)) A6) A6) A6) (Fy (pv 0) A6 Gk))
 (Aa (Ae (At Kw (At Ie (A8 hu (pv 0) A6 (λ_ _=>rfl)) A6) (pv 1)))))),?_⟩
 walk_at "rd";have i0:Jp H (.ref st) (.int 0) (.int x):=Bq (j:=0) hs rfl;have i1:Jp H (.ref st) (.int 1) (.int y):=Bq (j:=1) hs rfl;refine⟨_,i0,_,rfl,Dq (λ_=>?_) (λ_=>?_)⟩
 ·refine⟨_,i0,_,rfl,h0,_,i0,_,rfl,h0,hm,_,hs,0,by simp[ixN],?_⟩;exact k _ _ (Zuj _ (by lia)) (Zvd _ h0) ⟨x / m,y,by rw[A0];rfl⟩ Xu
 ·refine⟨_,i1,_,rfl,.inl (.inr ⟨by decide,by decide⟩),by decide,_,hs,1,by simp[ixN],?_⟩;refine⟨_,Bq (j:=1) A0 rfl,_,rfl,by decide,by decide +kernel,h0,?_⟩;exact k _ _ (Zuj _ (by lia)) (Zvd _ h0) ⟨x,_,by rw[A0];rfl⟩ Xu
inductive CQ (vs:List V) (H:Hp) (Q:VK) (E:XK):Prop | mk (st:_) (_:vs=[.ref st]) (_:AI H st) (_:∀n H',0<=n->n<10^32->AI H' st->But st H H'->Q (.int n) H')
theorem Ty(F:Fun K "_law_amount" "_law_amount" My f fd)(T:Txt mg)(Zty:Has P w K mg base "_law_next" 1 ["_law_state", "_law_many"] BE):B2 P w K mg base CX0 2 f fd ["_law_state"] CQ:=by
 refine F.go ["_law_state", "_law_amount_here"] ?_ ?_ ?_;walk_at "f";obtain⟨st,rfl,hs,k⟩:=h;have hu:=Au hr;refine⟨_,(A2 (Af (i:=1) Nd rfl (Zzt rfl) (A7 Zty hr.z rfl (A3 (pv 0) (A3 A6 A1))))
 (A2 (Ay (Ah (Bl hu) (A7 Zty hr.z rfl (A3 (pv 0) (A3 A6 A1))) A6 (Aj _)) (Aa (Ae (At C7 (At G5 (At C7 A6 (pv 1)) (At rh A6 A6)) (A7 Zty hr.z rfl (A3 (pv 0) (A3 A6 A1)))))) Ak)
 (Aa (Ae (pv 1))))),?_⟩
 walk_at "rd";refine⟨st,10,rfl,hs,by decide,by decide +kernel,λd H1 d0 d1 s1 b1=>?_⟩;walk_at "rd";refine⟨st,8,rfl,s1,by decide,by decide +kernel,λd' H2 _ _ s2 b2=>?_⟩;walk_at "rd";have b2:=b1.trans b2;refine⟨rfl,Dq (λ_=>?_) (λ_=>k d H2 d0 (Int.lt_trans d1 (by decide)) s2 b2)⟩;refine⟨⟨by decide,by decide,by decide⟩,.inl (.inl ⟨by lia,by lia⟩),?_⟩;refine⟨st,9,rfl,s2,by decide,by decide +kernel,λe H3 e0 e1 s3 b3=>?_⟩;have q:(0:Int)<=(1+d)*10^Int.toNat 30+e/\(1+d)*10^Int.toNat 30+e<10^32:=by
  have:(10:Int)^Int.toNat 30=1000000000000000000000000000000:=by decide
  rw[this];lia
 exact⟨e,rfl,k _ H3 q.1 q.2 s3 (b2.trans b3)⟩
structure Raw where
 a:Addr
 c:Addr
 q:Addr
 w:Wr
def BM(H:Hp)(r:Raw):Prop:=H r.a=some (.lst [.str r.w.name,.int r.w.lag,.int r.w.gives,.int r.w.floor,.int r.w.stock,.ref r.c,.ref r.q])/\(∃cv,H r.c=some (.lst cv)/\RDs H (r.w.coming.map Ox) cv)/\∃pv,H r.q=some (.lst pv)/\RDs H (r.w.parts.map Ew) pv
theorem BM.mono{r:Raw}(h:BM H r)(k:∀b xs,b=r.a\/b=r.c\/b=r.q->H b=some (.lst xs)->H' b=some (.lst xs))(u:AS H H'):BM H' r:=by
 obtain⟨h1,⟨cv,h2,h3⟩,pv,h4,h5⟩:=h;exact⟨k _ _ (.inl rfl) h1,⟨cv,k _ _ (.inr (.inl rfl)) h2,RDs.ku u _ _ (D0 Ox cg _) h3⟩,pv,k _ _ (.inr (.inr rfl)) h4,RDs.ku u _ _ (D0 Ew Iw _) h5⟩
theorem Oj{xs:List (Int×Int)}{vs:List V}(h:RDs H (xs.map Ox) vs):V6 vs=true:=by
 cases xs with
 |nil=>rw[RDs.nil_of h];rfl
 |cons x r =>
  obtain⟨v,t,rfl,hv,_⟩:=RDs.cons_of h;obtain⟨a,rfl,_⟩:=Te hv;rfl
theorem Sm{xs:List (Str×Int)}{vs:List V}(h:RDs H (xs.map Ew) vs):V6 vs=true:=by
 cases xs with
 |nil=>rw[RDs.nil_of h];rfl
 |cons x r =>
  obtain⟨v,t,rfl,hv,_⟩:=RDs.cons_of h;obtain⟨a,rfl,_⟩:=Iv hv;rfl
theorem Sk{xs:List Wt}{vs:List V}(h:RDs H (xs.map Ha) vs):V6 vs=true:=by
 cases xs with
 |nil=>rw[RDs.nil_of h];rfl
 |cons x r =>
  obtain⟨v,t,rfl,hv,_⟩:=RDs.cons_of h;obtain⟨a,rfl,_⟩:=G3 hv;rfl
theorem Ih(as:List Addr):V6 (as.map V.ref)=true:=by cases as<;>rfl
theorem BM.but{r:Raw}(h:BM H r)(b:But st H H')(s:AI H st):BM H' r:=by
 refine h.mono (λx xs e hx=>b x _ ?_ hx) (Td b s);obtain⟨h1,⟨cv,h2,h3⟩,pv,h4,h5⟩:=h;rcases e with rfl | rfl | rfl
 ·exact s.ne h1 rfl
 ·exact s.ne h2 (Oj h3)
 ·exact s.ne h4 (Sm h5)
theorem N9{d:Int}{lo hi:Int}(h:H p=some (.lst (ns.map V.int)))(d0:0<=d)(d1:d<ns.length)(hb:∀n∈ns,lo<=n/\n<=hi):∃n,lo<=n/\n<=hi/\Jp H (.ref p) (.int d) (.int n):=by
 have hd:d.toNat<ns.length:=by lia
 have:=hb _ (Zwc hd);exact⟨ns[d.toNat],this.1,this.2,Ju (.inl h) d0 (by rw[Zzy,Zzr hd];rfl)⟩
structure WB(w:Wr):Prop where
 lag:0<=w.lag/\w.lag<=30
 gives:1<=w.gives/\w.gives<=100
 floor:0<=w.floor/\w.floor<=100
 stock:0<=w.stock/\w.stock<=100
 parts:w.parts.length<=6
 amts:∀p∈w.parts,1<=p.2/\p.2<=100
 nds:(w.parts.map (·.1)).Nodup
structure AT(H:Hp)(rs:List Raw):Prop where
 each:∀r∈rs,BM H r
 nd:(rs.map (·.c)).Nodup
 apart:∀r∈rs,∀r'∈rs,r.c≠r'.a/\r.c≠r'.q
theorem AT.perm{rs rs':List Raw}(h:AT H rs)(p:rs'.Perm rs):AT H rs' :=
 ⟨λr hr=>h.each r (p.mem_iff.mp hr),(p.map _).nodup_iff.mpr h.nd,λr hr r' hr'=>h.apart r (p.mem_iff.mp hr) r' (p.mem_iff.mp hr')⟩
def Kth(Pn:List Str)(m:Nat)(i:Nat)(w:Wr):Prop:=Pn[i]?=some w.name/\WB w/\∀p∈w.parts,∃j,i<j/\j<m/\Pn[j]?=some p.1
structure CA(ws:List Wr):Prop where
 nd:(ws.map (·.name)).Nodup
 wb:∀w∈ws,WB w
 txt:∀w∈ws,Bp w.name=true/\w.name ≠ "short"
 own:∀w∈ws,∀p∈w.parts,p.1∈ws.map (·.name)
 low:∃r:Str->Nat,(∀w∈ws,r w.name<ws.length)/\∀w∈ws,∀p∈w.parts,r p.1<r w.name
theorem CA.perm{ws':List Wr}(h:CA ws)(p:ws'.Perm ws):CA ws':=by
 refine⟨(p.map _).nodup_iff.mpr h.nd,λw hw=>h.wb w (p.mem_iff.mp hw),λw hw=>h.txt w (p.mem_iff.mp hw),λw hw q hq=>(p.map _).mem_iff.mpr (h.own w (p.mem_iff.mp hw) q hq),?_⟩;obtain⟨r,h1,h2⟩:=h.low;exact⟨r,λw hw=>by rw[p.length_eq];exact h1 w (p.mem_iff.mp hw),λw hw=>h2 w (p.mem_iff.mp hw)⟩
theorem Xn(nd:Pn.Nodup)(h:Pn[i]?=some x):Pn.idxOf x=i:=by
 obtain⟨hi,rfl⟩:=Zze.mp h;exact nd.idxOf_getElem i hi
theorem A21(nd:Pn.Nodup)(hs:∀x∈Pn,Bp x=true/\x ≠ "short")(h:∀(i:Nat) (w:Wr),ws[i]?=some w->Kth Pn ws.length i w)(hm:ws.length<=Pn.length):CA ws:=by
 have en:ws.map (·.name)=Pn.take ws.length:=by
  apply Zxf;intro i;rw[Zzy,Zxd];by_cases hi:i<ws.length
  ·rw[FZ hi,Zzr hi];exact(h i _ (Zzr hi)).1.symm
  ·rw[FY hi,Zyt (by lia)];rfl
 have at':∀w∈ws,∃i,i<ws.length/\Kth Pn ws.length i w:=λw hw=>by
  obtain⟨i,hi,e⟩:=Zy2.mp hw;exact⟨i,hi,h i w (by rw[Zzr hi,e])⟩
 refine⟨by rw[en];exact(List.take_sublist _ _).nodup nd,λw hw=>?_,λw hw=>?_,λw hw p hp=>?_,λx=>ws.length - 1 - Pn.idxOf x,λw hw=>?_,λw hw p hp=>?_⟩
 ·obtain⟨i,_,k⟩:=at' w hw;exact k.2.1
 ·obtain⟨i,_,k⟩:=at' w hw;exact hs _ (Zzu k.1)
 ·obtain⟨i,_,k⟩:=at' w hw;obtain⟨j,h1,h2,h3⟩:=k.2.2 p hp;rw[en];refine Zzu (i:=j) ?_;rw[Zxd,FZ h2];exact h3
 ·obtain⟨i,hi,k⟩:=at' w hw;show ws.length - 1 - Pn.idxOf w.name<ws.length;lia
 ·obtain⟨i,hi,k⟩:=at' w hw;obtain⟨j,h1,h2,h3⟩:=k.2.2 p hp;show ws.length - 1 - Pn.idxOf p.1<ws.length - 1 - Pn.idxOf w.name;rw[Xn nd k.1,Xn nd h3];lia
theorem j7(h:CA S.wares):K4 S:=by
 obtain⟨r,h1,h2⟩:=h.low;refine ad (r:=r) (λe he x hx=>?_) (λe he=>?_)
 ·obtain⟨w,hw,rfl⟩:=Zzv.mp he;obtain⟨p,hp,rfl⟩:=Zzv.mp hx;exact h2 w hw p hp
 ·obtain⟨w,hw,rfl⟩:=Zzv.mp he;exact h1 w hw
end
set_option maxHeartbeats 4000000
section
variable {dk:Dk}
theorem AT.but{rs:List Raw}(h:AT H rs)(b:But st H H')(s:AI H st):AT H' rs:=⟨λr hr=>(h.each r hr).but b s,h.nd,h.apart⟩
theorem AT.same{rs:List Raw}(h:AT H rs)(s:AA H H'):AT H' rs:=⟨λr hr=>(h.each r hr).mono (λb xs _ e=>s b _ e) s.ku,h.nd,h.apart⟩
noncomputable def AV:List Str:=["a", "ab", "b", "ba", "c", "frame", "nut", "wheel", "aab", "rimaxles", "tt", "bolt"]
theorem xu:AV.Nodup:=by decide +kernel
theorem xt:∀x∈AV,Bp x=true/\x ≠ "short" := by decide +kernel
structure A2y(Pn:List Str):Prop where
 nd:Pn.Nodup
 len:Pn.length=AV.length
 txt:∀x∈Pn,Bp x=true/\x ≠ "short"
theorem A0s(c:Nat):A2y (AV.drop c++AV.take c):=by
 have p:(AV.drop c++AV.take c).Perm AV:=by
  refine List.perm_append_comm.trans ?_;rw[Zwm]
 exact⟨p.nodup_iff.mpr xu,p.length_eq,λx hx=>xt x (p.mem_iff.mp hx)⟩
inductive j4 (st pl wl:Addr) (m:Nat) (c:Int) (Pn:List Str) (H:Hp) (i:Nat) (Z:St) (H':Hp):Prop | mk (rs:List Raw) (o1 o2 o3 o4 o5 o6 o7 o8:Option V) (_:Z=[some (.ref st),some (.int m),some (.ref pl),some (.int c),some (.ref wl),o1,o2,o3,o4,o5,o6,o7,o8]) (_:rs.length=i) (_:H' wl=some (.lst ((rs.map (·.a)).map V.ref))) (_:H' pl=some (.lst (Pn.map V.str))) (_:AT H' rs) (_:(∀j r,rs[j]?=some r->Kth Pn m j r.w/\r.w.coming=[]/\H r.a=none/\H r.c=none/\H r.q=none/\r.a≠wl/\r.c≠wl/\r.q≠wl)) (_:AI H' st) (_:But st H H')
def BN(st pl wl:Addr)(Pn:List Str)(rs:List Raw)(H Hx:Hp):Prop:=Hx wl=some (.lst ((rs.map (·.a)).map V.ref))/\Hx pl=some (.lst (Pn.map V.str))/\AT Hx rs/\AI Hx st/\But st H Hx
theorem BN.same{pl:Addr}{rs:List Raw}(h:BN st pl wl Pn rs H Hx)(s:AA Hx H'):BN st pl wl Pn rs H H' :=
 ⟨s _ _ h.1,s _ _ h.2.1,h.2.2.1.same s,h.2.2.2.1.same s,h.2.2.2.2.same s⟩
theorem Sl(xs:List Str):V6 (xs.map V.str)=true:=by cases xs<;>rfl
theorem BN.nx{pl:Addr}{rs:List Raw}(h:BN st pl wl Pn rs H Hx)(s:AI H' st)(b:But st Hx H'):BN st pl wl Pn rs H H' :=
 ⟨b _ _ (h.2.2.2.1.ne h.1 (Ih _)) h.1,b _ _ (h.2.2.2.1.ne h.2.1 (Sl _)) h.2.1,h.2.2.1.but b h.2.2.2.1,s,h.2.2.2.2.trans b⟩
theorem BN.ne{pl:Addr}{rs:List Raw}(h:BN st pl wl Pn rs H Hx)(hp:Hx p=none):p≠st:=λe=>by
 obtain⟨x,y,q⟩:=h.2.2.2.1;rw[e,q] at hp;cases hp
theorem BM.ne{r:Raw}(h:BM H r)(s:AI H st)(e:b=r.a\/b=r.c\/b=r.q):b≠st:=by
 obtain⟨h1,⟨cv,h2,h3⟩,pv,h4,h5⟩:=h;rcases e with rfl | rfl | rfl
 ·exact s.ne h1 rfl
 ·exact s.ne h2 (Oj h3)
 ·exact s.ne h4 (Sm h5)
theorem BM.fresh{r:Raw}(h:BM H r)(hp:H p=none)(e:b=r.a\/b=r.c\/b=r.q):b≠p:=by
 obtain⟨h1,⟨cv,h2,h3⟩,pv,h4,h5⟩:=h;rcases e with rfl | rfl | rfl
 ·exact A5 h1 hp
 ·exact A5 h2 hp
 ·exact A5 h4 hp
inductive Y2 (st pl wl pa:Addr) (m:Nat) (k:Nat) (c:Int) (lag fl sk:Int) (Pn:List Str) (H1:Hp) (i:Nat) (Z:St) (H':Hp):Prop | mk (ps:List (Str×Int)) (pv:List V) (o6 o7 o8:Option V) (_:Z=[some (.ref st),some (.int m),some (.ref pl),some (.int c),some (.ref wl),some (.int k),some (.int lag),some (.int fl),some (.int sk),some (.ref pa),o6,o7,o8]) (_:H' pa=some (.lst pv)) (_:RDs H' (ps.map Ew) pv) (_:ps.length<=min i 6) (_:(∀p∈ps,1<=p.2/\p.2<=100)) (_:(∀p∈ps,∃j,k<j/\j<k+1+i/\Pn[j]?=some p.1)) (_:(ps.map (·.1)).Nodup) (_:AI H' st) (_:(∀b o,b≠st->b≠pa->H1 b=some o->H' b=some o))
inductive DG (vs:List V) (H:Hp) (Q:VK) (E:XK):Prop | mk (st:Addr) (m:Nat) (_:vs=[.ref st,.int m]) (_:AI H st) (_:1<=m) (_:m<=AV.length) (_:∀l (rs:List Raw) H',H l=none->H' l=some (.lst ((rs.map (·.a)).map V.ref))->rs.length=m->AT H' rs->CA (rs.map (·.w))->(∀r∈rs,r.w.coming=[]/\H r.a=none/\H r.c=none/\H r.q=none/\r.c≠l)->AI H' st->But st H H'->Q (.ref l) H')
theorem Wx(F:Fun K "_law_wares" "_law_wares" Pe f fd)(T:Txt mg)(Zty:Has P w K mg base "_law_next" 1 ["_law_state", "_law_many"] BE):B2 P w K mg base CX0 2 f fd ["_law_state", "_law_many"] DG:=by
 refine F.go ["_law_state", "_law_many", "_law_pool", "_law_cut", "_law_wares_here", "_law_k", "_law_lag", "_law_floor", "_law_stock", "_law_parts", "_law_j", "_law_amount_here", "_law_spot"] ?_ ?_ ?_;walk_at "f";obtain⟨st,m,rfl,hs,m1,m8,k⟩:=h;have hp8:AV.length=12:=rfl;have m200:(m:Int)<10^200:=Zxs (b:=12) (by lia) (by decide +kernel);have hu:=Au hr;refine⟨_,(A2 (Af (i:=2) Nd rfl (Zzt rfl) (Bh (A3 Am (A3 Am (A3 Am (A3 Am (A3 Am (A3 Am (A3 Am (A3 Am (A3 Am (A3 Am (A3 Am (A3 Am A1))))))))))))))
 (A2 (Af (i:=3) Nd rfl (Zzt rfl) (A7 Zty hr.z rfl (A3 (pv 0) (A3 A6 A1))))
 (A2 (Af (i:=2) Nd rfl (Zzt rfl) (At Ig (Co Ek (pv 2) (Dh (pv 3)) Di) (Co Ek (pv 2) Di (Dh (pv 3)))))
 (A2 (Af (i:=4) Nd rfl (Zzt rfl) (Bh A1))
 (A2 (Bk PassesOwn.never rfl (Cl rfl T.Zth (A3 (pv 1) A1)) (Ac (i:=5) Nd rfl (Zzt rfl))
 (A2 (Af (i:=6) Nd rfl (Zzt rfl) (A8 hu (Bh (A3 A6 (A3 A6 (A3 A6 (A3 A6 (A3 A6 (A3 A6 A1))))))) (A7 Zty hr.z rfl (A3 (pv 0) (A3 A6 A1))) (λ_ _=>rfl)))
 (A2 (Af (i:=7) Nd rfl (Zzt rfl) (A8 hu (Bh (A3 A6 (A3 A6 (A3 A6 (A3 A6 (A3 A6 (A3 A6 A1))))))) (A7 Zty hr.z rfl (A3 (pv 0) (A3 A6 A1))) (λ_ _=>rfl)))
 (A2 (Af (i:=8) Nd rfl (Zzt rfl) (A8 hu (Bh (A3 A6 (A3 (pv 7) (A3 (At C7 (pv 7) (A7 Zty hr.z rfl (A3 (pv 0) (A3 A6 A1)))) (A3 (At G5 (pv 7) A6) A1))))) (A7 Zty hr.z rfl (A3 (pv 0) (A3 A6 A1))) (λ_ _=>rfl)))
 (A2 (Af (i:=9) Nd rfl (Zzt rfl) (Bh A1))
 (A2 (Bk PassesOwn.never rfl (S4 rfl T.Zth (A3 (At C7 (pv 5) A6) (A3 (pv 1) A1))) (Ac (i:=10) Nd rfl (Zzt rfl))
 (A2 (Af (i:=11) Nd rfl (Zzt rfl) (Ai (Ou rfl) rfl T.Zrv Me (A3 A6 (A3 (At S7 (A7 Zty hr.z rfl (A3 (pv 0) (A3 A6 A1))) A6) A1))))
 (Aa (Ay (PW.pt (J7 (Ah S9 (pv 11) A6 (Aj _)) (J7 (Ah (Eh hu) (Ai Bs rfl T.Zts Ct (A3 (pv 9) A1)) A6 (Aj _)) (He (PW.pt (Fg (Ah (Eh hu) (pv 1) A6 (Aj _)) (En (Ah (Bl hu) (A7 Zty hr.z rfl (A3 (pv 0) (A3 A6 A1))) A6 (Aj _))))))))) (Aa (C5 (Cf Zz5 Zyn Zym Ck (pv 9) (A3 (Cz (A3 (A8 hu (pv 2) (pv 10) (λ_ _=>rfl)) (A3 (pv 11) A1))) A1)))) Ak))))
 (Aa (C5 (Cf Zz5 Zyn Zym Ck (pv 4) (A3 (Bh (A3 (A8 hu (pv 2) (pv 5) (λ_ _=>rfl)) (A3 (pv 6) (A3 (At C7 A6 (A7 Zty hr.z rfl (A3 (pv 0) (A3 A6 A1)))) (A3 (pv 7) (A3 (pv 8) (A3 (Bh A1) (A3 (pv 9) A1)))))))) A1))))))))))
 (A2 (Af (i:=12) Nd rfl (Zzt rfl) (A7 Zty hr.z rfl (A3 (pv 0) (A3 (pv 1) A1))))
 (Aa (Ae (At Ig (Co Ek (pv 4) (Dh (pv 12)) Di) (y6 rfl rfl T.Zqw rfl T.Zr0 (Co Ek (pv 4) Di (Dh (pv 12))))))))))))),?_⟩
 refine cut3 (λZ' H'=>∃(pl:Addr) (c:Int) (Pn:List Str),Z'=[some (.ref st),some (.int m),some (.ref pl),some (.int c),none,none,none,none,none,none,none,none,none]/\H' pl=some (.lst (Pn.map V.str))/\A2y Pn/\H pl=none/\AI H' st/\But st H H') ?_ (λKK hK=>?_)
 ·rintro Z' H1 ⟨pl,c,Pn,rfl,hpl,pn,fpl,s1,b1⟩;refine zh (λZ' H'=>∃wl:Addr,j4 st pl wl m c Pn H m Z' H'/\H wl=none) ?_ (λKK hK=>?_)
  ·rintro Z' H2 ⟨wl,⟨rs,o1,o2,o3,o4,o5,o6,o7,o8,rfl,hrs,hwl,hpl2,raws,each,s2,b2⟩,fwl⟩;walk_at "rd";refine⟨st,m,rfl,s2,by lia,m200,λd H3 d0 d1 s3 b3=>?_⟩;have hwl3:=b3 wl _ (s2.ne hwl (Ih _)) hwl;refine⟨d,rfl,_,hwl3,λp hp=>⟨d,rfl,_,by rw[Ab (A5 hwl3 hp)];exact hwl3,λp1 hp1=>⟨_,A0,λp2 hp2=>⟨E7 ((rs.map (·.a)).map V.ref) (some d) none,?_,_,A0,?_,λp3 hp3=>?_⟩⟩⟩⟩
   ·have n1:p≠p1:=A5 A0 hp1
    have e1:upd (upd H3 p (.lst (E7 ((rs.map (·.a)).map V.ref) (some d) none))) p1 (.lst (E7 ((rs.map (·.a)).map V.ref) none (some d))) p=some (.lst (E7 ((rs.map (·.a)).map V.ref) (some d) none)):=by rw[Ab n1,A0]
    rw[Ab (A5 e1 hp2)];exact e1
   ·rw[D7 d0,Nx d0,Zw9,Zxr,Zz7,Zzz,Zzz];exact Ag (by lia)
   ·have t1:=A4 (o:=.lst (E7 ((rs.map (·.a)).map V.ref) (some d) none)) hp
    have t2:=t1.trans (A4 (o:=.lst (E7 ((rs.map (·.a)).map V.ref) none (some d))) hp1);have t3:=t2.trans (A4 (o:=.lst (E7 ((rs.map (·.a)).map V.ref) none (some d)).reverse) hp2);have t4:=t3.trans (A4 (o:=.lst (E7 ((rs.map (·.a)).map V.ref) (some d) none++(E7 ((rs.map (·.a)).map V.ref) none (some d)).reverse)) hp3);have pm:(rs.drop d.toNat++(rs.take d.toNat).reverse).Perm rs:=by
     refine((List.Perm.refl _).append (List.reverse_perm _)).trans (List.perm_append_comm.trans ?_);rw[Zwm]
    have raws3:AT H3 rs:=raws.but b3 s2;have f3:H3 p3=none:=AA.free t3 hp3;refine k p3 (rs.drop d.toNat++(rs.take d.toNat).reverse) _ ?_ ?_ (by rw[pm.length_eq];exact hrs) ((raws3.same t4).perm pm) ?_ (λr hr=>?_) (s3.same t4) ((b2.trans b3).same t4)
    ·refine(b2.trans b3).none (λe=>?_) f3;obtain⟨x,y,q⟩:=s3;rw[<- e,f3] at q;cases q
    ·rw[A0,D7 d0,Nx d0,Zzo,Zzo,<- Zu1,<- Zu1,List.map_reverse,List.map_reverse,<- Zu0,<- Zu0]
    ·rw[Zzo,<- Zzo];refine CA.perm (ws:=rs.map (·.w)) (A21 pn.nd pn.txt (λj w hw=>?_) (by rw[Zzz,pn.len];lia)) (pm.map _);rw[Zzy] at hw;cases er:rs[j]? with
     |none=>rw[er] at hw;cases hw
     |some r =>
      rw[er] at hw;cases hw;rw[Zzz,hrs];exact(each j r er).1
    ·have hr':=pm.mem_iff.mp hr
     obtain⟨j,hj,e⟩:=Zy2.mp hr';obtain⟨_,e1,e2,e3,e4,_⟩:=each j r (by rw[Zzr hj,e]);obtain⟨_,⟨cv,hc,_⟩,_⟩:=raws3.each r hr';exact⟨e1,e2,e3,e4,A5 (t3 _ _ hc) hp3⟩
  ·walk_at "rd";refine⟨Zyz _,λwl hwl=>⟨by lia,by lia,?_⟩⟩;have nwp:pl≠wl:=A5 hpl hwl;have nws:st≠wl:=λe=>by obtain⟨x,y,q⟩:=s1;rw[e,hwl] at q;cases q
   have fwl:H wl=none:=b1.none (Zzi nws) hwl;have em:((m:Nat):Int).toNat=m:=by lia
   rw[em];refine Cp (J4 0 _) (j4 st pl wl m c Pn H) ⟨[],_,_,_,_,_,_,_,_,rfl,rfl,A0,by rw[Ab nwp];exact hpl,⟨(λ_ h=>nomatch h),Zwy,(λ_ h=>nomatch h)⟩,(λ_ _ h=>nomatch h),?_,b1.new hwl⟩ (λ_ _ _ _ _=>trivial) (λi x Z H2 hi hx h=>?_) (λZ H2 h=>?_)
   ·obtain⟨x,y,q⟩:=s1;exact⟨x,y,by rw[Ab nws];exact q⟩
   ·obtain⟨rs,o1,o2,o3,o4,o5,o6,o7,o8,rfl,hrs,hwl2,hpl2,raws,each,s2,b2⟩:=h;subst hx;have ei:(0:Int)+(i:Int)=i:=Zuk _;rw[ei];have B0:BN st pl wl Pn rs H H2:=⟨hwl2,hpl2,raws,s2,b2⟩;walk_at "rd";refine⟨by decide,λp1 hp1=>?_⟩;have n1:=B0.ne hp1;have B1:=B0.same (A4 (o:=.lst [V.int 0,V.int 0,V.int 1,V.int 1,V.int 2,V.int 3]) hp1);refine⟨st,6,rfl,B1.2.2.2.1,by decide,by decide +kernel,λd1 H3 d10 d11 s3 b3=>?_⟩;have B3:=B1.nx s3 b3;obtain⟨lag,lag0,lag1,it1⟩:=N9 (ns:=[0,0,1,1,2,3]) (lo:=0) (hi:=30) (b3 p1 _ n1 A0) d10 (by simpa using d11) (by decide);refine⟨_,it1,by decide,λp2 hp2=>?_⟩;have n2:=B3.ne hp2;have B4:=B3.same (A4 (o:=.lst [V.int 0,V.int 0,V.int 0,V.int 1,V.int 2,V.int 5]) hp2);refine⟨st,6,rfl,B4.2.2.2.1,by decide,by decide +kernel,λd2 H5 d20 d21 s5 b5=>?_⟩;have B5:=B4.nx s5 b5;obtain⟨fl,fl0,fl1,it2⟩:=N9 (ns:=[0,0,0,1,2,5]) (lo:=0) (hi:=5) (b5 p2 _ n2 A0) d20 (by simpa using d21) (by decide);refine⟨_,it2,st,10,rfl,s5,by decide,by decide +kernel,λd3 H6 d30 d31 s6 b6=>?_⟩;have B6:=B5.nx s6 b6;refine⟨fl,rfl,d3,rfl,fl,rfl,.inl (.inr ⟨by decide,by decide⟩),by decide,λp3 hp3=>?_⟩;have n3:=B6.ne hp3;have B7:=B6.same (A4 (o:=.lst [V.int 0,V.int fl,V.int (fl+d3),V.int (fl*3)]) hp3);refine⟨st,4,rfl,B7.2.2.2.1,by decide,by decide +kernel,λd4 H8 d40 d41 s8 b8=>?_⟩;have B8:=B7.nx s8 b8;obtain⟨sk,sk0,sk1,it3⟩:=N9 (ns:=[0,fl,fl+d3,fl*3]) (lo:=0) (hi:=100) (b8 p3 _ n3 A0) d40 (by simpa using d41) (by
     intro n hn
     simp only[Zzs,Zzk,or_false] at hn
     rcases hn with rfl | rfl | rfl | rfl<;>lia)
    refine⟨_,it3,by decide,λpa hpa=>⟨by lia,by lia,by lia,by lia,?_⟩⟩;have npa:=B8.ne hpa;have B9:=B8.same (A4 (o:=.lst []) hpa);have fpa:H pa=none:=B8.2.2.2.2.none npa hpa;have nwp':wl≠pa:=A5 B8.1 hpa;have npp':pl≠pa:=A5 B8.2.1 hpa;have napart:∀r∈rs,r.a≠pa/\r.c≠pa/\r.q≠pa:=λr hr=>by
     obtain⟨h1,⟨cv,h2,_⟩,pv,h4,_⟩:=B8.2.2.1.each r hr;exact⟨A5 h1 hpa,A5 h2 hpa,A5 h4 hpa⟩
    have lift:∀Hx:Hp,AI Hx st->(∀b o,b≠st->b≠pa->upd H8 pa (.lst []) b=some o->Hx b=some o)->BN st pl wl Pn rs H Hx:=λHx sx kx=>by
     obtain⟨c1,c2,c3,c4,c5⟩:=B9;refine⟨kx _ _ (c4.ne c1 (Ih _)) nwp' c1,kx _ _ (c4.ne c2 (Sl _)) npp' c2,⟨λr hr=>(c3.each r hr).mono (λb xs e hb=>kx b _ ((c3.each r hr).ne c4 e) ?_ hb) (λa xs h=>kx a _ (c4.neT h) (λe=>?_) h),c3.nd,c3.apart⟩,sx,λb o nb hb=>kx b o nb (A5 hb fpa) (c5 b o nb hb)⟩
     ·obtain⟨w1,w2,w3⟩:=napart r hr;rcases e with rfl | rfl | rfl
      ·exact w1
      ·exact w2
      ·exact w3
     ·rw[e,A0] at h;cases h
    have er:((m:Int) - ((i:Int)+1)).toNat=m - (i+1):=by lia
    rw[er];refine Cp (J4 _ _) (Y2 st pl wl pa m i c lag fl sk Pn (upd H8 pa (.lst []))) ⟨[],[],_,_,_,rfl,A0,RDs.nil,Zyz _,(λ_ h=>nomatch h),(λ_ h=>nomatch h),Zwy,B9.2.2.2.1,λb o _ _ h=>h⟩ (λ_ _ _ _ _=>trivial) (λt x Z Hx ht hx h=>?_) (λZ Hx h=>?_)
    ·obtain⟨ps,pv,o6,o7,o8,rfl,hpv,rpv,lps,amts,own,ndp,sx,kx⟩:=h;subst hx;have Bx:=lift Hx sx kx;have hj:i+1+t<Pn.length:=by rw[pn.len];lia
     have hjn:Pn[i+1+t]?=some Pn[i+1+t]:=Zzr hj;walk_at "rd";refine⟨st,6,rfl,sx,by decide,by decide +kernel,λd Hy e0 e1 sy by'=>⟨d,rfl,?_⟩⟩;have By:=Bx.nx sy by'
     have hpv':=by' pa _ npa hpv
     have rpv':=RDs.ku (Td by' sx) _ _ (D0 Ew Iw _) rpv;have ky:∀b o,b≠st->b≠pa->upd H8 pa (.lst []) b=some o->Hy b=some o:=λb o n1 n2 h=>by' b o n1 (kx b o n1 n2 h)
     generalize hq:(if d - 2 > 0 then d - 2 else 0)=am;have am1:am<=3:=by rw[<- hq];split<;>lia
     have app:∀Hz:Hp,BN st pl wl Pn rs H Hz->Hz pa=some (.lst pv)->RDs Hz (ps.map Ew) pv->AI Hz st->(∀b o,b≠st->b≠pa->upd H8 pa (.lst []) b=some o->Hz b=some o)->0<am->pv.length<6->(Oa Hz (V.ref pa)=some "list" /\ ∃v,Jp Hz (V.ref pl) (V.int ((i:Int)+1+(t:Int))) v/\2<=sizeLine /\
       ∀p,Hz p=none->∃x,upd Hz p (HO.tup [v,V.int am]) pa=some (HO.lst x)/\x.length<sizeLine/\Y2 st pl wl pa m i c lag fl sk Pn (upd H8 pa (HO.lst [])) (t+1)
        [some (V.ref st),some (V.int (m:Int)),some (V.ref pl),some (V.int c),some (V.ref wl),some (V.int (i:Int)),some (V.int lag),some (V.int fl),some (V.int sk),some (V.ref pa),some (V.int ((i:Int)+1+(t:Int))),some (V.int am),o8] (upd (upd Hz p (HO.tup [v,V.int am])) pa (HO.lst (x++[V.ref p])))):=λHz Bz hpz rpz sz' kz hz h6=>by
      have hrl:=RDs.len rpz;rw[Zzz] at hrl;refine⟨Ds hpz,.str Pn[i+1+t],Ju (.inl Bz.2.1) (by lia) ?_,by decide,λt' ht'=>⟨pv,by rw[Ab (A5 hpz ht')];exact hpz,?_,?_⟩⟩
      ·have:((i:Int)+1+(t:Int)).toNat=i+1+t:=by lia
       rw[this,Zzy,hjn];rfl
      ·have:=RDs.len rpv
       rw[Zzz] at this;exact Zz0 (m:=1000) (by lia) (by decide)
      ·have u1:AS Hz (upd Hz t' (.tup [.str Pn[i+1+t],.int am])):=A14 ht'
       have h1:upd Hz t' (.tup [.str Pn[i+1+t],.int am]) pa=some (.lst pv):=by rw[Ab (A5 hpz ht')];exact hpz
       have u2:AS Hz (upd (upd Hz t' (.tup [.str Pn[i+1+t],.int am])) pa (.lst (pv++[.ref t']))):=u1.trans (Xk h1 (λ_ z=>by cases z));have ntp:t'≠pa:=λe=>by rw[e,hpz] at ht';cases ht'
       have nts:t'≠st:=Bz.ne ht';refine⟨ps++[(Pn[i+1+t],am)],pv++[.ref t'],_,_,_,rfl,A0,?_,by simp;lia,λp hp=>?_,λp hp=>?_,?_,?_,λb o n1 n2 h=>?_⟩
       ·rw[Zzo];refine RDs.app (RDs.ku u2 _ _ (D0 Ew Iw _) rpz) (RDs.one ?_);exact RD.tup_mk (by rw[Ab ntp,A0]) (RDs.cons RD.str_mk (RDs.one RD.int_mk))
       ·rcases Zz4.mp hp with z | z
        ·exact amts p z
        ·rw[Zzc.mp z];exact⟨by lia,by lia⟩
       ·rcases Zz4.mp hp with z | z
        ·obtain⟨j,j1,j2,j3⟩:=own p z;exact⟨j,j1,by lia,j3⟩
        ·rw[Zzc.mp z];exact⟨i+1+t,by lia,by lia,hjn⟩
       ·rw[Zzo];refine Zv1.mpr ⟨ndp,by simp,λx hx y hy e=>?_⟩;have ey:y=Pn[i+1+t]:=by simpa using hy
        obtain⟨p,hp,rfl⟩:=Zzv.mp hx;obtain⟨j,j1,j2,j3⟩:=own p hp;have:=Xn pn.nd j3;rw[e,ey,Xn pn.nd hjn] at this;lia
       ·obtain⟨x,y,q⟩:=sz';exact⟨x,y,by rw[Ab (Zzi npa),Ab (Zzi nts)];exact q⟩
       ·have:=kz b o n1 n2 h
        rw[Ab n2,Ab (A5 this ht')];exact this
     have skip:∀Hz:Hp,Hz pa=some (.lst pv)->RDs Hz (ps.map Ew) pv->AI Hz st->(∀b o,b≠st->b≠pa->upd H8 pa (.lst []) b=some o->Hz b=some o)->Y2 st pl wl pa m i c lag fl sk Pn (upd H8 pa (HO.lst [])) (t+1) [some (V.ref st),some (V.int (m:Int)),some (V.ref pl),some (V.int c),some (V.ref wl),some (V.int (i:Int)),some (V.int lag),some (V.int fl),some (V.int sk),some (V.ref pa),some (V.int ((i:Int)+1+(t:Int))),some (V.int am),o8] Hz:=λHz hpz rpz sz' kz =>
      ⟨ps,pv,_,_,_,rfl,hpz,rpz,by lia,amts,λp hp=>by obtain⟨j,j1,j2,j3⟩:=own p hp;exact⟨j,j1,by lia,j3⟩,ndp,sz',kz⟩
     refine Dq (λhz=>?_) (λ_=>skip Hy hpv' rpv' sy ky);have hz:=FV hz;refine⟨pv,.inl hpv',Dq (λh6=>?_) (λ_=>skip Hy hpv' rpv' sy ky)⟩;have h6:=FV h6;refine Dq (λ_=>app Hy By hpv' rpv' sy ky hz (by lia)) (λ_=>?_);refine⟨st,3,rfl,sy,by decide,by decide +kernel,λd' Hz _ _ sz' bz=>⟨rfl,?_⟩⟩;have hpz:=bz pa _ npa hpv';have rpz:=RDs.ku (Td bz sy) _ _ (D0 Ew Iw _) rpv';have kz:∀b o,b≠st->b≠pa->upd H8 pa (.lst []) b=some o->Hz b=some o:=λb o n1 n2 h=>bz b o n1 (ky b o n1 n2 h);exact Dq (λ_=>app Hz (By.nx sz' bz) hpz rpz sz' kz hz (by lia)) (λ_=>skip Hz hpz rpz sz' kz)
    ·obtain⟨ps,pv,o6,o7,o8,rfl,hpv,rpv,lps,amts,own,ndp,sx,kx⟩:=h;have Bx:=lift Hx sx kx;have hil:i<Pn.length:=by rw[pn.len];lia
     obtain⟨nm,hin⟩:∃x,Pn[i]?=some x:=⟨_,Zzr hil⟩;walk_at "rd";refine⟨Ds Bx.1,.str nm,Bq (j:=i) Bx.2.1 (by rw[Zzy,hin];rfl),st,5,rfl,sx,by decide,by decide +kernel,λx Hy x0 x1 sy by'=>⟨x,rfl,Zyz _,λcc hcc=>⟨by decide,λaa haa=>?_⟩⟩⟩;have By:=Bx.nx sy by'
     have hpv':=by' pa _ npa hpv
     have rpv':=RDs.ku (Td by' sx) _ _ (D0 Ew Iw _) rpv;have fcs:cc≠st:=By.ne hcc;have nca:cc≠aa:=A5 A0 haa;have haaY:Hy aa=none:=by rw[Ab (Zzi nca)] at haa;exact haa
     have fas:aa≠st:=By.ne haaY;have nwc:wl≠cc:=A5 By.1 hcc;have nwa:wl≠aa:=A5 By.1 haaY;have npc:pa≠cc:=A5 hpv' hcc;have npaa:pa≠aa:=A5 hpv' haaY;have fcH:H cc=none:=By.2.2.2.2.none fcs hcc;have faH:H aa=none:=By.2.2.2.2.none fas haaY;refine⟨(rs.map (·.a)).map V.ref,by rw[Ab nwa,Ab nwc];exact By.1,?_,?_⟩
     ·rw[Zzz,Zzz];exact Zz0 (m:=1000) (by lia) (by decide)
     ·generalize hR:(HO.lst [V.str nm,V.int lag,V.int (1+x),V.int fl,V.int sk,V.ref cc,V.ref pa])=oR;have kf:∀b o,b≠wl->Hy b=some o->upd (upd (upd Hy cc (.lst [])) aa oR) wl (.lst ((rs.map (·.a)).map V.ref++[.ref aa])) b=some o:=λb o n h=>by
       rw[Ab n,Ab (A5 h haaY),Ab (A5 h hcc)];exact h
      have uf:AS Hy (upd (upd (upd Hy cc (.lst [])) aa oR) wl (.lst ((rs.map (·.a)).map V.ref++[.ref aa]))):=λa xs h=>kf a _ (λe=>by rw[e,By.1] at h;cases h) h;have oldne:∀r∈rs,(r.a≠wl/\r.c≠wl/\r.q≠wl):=λr hr=>by
       obtain⟨j,hj,e⟩:=Zy2.mp hr;exact(each j r (by rw[Zzr hj,e])).2.2.2.2.2
      refine⟨rs++[⟨aa,cc,pa,⟨nm,lag,1+x,fl,sk,[],ps⟩⟩],_,_,_,_,_,_,_,_,rfl,by simp[hrs],?_,kf _ _ (λe=>?_) By.2.1,⟨λr hr=>?_,?_,λr hr r' hr'=>?_⟩,λj r hj=>?_,?_,λb o nb hb=>?_⟩
      ·rw[A0,Zzo,Zzo];rfl
      ·rw[e] at hpl2;have:=By.2.1;rw[e,By.1] at this;have z:=congrArg (λo=>match o with | some (HO.lst (V.str _::_))=>true | _=>false) this;cases hP:Pn with
       |nil=>have:=pn.len;rw[hP] at this;cases this
       |cons y r=>rw[hP] at z;cases rs<;>cases z
      ·rcases Zz4.mp hr with z | z
       ·refine(By.2.2.1.each r z).mono (λb xs e hb=>kf b _ ?_ hb) uf;obtain⟨w1,w2,w3⟩:=oldne r z;rcases e with rfl | rfl | rfl
        ·exact w1
        ·exact w2
        ·exact w3
       ·have e:r=_:=Zzc.mp z
        subst e;refine⟨?_,⟨[],?_,RDs.nil⟩,pv,kf _ _ (Zzi nwp') hpv',RDs.ku uf _ _ (D0 Ew Iw _) rpv'⟩
        ·rw[Ab (Zzi nwa),A0,<- hR]
        ·rw[Ab (Zzi nwc),Ab nca,A0]
      ·rw[Zzo];refine Zv1.mpr ⟨By.2.2.1.nd,by simp,λx hx y hy e=>?_⟩;have ey:y=cc:=by simpa using hy
       obtain⟨r,hr,rfl⟩:=Zzv.mp hx;exact(By.2.2.1.each r hr).fresh hcc (.inr (.inl rfl)) (e.trans ey)
      ·rcases Zz4.mp hr with z | z<;>rcases Zz4.mp hr' with z' | z'
       ·exact By.2.2.1.apart r z r' z'
       ·have e:r'=_:=Zzc.mp z'
        subst e;exact⟨(By.2.2.1.each r z).fresh haaY (.inr (.inl rfl)),(napart r z).2.1⟩
       ·have e:r=_:=Zzc.mp z
        subst e;exact⟨Zzi ((By.2.2.1.each r' z').fresh hcc (.inl rfl)),Zzi ((By.2.2.1.each r' z').fresh hcc (.inr (.inr rfl)))⟩
       ·have e:r=_:=Zzc.mp z
        have e':r'=_:=Zzc.mp z';subst e e';exact⟨nca,Zzi npc⟩
      ·by_cases hlt:j<rs.length
       ·rw[Zwx hlt] at hj;exact each j r hj
       ·have hj2:j=rs.length:=by
         have:=(Zze.mp hj).1;simp at this;lia
        rw[hj2,Zxi (Zzq _),Zvc] at hj;have e:r=_:=(Zzh hj).symm;subst e;refine⟨⟨by rw[hj2,hrs];exact hin,⟨⟨lag0,lag1⟩,⟨by show 1<=1+x;lia,by show 1+x<=100;lia⟩,⟨fl0,by show fl<=100;lia⟩,⟨sk0,sk1⟩,by show ps.length<=6;lia,amts,ndp⟩,λp hp=>?_⟩,rfl,faH,fcH,fpa,Zzi nwa,Zzi nwc,Zzi nwp'⟩;obtain⟨j',j1,j2,j3⟩:=own p hp;exact⟨j',by lia,by lia,j3⟩
      ·obtain⟨x,y,q⟩:=sy;exact⟨x,y,kf _ _ (λe=>by rw[<- e] at fwl;exact absurd (By.2.2.2.1) (λh=>by obtain⟨x',y',q'⟩:=h;rw[e,By.1] at q';cases rs<;>cases q')) q⟩
      ·have nbw:b≠wl:=A5 hb fwl
       exact kf b o nbw (By.2.2.2.2 b o nb hb)
   ·exact hK _ _ ⟨wl,h,fwl⟩
 ·walk_at "rd";refine⟨by decide,λp0 hp0=>?_⟩;have np0:st≠p0:=λe=>by obtain⟨x,y,q⟩:=hs;rw[e,hp0] at q;cases q
  refine⟨st,12,rfl,?_,by decide,by decide +kernel,λd H1 d0 d1 s1 b1=>?_⟩
  ·obtain⟨x,y,q⟩:=hs;exact⟨x,y,by rw[Ab np0];exact q⟩
  walk_at "rd";have h0:H1 p0=some (.lst (AV.map V.str)):=b1 p0 _ (Zzi np0) A0;refine⟨_,h0,λp hp=>⟨_,by rw[Ab (A5 h0 hp)];exact h0,λp1 hp1=>⟨_,by rw[Ab (A5 A0 hp1),A0],_,A0,?_,λp2 hp2=>?_⟩⟩⟩
  ·rw[D7 d0,Nx d0,Zxr,Zz7,Zzz];exact Ag (by lia)
  ·have t1:=A4 (o:=.lst (E7 (AV.map V.str) (some d) none)) hp
   have t2:=t1.trans (A4 (o:=.lst (E7 (AV.map V.str) none (some d))) hp1);have t3:=t2.trans (A4 (o:=.lst (E7 (AV.map V.str) (some d) none++E7 (AV.map V.str) none (some d))) hp2);have b01:But st H H1:=(Qv hp0).trans b1;refine hK _ _ ⟨p2,d,AV.drop d.toNat++AV.take d.toNat,rfl,?_,A0s _,?_,s1.same t3,b01.same t3⟩
   ·rw[A0,D7 d0,Nx d0,Zzo,Zu1,Zu0]
   ·refine b01.none (λe=>?_) (AA.free t2 hp2);obtain⟨x,y,q⟩:=s1;rw[e] at hp2;rw[t2 _ _ q] at hp2;cases hp2
end
set_option maxHeartbeats 4000000
section
variable {dk:Dk}
def core(w:Wr):Wr:={w with coming:=[]}
def wv(sz:Int)(cs:List (Int×Int)):Prop:=cs.length<=12/\∀p∈cs,(0<=p.1/\p.1<sz)/\0<=p.2/\p.2<10^32
def Y0(sz:Int)(names:List Str)(us:List Wt):Prop:=us.length<=20/\∀u∈us,u.1∈names/\(0<=u.2.1/\u.2.1<sz)/\0<=u.2.2/\u.2.2<10^32
theorem Jt{α β:Type}{f:α->β}{l:List α}{x y:α}(h:l[i]?=some y)(e:f x=f y):(l.set i x).map f=l.map f:=by
 rw[Zv9,e];apply Zxf;intro j;by_cases hj:i=j
 ·subst hj;have hi:i<l.length:=(Zze.mp h).1;rw[Zvy (by rw[Zzz];exact hi),Zzy,h];rfl
 ·rw[Zy3 hj]
theorem CA.core{ws':List Wr}(h:CA ws)(e:ws'.map core=ws.map core):CA ws':=by
 have f:∀{β:Type} (g:Wr->β),(∀w,g (K91.core w)=g w)->ws'.map g=ws.map g:=λ{β} g hg=>by
  have:=congrArg (Zyo g) e;rw[Zz1,Zz1] at this;have q:g∘K91.core=g:=funext hg;rw[q] at this;exact this
 have fn:=f (·.name) (λ_=>rfl);have fl:ws'.length=ws.length:=by have:=congrArg Zxa fn;rw[Zzz,Zzz] at this;exact this
 have mem:∀w∈ws',∃w0∈ws,K91.core w0=K91.core w:=λw hw=>by
  have:K91.core w∈ws.map K91.core:=by rw[<- e];exact Zzv.mpr ⟨w,hw,rfl⟩
  obtain⟨w0,h0,e0⟩:=Zzv.mp this;exact⟨w0,h0,e0⟩
 have cn:∀{w w0:Wr},K91.core w0=K91.core w->w.name=w0.name/\w.parts=w0.parts/\(WB w0->WB w):=λ{w w0} e=>by
  have e1:=congrArg Wr.name e;have e2:=congrArg Wr.parts e;have e3:=congrArg Wr.lag e;have e4:=congrArg Wr.gives e;have e5:=congrArg Wr.floor e;have e6:=congrArg Wr.stock e;simp only[K91.core] at e1 e2 e3 e4 e5 e6;refine⟨e1.symm,e2.symm,λh=>?_⟩;obtain⟨a,b,c,d,p,q,r⟩:=h;exact⟨e3▸a,e4▸b,e5▸c,e6▸d,e2▸p,e2▸q,e2▸r⟩
 refine⟨by rw[fn];exact h.nd,λw hw=>?_,λw hw=>?_,λw hw p hp=>?_,?_⟩
 ·obtain⟨w0,h0,e0⟩:=mem w hw;exact(cn e0).2.2 (h.wb w0 h0)
 ·obtain⟨w0,h0,e0⟩:=mem w hw;rw[(cn e0).1];exact h.txt w0 h0
 ·obtain⟨w0,h0,e0⟩:=mem w hw;rw[fn];rw[(cn e0).2.1] at hp;exact h.own w0 h0 p hp
 ·obtain⟨r,h1,h2⟩:=h.low;refine⟨r,λw hw=>?_,λw hw p hp=>?_⟩
  ·obtain⟨w0,h0,e0⟩:=mem w hw;rw[(cn e0).1,fl];exact h1 w0 h0
  ·obtain⟨w0,h0,e0⟩:=mem w hw;rw[(cn e0).1];rw[(cn e0).2.1] at hp;exact h2 w0 h0 p hp
structure BB(l cl wl:Addr)(sz:Int)(rs rs':List Raw)(sts:List Addr)(us:List Wt)(uv:List V)(H Hx:Hp):Prop where
 hl:Hx l=some (.lst ((rs.map (·.a)).map V.ref))
 hcl:Hx cl=some (.lst (sts.map V.ref))
 hwl:Hx wl=some (.lst uv)
 huv:RDs Hx (us.map Ha) uv
 uok:Y0 sz ((rs.map (·.w)).map (·.name)) us
 raws:AT Hx rs'
 ma:rs'.map (·.a)=rs.map (·.a)
 mc:rs'.map (·.c)=rs.map (·.c)
 mw:(rs'.map (·.w)).map core=(rs.map (·.w)).map core
 com:∀r∈rs',wv sz r.w.coming
 nw:∀r∈rs',r.a≠wl/\r.c≠wl/\r.q≠wl/\r.c≠l/\r.c≠cl
 st:∀s∈sts,AI Hx s
 kp:∀b o,b∉sts->b∉rs.map (·.c)->H b=some o->Hx b=some o
theorem BB.nx{l cl:Addr}{sz:Int}{rs rs':List Raw}{us:List Wt}(h:BB l cl wl sz rs rs' sts us uv H Hx)(hm:st∈sts)(s:AI H' st)(b:But st Hx H'):BB l cl wl sz rs rs' sts us uv H H':=by
 have s0:=h.st st hm;exact⟨b _ _ (s0.ne h.hl (Ih _)) h.hl,b _ _ (s0.ne h.hcl (Ih _)) h.hcl,b _ _ (s0.ne h.hwl (Sk h.huv)) h.hwl,RDs.ku (Td b s0) _ _ (D0 Ha Qk _) h.huv,h.uok,h.raws.but b s0,h.ma,h.mc,h.mw,h.com,h.nw,
  λx hx=>(h.st x hx).but b s,λx o n1 n2 hb=>b x o (λe=>n1 (e▸hm)) (h.kp x o n1 n2 hb)⟩
theorem BB.same{l cl:Addr}{sz:Int}{rs rs':List Raw}{us:List Wt}(h:BB l cl wl sz rs rs' sts us uv H Hx)(s:AA Hx H'):BB l cl wl sz rs rs' sts us uv H H' :=
 ⟨s _ _ h.hl,s _ _ h.hcl,s _ _ h.hwl,RDs.same s _ _ h.huv,h.uok,h.raws.same s,h.ma,h.mc,h.mw,h.com,h.nw,λx hx=>(h.st x hx).same s,λx o n1 n2 hb=>s x o (h.kp x o n1 n2 hb)⟩
theorem BB.want{l cl t:Addr}{sz:Int}{rs rs':List Raw}{us:List Wt}{u:Wt}(h:BB l cl wl sz rs rs' sts us uv H Hx)(hw:H wl=none)(ht:Hx t=some (.tup [.str u.1,.int u.2.1,.int u.2.2]))(hl:us.length<20)
  (hu:u.1∈(rs.map (·.w)).map (·.name)/\(0<=u.2.1/\u.2.1<sz)/\0<=u.2.2/\u.2.2<10^32) (nl:wl≠l/\wl≠cl):BB l cl wl sz rs rs' sts (us++[u]) (uv++[.ref t]) H (upd Hx wl (.lst (uv++[.ref t]))):=by
 have ku:AS Hx (upd Hx wl (.lst (uv++[.ref t]))):=Xk h.hwl (λ_ z=>by cases z);have ntw:t≠wl:=λe=>by rw[e,h.hwl] at ht;cases ht
 refine⟨by rw[Ab (Zzi nl.1)];exact h.hl,by rw[Ab (Zzi nl.2)];exact h.hcl,A0,?_,⟨by rw[Zyv,Zxe];lia,λx hx=>?_⟩,⟨λr hr=>(h.raws.each r hr).mono (λb xs e hb=>?_) ku,h.raws.nd,h.raws.apart⟩,h.ma,h.mc,h.mw,h.com,h.nw,λs hs=>?_,λb o n1 n2 hb=>?_⟩
 ·rw[Zzo];exact RDs.app (RDs.ku ku _ _ (D0 Ha Qk _) h.huv) (RDs.one (RD.tup_mk (by rw[Ab ntw];exact ht) (RDs.cons RD.str_mk (RDs.cons RD.int_mk (RDs.one RD.int_mk)))))
 ·rcases Zz4.mp hx with z | z
  ·exact h.uok.2 x z
  ·rw[Zzc.mp z];exact hu
 ·obtain⟨w1,w2,w3,_⟩:=h.nw r hr;rcases e with rfl | rfl | rfl
  ·rw[Ab w1];exact hb
  ·rw[Ab w2];exact hb
  ·rw[Ab w3];exact hb
 ·obtain⟨x,y,q⟩:=h.st s hs;exact⟨x,y,by rw[Ab (Zzi ((h.st s hs).ne h.hwl (Sk h.huv)))];exact q⟩
 ·rw[Ab (A5 hb hw)];exact h.kp b o n1 n2 hb
theorem BB.thing{l cl t:Addr}{sz:Int}{rs rs':List Raw}{us:List Wt}{cv:List V}{r:Raw}{y:Int×Int}(h:BB l cl wl sz rs rs' sts us uv H Hx)(hi:rs'[i]?=some r)(hc:Hx r.c=some (.lst cv))(rc:RDs Hx (r.w.coming.map Ox) cv)
  (ht:Hx t=some (.tup [.int y.1,.int y.2])) (hl:r.w.coming.length<12) (hy:(0<=y.1/\y.1<sz)/\0<=y.2/\y.2<10^32) :
  BB l cl wl sz rs (rs'.set i {r with w:={r.w with coming:=r.w.coming++[y]}}) sts us uv H (upd Hx r.c (.lst (cv++[.ref t]))):=by
 have hm:=Zzu hi;have ku:AS Hx (upd Hx r.c (.lst (cv++[.ref t]))):=Xk hc (λ_ z=>by cases z);have ntc:t≠r.c:=λe=>by rw[e,hc] at ht;cases ht
 obtain⟨w1,w2,w3,w4,w5⟩:=h.nw r hm;have hil:i<rs'.length:=(Zze.mp hi).1;have hgi:rs'[i]=r:=(Zze.mp hi).2;have setmem:∀r'∈rs'.set i {r with w:={r.w with coming:=r.w.coming++[y]}},r'={r with w:={r.w with coming:=r.w.coming++[y]}}\/(r'∈rs'/\r'.c≠r.c):=λr' hr'=>by
  obtain⟨j,hj,e⟩:=Zy2.mp hr';have hj':j<rs'.length:=by simpa using hj
  by_cases hij:i=j
  ·subst hij;rw[List.getElem_set_self] at e;exact .inl e.symm
  ·rw[List.getElem_set_ne hij] at e;refine .inr ⟨e▸Zwc hj',λec=>hij ?_⟩;have e1:(rs'.map (·.c))[i]?=(rs'.map (·.c))[j]?:=by
    rw[Zzy,Zzy,hi,Zzr hj',e];show some r.c=some r'.c;rw[ec]
   exact(Zv3 (by rw[Zzz];exact hil) h.raws.nd).mp e1
 have mc:(rs'.set i {r with w:={r.w with coming:=r.w.coming++[y]}}).map (·.c)=rs'.map (·.c):=Jt hi rfl;refine⟨by rw[Ab (Zzi w4)];exact h.hl,by rw[Ab (Zzi w5)];exact h.hcl,by rw[Ab (Zzi w2)];exact h.hwl,RDs.ku ku _ _ (D0 Ha Qk _) h.huv,h.uok,⟨λr' hr'=>?_,by rw[mc];exact h.raws.nd,λr1 hr1 r2 hr2=>?_⟩,
  (Jt (x:={r with w:={r.w with coming:=r.w.coming++[y]}}) hi rfl).trans h.ma,mc.trans h.mc,?_,λr' hr'=>?_,λr' hr'=>?_,λs hs=>?_,λb o n1 n2 hb=>?_⟩
 ·rcases setmem r' hr' with e | ⟨m,nc⟩
  ·subst e;obtain⟨h1,_,pv,h4,h5⟩:=h.raws.each r hm;obtain⟨a1,a2⟩:=h.raws.apart r hm r hm;refine⟨by rw[Ab (Zzi a1)];exact h1,⟨cv++[.ref t],A0,?_⟩,pv,by rw[Ab (Zzi a2)];exact h4,RDs.ku ku _ _ (D0 Ew Iw _) h5⟩;rw[Zzo];exact RDs.app (RDs.ku ku _ _ (D0 Ox cg _) rc) (RDs.one (RD.tup_mk (by rw[Ab ntc];exact ht) (RDs.cons RD.int_mk (RDs.one RD.int_mk))))
  ·refine(h.raws.each r' m).mono (λb xs e hb=>?_) ku;obtain⟨a1,a2⟩:=h.raws.apart r hm r' m;rcases e with rfl | rfl | rfl
   ·rw[Ab (Zzi a1)];exact hb
   ·rw[Ab nc];exact hb
   ·rw[Ab (Zzi a2)];exact hb
 ·have f:∀r1∈rs'.set i {r with w:={r.w with coming:=r.w.coming++[y]}},∃r0∈rs',r0.a=r1.a/\r0.c=r1.c/\r0.q=r1.q:=λr1 hr1=>by
   rcases setmem r1 hr1 with e | ⟨m,_⟩
   ·subst e;exact⟨r,hm,rfl,rfl,rfl⟩
   ·exact⟨r1,m,rfl,rfl,rfl⟩
  obtain⟨r3,m3,e1,e2,e3⟩:=f r1 hr1;obtain⟨r4,m4,e4,e5,e6⟩:=f r2 hr2;have:=h.raws.apart r3 m3 r4 m4;rw[e2,e4,e6] at this;exact this
 ·have e1:=Jt (f:=K91.core∘(·.w)) hi (x:={r with w:={r.w with coming:=r.w.coming++[y]}}) rfl
  have e2:=h.mw;rw[Zz1] at e2 ⊢;exact e1.trans e2
 ·rcases setmem r' hr' with e | ⟨m,_⟩
  ·subst e;obtain⟨c1,c2⟩:=h.com r hm;refine⟨by show (r.w.coming++[y]).length<=12;rw[Zyv,Zxe];lia,λp hp=>?_⟩;rcases Zz4.mp hp with z | z
   ·exact c2 p z
   ·rw[Zzc.mp z];exact hy
  ·exact h.com r' m
 ·rcases setmem r' hr' with e | ⟨m,_⟩
  ·subst e;exact h.nw r hm
  ·exact h.nw r' m
 ·obtain⟨x,z,q⟩:=h.st s hs;exact⟨x,z,by rw[Ab (Zzi ((h.st s hs).ne hc (Oj rc)))];exact q⟩
 ·have nb:b≠r.c:=λe=>n2 (by rw[<- h.mc,e];exact Zzv.mpr ⟨r,hm,rfl⟩)
  rw[Ab nb];exact h.kp b o n1 n2 hb
inductive Qw (l cl wl:Addr) (sz:Int) (rs:List Raw) (sts:List Addr) (H:Hp) (i:Nat) (Z:St) (H':Hp):Prop | mk (rs':List Raw) (us:List Wt) (uv:List V) (o4 o5 o6 o7:Option V) (_:Z=[some (.ref l),some (.ref cl),some (.int sz),some (.ref wl),o4,o5,o6,o7]) (_:BB l cl wl sz rs rs' sts us uv H H')
def zp(rs:List Raw)(H:Hp)(i:Nat)(acc:List V)(H':Hp):Prop:=acc.length=i/\RDs H' ((rs.take i).map λr=>r.w.d) acc/\AA H H'
inductive CS (vs:List V) (H:Hp) (Q:VK) (E:XK):Prop | mk (l cl:Addr) (sz:Int) (rs:List Raw) (sts:List Addr) (_:vs=[.ref l,.ref cl,.int sz]) (_:1<=sz) (_:sz<=1000) (_:H l=some (.lst ((rs.map (·.a)).map V.ref))) (_:H cl=some (.lst (sts.map V.ref))) (_:sts.length<=100) (_:AT H rs) (_:(∀r∈rs,r.w.coming=[]/\r.c≠l/\r.c≠cl)) (_:1<=rs.length) (_:rs.length<=100) (_:(∀s∈sts,AI H s)) (_:∀x (S:Sh) H',RD H' S.d x->S.wares.map core=(rs.map (·.w)).map core->(∀w∈S.wares,wv sz w.coming)->Y0 sz ((rs.map (·.w)).map (·.name)) S.wants->(∀b o,b∉sts->b∉rs.map (·.c)->H b=some o->H' b=some o)->Q x H')
theorem Tx(F:Fun K "_law_filled" "_law_filled" Mx f fd)(T:Txt mg)(Zty:Has P w K mg base "_law_next" 1 ["_law_state", "_law_many"] BE)(Zs3:Has P w K mg base "_law_amount" 2 ["_law_state"] CQ):B2 P w K mg base CX0 3 f fd ["_law_wares_here", "_law_cells", "_law_sized"] CS:=by
 refine F.go ["_law_wares_here", "_law_cells", "_law_sized", "_law_wants", "_law_state", "_law_ware_here", "_law_kind", "_law_thing"] ?_ ?_ ?_;walk_at "f";obtain⟨l,cl,sz,rs,sts,rfl,z1,z2,hl,hcl,hsl,raws,hr0,hr1,hr2,hst,k⟩:=h;have hu:=Au hr;refine⟨_,(A2 (Af (i:=3) Nd rfl (Zzt rfl) (Bh A1))
 (A2 (Bk PassesOwn.never rfl (Cq (pv 1)) (Ac (i:=4) Nd rfl (Zzt rfl))
 (A2 (Af (i:=5) Nd rfl (Zzt rfl) (A8 hu (pv 0) (A7 Zty hr.z rfl (A3 (pv 4) (A3 (Ai Bs rfl T.Zts Ct (A3 (pv 0) A1)) A1))) (λ_ _=>rfl)))
 (A2 (Af (i:=6) Nd rfl (Zzt rfl) (A7 Zty hr.z rfl (A3 (pv 4) (A3 A6 A1))))
 (A2 (Af (i:=7) Nd rfl (Zzt rfl) (Cz (A3 (A7 Zty hr.z rfl (A3 (pv 4) (A3 (pv 2) A1))) (A3 (A7 Zs3 hr.z rfl (A3 (pv 4) A1)) A1))))
 (Aa (Ay (PW.pt (J7 (Ah (Eh hu) (pv 6) A6 (Aj _)) (He (Ah (Eh hu) (Ai Bs rfl T.Zts Ct (A3 (pv 3) A1)) A6 (Aj _))))) (Aa (C5 (Cf Zz5 Zyn Zym Ck (pv 3) (A3 (Cz (A3 (A8 hu (pv 5) A6 (λ_ _=>rfl)) (A3 (A8 hu (pv 7) A6 (λ_ _=>rfl)) (A3 (A8 hu (pv 7) A6 (λ_ _=>rfl)) A1)))) A1)))) (Aa (Ay (Ah (Eh hu) (Ai Bs rfl T.Zts Ct (A3 (A8 hu (pv 5) A6 (λ_ _=>rfl)) A1)) A6 (Aj _)) (Aa (C5 (Cf Zz5 Zyn Zym Ck (A8 hu (pv 5) A6 (λ_ _=>rfl)) (A3 (pv 7) A1)))) Ak))))))))
 (Aa (Ae (Cz (A3 (As Bv rfl T.Ztk D2 (A3 (Bc (own:=["_law_ware_here"]) (cap:=[]) rfl (Br rfl) (Aq (by decide)) (Cq (pv 0))
 (λ_ _ _ _ _ _=>⟨(Ac (i:=0) (FV rfl) rfl (Zzt rfl) (.inr rfl)),Bb,(At Z7 (As Bv rfl T.Ztk D2 (A3 (Co Ek (pv 0) Di (Dh A6)) A1)) (Cz (A3 (As Bv rfl T.Ztk D2 (A3 (A8 hu (pv 0) A6 (λ_ _=>rfl)) A1)) (A3 (As Bv rfl T.Ztk D2 (A3 (A8 hu (pv 0) A6 (λ_ _=>rfl)) A1)) A1))))⟩)) A1)) (A3 (As Bv rfl T.Ztk D2 (A3 (pv 3) A1)) A1))))))),?_⟩
 refine zh (λZ' H'=>∃wl:Addr,Qw l cl wl sz rs sts H sts.length Z' H') ?_ (λKK hK=>?_)
 ·rintro Z' H1 ⟨wl,rs',us,uv,o4,o5,o6,o7,rfl,B⟩;have hlr:rs'.length=rs.length:=by have:=congrArg Zxa B.ma;rw[Zzz,Zzz] at this;exact this
  have hl1:H1 l=some (.lst ((rs'.map (·.a)).map V.ref)):=by rw[B.ma];exact B.hl
  walk_at "rd";refine⟨_,hl1,?_⟩;refine Et (Dw l _) (Ag (by rw[Zzz,Zzz];lia)) (zp rs' H1) ⟨rfl,RDs.nil,AA.refl _⟩ (λi acc H' _ h=>h.2.2 _ _ hl1) (λi acc H' h=>Zwo h.1) (λi x acc H2 hi hx h=>?_) (λacc H2 h p hp=>?_)
  ·obtain⟨h1,h2,sm⟩:=h;rw[Zzy,Zzy] at hx;cases er:rs'[i]? with
   |none=>rw[er] at hx;cases hx
   |some r =>
   rw[er] at hx;cases hx;obtain⟨ra,⟨cv,rc,rcv⟩,pv,rq,rpv⟩:=(B.raws.same sm).each r (Zzu er);walk_at "rd";refine⟨_,ra,λp1 hp1=>?_⟩;have e5:E7 [V.str r.w.name,V.int r.w.lag,V.int r.w.gives,V.int r.w.floor,V.int r.w.stock,V.ref r.c,V.ref r.q] none (some 5)=[V.str r.w.name,V.int r.w.lag,V.int r.w.gives,V.int r.w.floor,V.int r.w.stock]:=by rw[Nx (by decide)];rfl
   rw[e5];have t1:=A4 (o:=.lst [V.str r.w.name,V.int r.w.lag,V.int r.w.gives,V.int r.w.floor,V.int r.w.stock]) hp1;refine⟨_,.inl ⟨A0,λq1 hq1=>?_⟩⟩;have t2:=t1.trans (A4 (o:=.tup [V.str r.w.name,V.int r.w.lag,V.int r.w.gives,V.int r.w.floor,V.int r.w.stock]) hq1);refine⟨.ref r.c,Bq (j:=5) (t2 _ _ ra) rfl,r.c,rfl,cv,.inl ⟨t2 _ _ rc,λq2 hq2=>?_⟩⟩;have t3:=t2.trans (A4 (o:=.tup cv) hq2);refine⟨.ref r.q,Bq (j:=6) (t3 _ _ ra) rfl,r.q,rfl,pv,.inl ⟨t3 _ _ rq,λq3 hq3=>?_⟩⟩;have t4:=t3.trans (A4 (o:=.tup pv) hq3);refine⟨by decide,λq4 hq4=>?_⟩;have t5:=t4.trans (A4 (o:=.tup [V.ref q2,V.ref q3]) hq4);have g1:=(A4 (o:=.tup cv) hq2).trans ((A4 (o:=.tup pv) hq3).trans (A4 (o:=.tup [V.ref q2,V.ref q3]) hq4));have g2:=(A4 (o:=.tup pv) hq3).trans (A4 (o:=.tup [V.ref q2,V.ref q3]) hq4);refine⟨_,g1 q1 _ A0,_,A0,(show 5+2<=sizeLine by decide),λp H3 hp3 sm3 _=>?_⟩;refine⟨by simp[h1],?_,sm.trans (t5.trans sm3)⟩;rw[Zzb,er,Zzo];refine RDs.app (RDs.same (t5.trans sm3) _ _ h2) (RDs.one ?_);show RD H3 r.w.d (.ref p);unfold Wr.d;refine RD.tup_mk hp3 ?_;refine RDs.cons RD.str_mk (RDs.cons RD.int_mk (RDs.cons RD.int_mk (RDs.cons RD.int_mk (RDs.cons RD.int_mk (RDs.cons ?_ (RDs.one ?_))))))
   ·exact RD.tup_mk (sm3 _ _ (g2 q2 _ A0)) (RDs.same (t5.trans sm3) _ _ rcv)
   ·exact RD.tup_mk (sm3 _ _ (A4 hq4 q3 _ A0)) (RDs.same (t5.trans sm3) _ _ rpv)
  ·obtain⟨h1,h2,sm⟩:=h;rw[Zzz,Zzz,Zzf] at h2;have u1:=A4 (o:=.lst acc) hp;refine⟨p,rfl,acc,.inl ⟨A0,λq1 hq1=>?_⟩⟩;have u2:=u1.trans (A4 (o:=.tup acc) hq1);refine⟨uv,.inl ⟨u2 _ _ (sm _ _ B.hwl),λq2 hq2=>⟨by decide,λq3 hq3=>?_⟩⟩⟩;have v1:=(A4 (o:=.tup uv) hq2).trans (A4 (o:=.tup [V.ref q1,V.ref q2]) hq3);have u4:=u2.trans v1;refine k _ ⟨rs'.map (·.w),us⟩ _ ?_ B.mw (λw hw=>?_) B.uok (λb o n1 n2 hb=>u4 _ _ (sm _ _ (B.kp b o n1 n2 hb)))
   ·unfold Sh.d;refine RD.tup_mk A0 (RDs.cons (RD.tup_mk (v1 q1 _ A0) ?_) (RDs.one (RD.tup_mk (A4 hq3 q2 _ A0) (RDs.same (sm.trans u4) _ _ B.huv))));rw[Zz1];exact RDs.same u4 _ _ h2
   ·obtain⟨r,hr,rfl⟩:=Zzv.mp hw;exact B.com r hr
 ·walk_at "rd";refine⟨Zyz _,λwl hwl=>⟨_,by rw[Ab (A5 hcl hwl)];exact hcl,?_⟩⟩;have sm0:=A4 (o:=.lst []) hwl;refine Cp (Dw cl _) (Qw l cl wl sz rs sts H) ⟨rs,[],[],_,_,_,_,rfl,⟨sm0 _ _ hl,sm0 _ _ hcl,A0,RDs.nil,⟨Zyz _,λ_ h=>nomatch h⟩,raws.same sm0,rfl,rfl,rfl,λr hr=>by rw[(hr0 r hr).1];exact⟨Zyz _,λ_ h=>nomatch h⟩,λr hr=>⟨(raws.each r hr).fresh hwl (.inl rfl),(raws.each r hr).fresh hwl (.inr (.inl rfl)),(raws.each r hr).fresh hwl (.inr (.inr rfl)),(hr0 r hr).2.1,(hr0 r hr).2.2⟩,λs hs=>(hst s hs).same sm0,λb o _ _ hb=>sm0 b o hb⟩⟩ (λi Z H' _ h=>?_) (λi x Z H2 hi hx h=>?_) (λZ H2 h=>?_)
  ·obtain⟨_,_,_,_,_,_,_,_,B⟩:=h;exact B.hcl
  ·obtain⟨rs',us,uv,o4,o5,o6,o7,rfl,B⟩:=h;rw[Zzy] at hx;cases es:sts[i]? with
   |none=>rw[es] at hx;cases hx
   |some st =>
   rw[es] at hx;cases hx;have hm:=Zzu es;have hlr:rs'.length=rs.length:=by have:=congrArg Zxa B.ma;rw[Zzz,Zzz] at this;exact this
   have nwl:wl≠l/\wl≠cl:=⟨Zzi (A5 hl hwl),Zzi (A5 hcl hwl)⟩;walk_at "rd";refine⟨_,.inl B.hl,st,_,rfl,B.st st hm,?_,?_,λd H3 d0 d1 s3 b3=>?_⟩
   ·rw[Zzz,Zzz];lia
   ·rw[Zzz,Zzz];exact Zxs (b:=100) (by lia) (by decide +kernel)
   rw[Zzz,Zzz] at d1;have B3:=B.nx hm s3 b3;have hd:d.toNat<rs'.length:=by lia
   obtain⟨r,hri⟩:∃r,rs'[d.toNat]?=some r:=⟨_,Zzr hd⟩;have hrm:=Zzu hri;refine⟨.ref r.a,Ju (.inl B3.hl) d0 ?_,st,3,rfl,s3,by decide,by decide +kernel,λkd H4 k0 k1 s4 b4=>?_⟩
   ·rw[<- B.ma,Zzy,Zzy,hri];rfl
   have B4:=B3.nx hm s4 b4;refine⟨st,sz,rfl,s4,by lia,Zxs z2 (by decide +kernel),λdy H5 y0 y1 s5 b5=>?_⟩;have B5:=B4.nx hm s5 b5;refine⟨st,rfl,s5,λam H6 a0 a1 s6 b6=>⟨by decide,λp hp=>?_⟩⟩;have B6:=B5.nx hm s6 b6;have B7:=B6.same (A4 (o:=.tup [.int dy,.int am]) hp);have ht:upd H6 p (.tup [.int dy,.int am]) p=some (.tup [.int dy,.int am]):=A0;generalize upd H6 p (.tup [.int dy,.int am])=H7 at B7 ht;obtain⟨ra,⟨cv,rc,rcv⟩,rq⟩:=B7.raws.each r hrm;have lcv:cv.length=r.w.coming.length:=Aw rcv;have hcom:=B7.com r hrm;have things:∃v_1,Jp H7 (V.ref r.a) (V.int 5) v_1/\∃p_1,v_1=V.ref p_1/\∃x_4,(H7 p_1=some (HO.lst x_4)\/H7 p_1=some (HO.tup x_4))/\if decide ((x_4.length:Int)<12)=true then
     ∃v_2,Jp H7 (V.ref r.a) (V.int 5) v_2/\Oa H7 v_2=some "list" /\ ∃l_1,v_2=V.ref l_1/\∃x_5,H7 l_1=some (HO.lst x_5)/\x_5.length<sizeLine /\
      Qw l cl wl sz rs sts H (i+1) [some (V.ref l),some (V.ref cl),some (V.int sz),some (V.ref wl),some (V.ref st),some (V.ref r.a),some (V.int kd),some (V.ref p)] (upd H7 l_1 (HO.lst (x_5++[V.ref p])))
     else Qw l cl wl sz rs sts H (i+1) [some (V.ref l),some (V.ref cl),some (V.int sz),some (V.ref wl),some (V.ref st),some (V.ref r.a),some (V.int kd),some (V.ref p)] H7:=by
    refine⟨.ref r.c,Bq (j:=5) ra rfl,r.c,rfl,cv,.inl rc,Dq (λhz=>?_) (λhz=>⟨rs',us,uv,_,_,_,_,rfl,B7⟩)⟩;have hz:=FV hz;exact⟨.ref r.c,Bq (j:=5) ra rfl,Ds rc,r.c,rfl,cv,rc,Zz0 (m:=12) (by lia) (by decide),_,us,uv,_,_,_,_,rfl,B7.thing (y:=(dy,am)) hri rc rcv ht (by lia) ⟨⟨y0,y1⟩,a0,a1⟩⟩
   refine⟨kd,rfl,Dq (λ_=>?_) (λ_=>things)⟩;refine⟨uv,.inl B7.hwl,Dq (λhz=>?_) (λ_=>things)⟩;have hz:=FV hz;have luv:uv.length=us.length:=Aw B7.huv;refine⟨Ds B7.hwl,.str r.w.name,Bq (j:=0) ra rfl,.int dy,Ad (j:=0) ht rfl,.int am,Ad (j:=1) ht rfl,by decide,λt ht'=>?_⟩;have B8:=B7.same (A4 (o:=.tup [.str r.w.name,.int dy,.int am]) ht');refine⟨uv,B8.hwl,Zz0 (m:=20) (by lia) (by decide),rs',us++[(r.w.name,dy,am)],_,_,_,_,_,rfl,B8.want (u:=(r.w.name,dy,am)) hwl A0 (by lia) ⟨?_,⟨y0,y1⟩,a0,a1⟩ nwl⟩;have en:(rs'.map (·.w)).map (·.name)=(rs.map (·.w)).map (·.name):=by
    have:=congrArg (Zyo (·.name)) B.mw;rw[Zz1 (g:=λx=>Wr.name x),Zz1 (g:=λx=>Wr.name x)] at this;exact this
   rw[<- en];exact Zzv.mpr ⟨r.w,Zzv.mpr ⟨r,hrm,rfl⟩,rfl⟩
  ·rw[Zzz] at h;exact hK _ _ ⟨wl,h⟩
theorem Lh(s:AA H Hx)(b:But st Hx H')(h:H st=none):AA H H':=λx o hx=>b x o (A5 hx h) (s x o hx)
structure AF(sz:Int)(S:Sh):Prop where
 ws:CA S.wares
 len:1<=S.wares.length/\S.wares.length<=12
 com:∀w∈S.wares,wv sz w.coming
 wants:Y0 sz (S.wares.map (·.name)) S.wants
theorem AF.ok{sz:Int}(g:AF sz S):Th S:=⟨g.ws.nd,by have:=g.len.2;lia,λw hw=>⟨Zzd (g.ws.wb w hw).parts (by decide),Zzd (g.com w hw).1 (by decide)⟩⟩
theorem AF.no{sz:Int}(g:AF sz S):K4 S:=j7 g.ws
mutual
theorem Nv:∀d:PyData,d.canLay0=true->PyData.eqv d d=true
 |.none,_=>by rw[PyData.eqv]
 |.bool b,_=>by rw[PyData.eqv];simp
 |.int i,_=>by rw[PyData.eqv];simp
 |.str x,_=>by rw[PyData.eqv];simp
 |.list xs,h=>by
  rw[PyData.canLay0] at h;rw[PyData.eqv];exact L7 xs h
 |.tuple xs,h=>by
  rw[PyData.canLay0] at h;rw[PyData.eqv];exact L7 xs h
 |.dict _,h=>by rw[PyData.canLay0] at h;cases h
theorem L7:∀ds:List PyData,PyData.canLayAll0 ds=true->PyData.eqvAll ds ds=true
 |[],_=>by rw[PyData.eqvAll]
 |d::ds,h=>by
  rw[PyData.canLayAll0,Zyy] at h;rw[PyData.eqvAll,Nv d h.1,L7 ds h.2];rfl
end
theorem i9{α:Type}(f:α->PyData):∀xs:List α,(∀x∈xs,(f x).canLay0=true)->PyData.canLayAll0 (xs.map f)=true
 |[],_=>by rw[Zxn,PyData.canLayAll0]
 |x::r,h=>by
  rw[Zza,PyData.canLayAll0,h x Zzm,i9 f r λy hy=>h y (Zzl _ hy)];rfl
theorem Vm{α:Type}(f:α->PyData)(n:Nat):∀xs:List α,(∀x∈xs,(f x).depth<=n)->PyData.depthAll (xs.map f)<=n
 |[],_=>by rw[Zxn,PyData.depthAll];exact Zyz _
 |x::r,h=>by
  rw[Zza,PyData.depthAll];exact Nat.max_le.mpr ⟨h x Zzm,Vm f n r λy hy=>h y (Zzl _ hy)⟩
theorem AF.txt{sz:Int}(g:AF sz S):∀x∈S.wares.map (·.name),PyData.strOk x=true:=λx hx=>by
 obtain⟨w,hw,rfl⟩:=Zzv.mp hx;exact sn (g.ws.txt w hw).1
end
set_option maxHeartbeats 4000000
section
variable {dk:Dk}
inductive A02 (H H1:Hp) (i:Nat) (acc:List V) (H':Hp):Prop | mk (sts:List Addr) (_:acc=sts.map V.ref) (_:sts.length=i) (_:(∀s∈sts,AI H' s/\H s=none/\H1 s=none)) (_:AA H1 H')
inductive P8 (K:Zzw) (vs:List V) (H:Hp) (Q:VK) (E:XK):Prop | mk (a:Addr) (ns:List Int) (last:Int) (_:vs=[.ref a,.int last]) (_:SqL K H a (ns.map V.int)) (_:ns.length<=63) (_:0<=last) (_:last<=63) (_:∀v (S:Sh) H',RD H' S.d v->AF 9 S->AA H H'->Q v H')
theorem Zc(F:Fun K "_law_shop" "_law_shop" Rp f fd)(T:Txt mg)(Zsf:Has P w K mg base "_law_drawn" 2 ["_law_script", "_law_k", "_law_salt"] (Mn K))(Zty:Has P w K mg base "_law_next" 1 ["_law_state", "_law_many"] BE)(Zro:Has P w K mg base "_law_wares" 2 ["_law_state", "_law_many"] DG)(Zs2:Has P w K mg base "_law_filled" 3 ["_law_wares_here", "_law_cells", "_law_sized"] CS):B2 P w K mg base CX0 4 f fd ["_law_script", "_law_last"] (P8 K):=by
 refine F.go ["_law_script", "_law_last", "_law_state", "_law_many", "_law_wares_here", "_law_cells"] ?_ ?_ ?_;walk_at "f";obtain⟨a,ns,last,rfl,hS,hlen,last0,last1,k⟩:=h;have hu:=Au hr;refine⟨_,(A2 (Af (i:=2) Nd rfl (Zzt rfl) (A7 Zsf hr.z rfl (A3 (pv 0) (A3 A6 (A3 A6 A1)))))
 (A2 (Af (i:=3) Nd rfl (Zzt rfl) (A8 hu (Bh (A3 (At C7 A6 (A7 Zty hr.z rfl (A3 (pv 2) (A3 A6 A1)))) (A3 (At C7 A6 (A7 Zty hr.z rfl (A3 (pv 2) (A3 A6 A1)))) A1))) (As Ov rfl T.Zr6 Ow (A3 (Dj (Bl hu) (A7 Zty hr.z rfl (A3 (pv 2) (A3 A6 A1))) A6 (Aj _)) A1)) (λ_ _=>rfl)))
 (A2 (Af (i:=4) Nd rfl (Zzt rfl) (A7 Zro hr.z rfl (A3 (pv 2) (A3 (pv 3) A1))))
 (A2 (Df (own:=["_law_k"]) (cap:=[0]) (i:=5) rfl (Br rfl) (Aq (by decide)) Nd rfl rfl (S4 rfl T.Zth (A3 A6 (A3 (Ai (Vu rfl) rfl T.Zqt vy (A3 (Ai Hu rfl T.Zts Ct (A3 (pv 0) A1)) (A3 (pv 1) A1))) A1)))
 (λ_ _ _ _ _ _=>⟨(Ac (i:=0) (FV rfl) rfl (Zzt rfl) (.inr rfl)),Bb,(A7 Zsf hr.z rfl (A3 (pv 1) (A3 (pv 0) (A3 A6 A1))))⟩))
 (Aa (Ae (A7 Zs2 hr.z rfl (A3 (pv 4) (A3 (pv 5) (A3 A6 A1)))))))))),?_⟩
 walk_at "rd";refine⟨a,ns,1,5,rfl,hS,hlen,by decide,λst H1 fst s1 sm1=>?_⟩;refine⟨st,5,rfl,s1,by decide,by decide +kernel,λd H2 d0 d1 s2 b2=>⟨d,rfl,?_⟩⟩;have sm2:=Lh sm1 b2 fst;refine⟨st,7,rfl,s2,by decide,by decide +kernel,λe H3 e0 e1 s3 b3=>⟨e,rfl,by decide,λp hp=>?_⟩⟩;have sm3:=Lh sm2 b3 fst;have np:p≠st:=λz=>by obtain⟨x,y,q⟩:=s3;rw[z,q] at hp;cases hp
 have u3:=A4 (o:=.lst [V.int (1+d),V.int (6+e)]) hp;refine⟨st,6,rfl,s3.same u3,by decide,by decide +kernel,λf' H4 _ _ s4 b4=>?_⟩;have sm4:=Lh (sm3.trans u3) b4 fst;have hp4:H4 p=some (.lst ([1+d,6+e].map V.int)):=b4 p _ np A0;obtain⟨m,m0,m1,hit⟩:=N9 (d:=if decide (f'=5)=true then 1 else 0) (lo:=1) (hi:=12) hp4 (by split<;>decide) (by show _<(2:Int);split<;>decide) (by
  intro n hn
  simp only[Zzs,Zzk,or_false] at hn
  rcases hn with rfl | rfl<;>lia)
 walk_at "rd";refine⟨rfl,.int m,hit,?_⟩;have em:m=((m.toNat:Nat):Int):=by lia
 rw[em];refine⟨st,m.toNat,rfl,s4,by lia,(show m.toNat<=12 by lia),λl rs H5 fl hl hrs raws ws each s5 b5=>?_⟩;have sm5:=Lh sm4 b5 fst;refine⟨_,.inl (sm5.seq hS),by decide,by decide,by split<;>lia,by rw[Zzz];split<;>lia,?_⟩;rw[Zzz];have hcnt:((if last<(ns.length:Int) then last else (ns.length:Int)) - 2).toNat<=63:=by split<;>lia
 refine Et (J4 2 _) (Ag (by lia)) (A02 H H5) ⟨[],rfl,rfl,(λ_ h=>nomatch h),AA.refl _⟩ (λ_ _ _ _ _=>trivial) (λj acc H' h=>by obtain⟨sts,rfl,e,_⟩:=h;rw[Zzz];exact Zwo e) (λj x acc H6 hj hx h=>?_) (λacc H6 h q hq=>?_)
 ·obtain⟨sts,rfl,h2,h3,h4⟩:=h;subst hx;walk_at "rd";refine⟨a,ns,_,9,rfl,(sm5.trans h4).seq hS,hlen,by lia,λs' H7 fs' s7 sm7=>?_⟩;refine⟨sts++[s'],by rw[Zzo];rfl,by simp[h2],λz hz=>?_,h4.trans sm7⟩;rcases Zz4.mp hz with w | w
  ·exact⟨(h3 z w).1.same sm7,(h3 z w).2⟩
  ·rw[Zzc.mp w];exact⟨s7,AA.free (sm5.trans h4) fs',AA.free h4 fs'⟩
 ·obtain⟨sts,rfl,h2,h3,h4⟩:=h;have u5:=A4 (o:=.lst (sts.map V.ref)) hq;have sm6:=h4.trans u5;have raws6:=raws.same sm6;refine⟨l,q,9,rs,sts,rfl,by decide,by decide,sm6 _ _ hl,A0,by lia,raws6,λr hr=>?_,by lia,by lia,λs hs=>(h3 s hs).1.same u5,λx S H7 rx ec com wok kp=>?_⟩
  ·obtain⟨e1,e2,e3,e4,e5⟩:=each r hr;obtain⟨_,⟨cv,hc,_⟩,_⟩:=raws.each r hr;exact⟨e1,e5,A5 (h4 _ _ hc) hq⟩
  ·have en:S.wares.map (·.name)=(rs.map (·.w)).map (·.name):=by
    have:=congrArg (Zyo (λx=>Wr.name x)) ec;rw[Zz1 (g:=λx=>Wr.name x),Zz1 (g:=λx=>Wr.name x)] at this;exact this
   have el:S.wares.length=rs.length:=by
    have:=congrArg Zxa en;rw[Zzz,Zzz,Zzz] at this;exact this
   refine k x S H7 rx ⟨ws.core ec,by lia,com,⟨wok.1,λu hu=>?_⟩⟩ (λb o hb=>?_)
   ·obtain⟨q0,q1⟩:=wok.2 u hu;exact⟨by rw[en];exact q0,q1⟩
   ·refine kp b o (λw=>?_) (λw=>?_) ((sm5.trans sm6) b o hb)
    ·have:=(h3 b w).2.1
     rw[hb] at this;cases this
    ·obtain⟨r,hr,e⟩:=Zzv.mp w;have:=(each r hr).2.2.1;rw[show r.c=b from e,sm4 b o hb] at this;cases this
end
set_option maxHeartbeats 4000000
section
variable {dk:Dk}
inductive AQ (H:Hp) (a:Addr) (S:Sh) (plan:Str->List Int):Prop | mk (kvs:_) (_:Rd H a (.dK kvs)) (_:∀nm∈S.wares.map (·.name),∃l:Addr,Cy kvs (.inr nm)=some (.ref l)/\H l=some (.lst ((plan nm).map V.int))/\(plan nm).length=AB S/\∀x∈plan nm,0<=x/\x<10^2000)
inductive BP (H:Hp) (a:Addr) (S:Sh) (plan:Str->List Int) (P:Str->Prop):Prop | mk (kvs:_) (_:Rd H a (.dK kvs)) (_:∀nm∈S.wares.map (·.name),P nm->∃l:Addr,Cy kvs (.inr nm)=some (.ref l)/\H l=some (.lst ((plan nm).map V.int))/\(plan nm).length=AB S/\∀x∈plan nm,0<=x/\x<10^2000)
theorem AQ.for(h:AQ H a S plan)(P:Str->Prop):BP H a S plan P:=by obtain⟨kvs,h1,h2⟩:=h;exact⟨kvs,h1,λnm hn _=>h2 nm hn⟩
def wd(S:Sh)(x nm:Str):Prop:=∃t∈S.wares,t.name=nm/\∃p∈t.parts,p.1=x
theorem _root_.L2.Rd.same{u:HO}(h:Rd H a u)(s:AA H H'):Rd H' a u:=h.elim (λe=>.inl (s _ _ e)) (λz0=>by obtain⟨o,e⟩:=z0;exact .inr ⟨o,s _ _ e⟩)
theorem AQ.same(h:AQ H a S plan)(s:AA H H'):AQ H' a S plan:=by
 obtain⟨kvs,h1,h2⟩:=h;exact⟨kvs,h1.same s,λnm hn=>by obtain⟨l,e1,e2,e3⟩:=h2 nm hn;exact⟨l,e1,s _ _ e2,e3⟩⟩
theorem BP.same{P:Str->Prop}(h:BP H a S plan P)(s:AA H H'):BP H' a S plan P:=by
 obtain⟨kvs,h1,h2⟩:=h;exact⟨kvs,h1.same s,λnm hn hP=>by obtain⟨l,e1,e2,e3⟩:=h2 nm hn hP;exact⟨l,e1,s _ _ e2,e3⟩⟩
theorem AF.days{sz:Int}(g:AF sz S)(hz:0<sz)(hz2:sz<=1000):1<=AB S/\AB S<=1000/\((AB S:Nat):Int)=1+Fb (S.wants.map λu=>u.2.1)/\∀u∈S.wants,u.2.1.toNat<AB S:=by
 have h0:0<=Fb (S.wants.map λu=>u.2.1):=Nk λx hx=>by
  obtain⟨u,hu,rfl⟩:=Zzv.mp hx;exact(g.wants.2 u hu).2.1.1
 have h1:Fb (S.wants.map λu=>u.2.1)<sz:=Xi hz λx hx=>by
  obtain⟨u,hu,rfl⟩:=Zzv.mp hx;exact(g.wants.2 u hu).2.1.2
 unfold AB;refine⟨by lia,by lia,by lia,λu hu=>?_⟩;have h2:u.2.1<=Fb (S.wants.map λu=>u.2.1):=Nl (Zzv.mpr ⟨u,hu,rfl⟩);have h3:=(g.wants.2 u hu).2.1.1;lia
inductive BW (vs:List V) (H:Hp) (Q:VK) (E:XK):Prop | mk (v:V) (S:Sh) (_:vs=[v]) (_:RD H S.d v) (_:S.wants.length<=1000) (_:∀H',AA H H'->Q (.int (1+Fb (S.wants.map λu=>u.2.1))) H')
theorem U1(F:Fun K "count_days" "count_days" N1 f fd)(T:Txt mg):B2 P w K mg base CX0 1 f fd ["shop"] BW:=by
 refine F.go ["shop"] ?_ ?_ ?_;walk_at "f";obtain⟨v,S,rfl,rs,hw,k⟩:=h;have hu:=Au hr;refine⟨_,(Aa (Ae (At C7 A6 (gl rfl rfl T.Zrv (Bc (own:=["want"]) (cap:=[]) rfl (Br rfl) (Aq (by decide)) (Ca (A8 hu (pv 0) A6 (λ_ _=>rfl)))
 (λ_ _ _ _ _ _=>⟨(Ac (i:=0) (FV rfl) rfl (Zzt rfl) (.inr rfl)),Bb,(A8 hu (pv 0) (Ao rfl T.Zt3) (λ_ _=>rfl))⟩)))))),?_⟩
 obtain⟨a,b,c,ws,us,rfl,ha,hb,hc,rws,rus⟩:=Cb rs;have hl:=Aw rus;walk_at "rd";refine⟨_,Ad (j:=1) ha rfl,c,rfl,us,hc,?_⟩;refine Bg (D1 c _) (Ag (by lia)) (λH' s'=>s' _ _ hc) ((S.wants.map λu=>u.2.1).map V.int) (by rw[Zzz,Zzz,hl]) (λi x H' hi hx s' N M hN=>?_) (λH' s' p hp=>?_)
 ·obtain⟨y,hy,ry⟩:=Ax rus hx;obtain⟨e,rfl,he⟩:=G3 ry;walk_at "rd";exact⟨_,Ad (j:=1) (s' _ _ he) rfl,hN _ _ s' (by rw[Zzy,Zzy,hy];rfl)⟩
 ·exact⟨p,rfl,_,A0,k _ (s'.trans (A4 hp))⟩
inductive DH (vs:List V) (H:Hp) (Q:VK) (E:XK):Prop | mk (a:Addr) (v:V) (S:Sh) (plan:Str->List Int) (w:Wr) (P:Str->Prop) (_:vs=[.ref a,v]) (_:BP H a S plan P) (_:P w.name) (_:AB S<=1000) (_:RD H w.d v) (_:w∈S.wares) (_:0<=w.lag) (_:w.lag<=1000) (_:∀p H',H p=none->H' p=some (.lst ((Dx (plan w.name) w.lag).map V.int))->AA H H'->Q (.ref p) H')
theorem X7(F:Fun K "begun_row" "begun_row" Pp f fd)(T:Txt mg):B2 P w K mg base CX0 1 f fd ["plan", "ware"] DH:=by
 refine F.go ["plan", "ware", "lots"] ?_ ?_ ?_;walk_at "f";obtain⟨a,v,S,plan,w,P',rfl,⟨kvs,hk,hpl⟩,hP,hd,rw',hm,l0,l1,k⟩:=h;have hu:=Au hr;refine⟨_,(A2 (Af (i:=2) Nd rfl (Zzt rfl) (A8 hu (pv 0) (A8 hu (pv 1) (Ao rfl T.Ztc) (λ_ _=>rfl)) (λ_ _=>rfl)))
 (Aa (Ae (At Ig (Co Ek (pv 2) (Dh (A8 hu (pv 1) (Ao rfl T.Zs7) (λ_ _=>rfl))) Di) (At Wl (Bh (A3 A6 A1)) (Ai (Vu rfl) rfl T.Zqt vy (A3 (A8 hu (pv 1) (Ao rfl T.Zs7) (λ_ _=>rfl)) (A3 (Ai Bs rfl T.Zts Ct (A3 (pv 2) A1)) A1)))))))),?_⟩
 obtain⟨e,c1,c2,rfl,he,_⟩:=Bt rw';obtain⟨l,hv,hl,hlen,_⟩:=hpl w.name (Zzv.mpr ⟨w,hm,rfl⟩) hP;walk_at "rd";refine⟨_,Ad (j:=0) he rfl,.ref l,Ik hk hv,_,Ad (j:=1) he rfl,?_⟩;refine⟨w.lag,rfl,l,rfl,_,hl,λp1 hp1=>⟨by decide,λp2 hp2=>?_⟩⟩;have u1:=A4 (o:=.lst (E7 ((plan w.name).map V.int) (some w.lag) none)) hp1;have u2:=u1.trans (A4 (o:=.lst [V.int 0]) hp2);refine⟨_,Ad (j:=1) (u2 _ _ he) rfl,l,rfl,_,.inl (u2 _ _ hl),w.lag,rfl,[V.int 0],A0,?_,?_,?_,λp3 hp3=>?_⟩
 ·split<;>lia
 ·rw[Zzz];split<;>lia
 ·refine Ag ?_;rw[Zzz,Zxe];split<;>lia
 ·have emin:(if (((plan w.name).map V.int).length:Int)<w.lag then (((plan w.name).map V.int).length:Int) else w.lag).toNat=min w.lag.toNat (plan w.name).length:=by
   rw[Zzz];split<;>lia
  rw[emin,Rx,D7 l0];have u3:=u2.trans (A4 (o:=.lst ((Ap (min w.lag.toNat (plan w.name).length) λ_=>0).map V.int)) hp3);rw[D7 l0] at u3;have n12:p1≠p2:=A5 A0 hp2;refine⟨((plan w.name).map V.int).drop w.lag.toNat,?_,_,A0,?_,λp4 hp4=>?_⟩
  ·rw[Ab (λe=>by rw[<- e,Ab n12,A0] at hp3;cases hp3),Ab n12,A0]
  ·refine Ag ?_;rw[Zxr,Zzz,Zzz,Al];lia
  ·refine k p4 _ (AA.free u3 hp4) ?_ (u3.trans (A4 hp4));rw[A0,<- Zu1,<- Zzo,w6]
inductive DI (vs:List V) (H:Hp) (Q:VK) (E:XK):Prop | mk (v x:V) (S:Sh) (w:Wr) (sz:Int) (_:vs=[v,x]) (_:RD H S.d v) (_:RD H w.d x) (_:AF sz S) (_:0<sz) (_:sz<=1000) (_:∀p H',H p=none->H' p=some (.lst ((Ap (AB S) λd=>Ba (wAt w.name d) S.wants).map V.int))->AA H H'->Q (.ref p) H')
inductive wc (v x:V) (p:Addr) (S:Sh) (nm:Str) (H:Hp) (i:Nat) (Z:St) (H':Hp):Prop | mk (o:Option V) (_:Z=[some v,some x,some (.ref p),o]) (_:H' p=some (.lst ((Ap (AB S) λd=>Ba (wAt nm d) (S.wants.take i)).map V.int))) (_:AA H H')
theorem Wq(F:Fun K "wants_row" "wants_row" P9 f fd)(T:Txt mg)(Zt6:Has P w K mg base "count_days" 1 ["shop"] BW):B2 P w K mg base CX0 2 f fd ["shop", "ware"] DI:=by
 refine F.go ["shop", "ware", "told", "want"] ?_ ?_ ?_;walk_at "f";obtain⟨v,x,S,w,sz,rfl,rs,rx,g,z0,z1,k⟩:=h;have hu:=Au hr;obtain⟨n1,n2,n3,n4⟩:=g.days z0 z1;refine⟨_,(A2 (Af (i:=2) Nd rfl (Zzt rfl) (At Wl (Bh (A3 A6 A1)) (A7 Zt6 hr.z rfl (A3 (pv 0) A1))))
 (A2 (Bk PassesOwn.never rfl (Ca (A8 hu (pv 0) A6 (λ_ _=>rfl))) (Ac (i:=3) Nd rfl (Zzt rfl))
 (Aa (Ay (Ah (Bl hu) (A8 hu (pv 3) (Ao rfl T.Zt0) (λ_ _=>rfl)) (A8 hu (pv 1) (Ao rfl T.Ztc) (λ_ _=>rfl)) (Aj _)) (Aa (gf (pv 2) (A8 hu (pv 3) (Ao rfl T.Zt3) (λ_ _=>rfl)) ig (A8 hu (pv 3) (Ao rfl T.Ztd) (λ_ _=>rfl)) Nq Gk)) Ak)))
 (Aa (Ae (pv 2))))),?_⟩
 obtain⟨a,b,c,ws,us,rfl,ha,hb,hc,rws,rus⟩:=Cb rs;obtain⟨xe,c1,c2,rfl,hxe,_⟩:=Bt rx;have hl:=Aw rus;walk_at "rd";refine⟨by decide,λp0 hp0=>?_⟩;have u0:=A4 (o:=.lst [V.int 0]) hp0;refine⟨.ref a,S,rfl,RD.same u0 _ _ rs,by have:=g.wants.1;lia,λH1 sm1=>?_⟩;have h01:=sm1 p0 _ A0;have sm01:=u0.trans sm1;rw[<- n3];refine⟨_,rfl,_,h01,by lia,by lia,by rw[Zxe];exact Ag (by lia),λp hp=>?_⟩;have u1:=sm01.trans (A4 (o:=.lst ((Ap (AB S) λ_=>0).map V.int)) hp);have en:((AB S:Nat):Int).toNat=AB S:=by lia
 rw[en,Rx];refine⟨_,Ad (j:=1) (u1 _ _ ha) rfl,c,rfl,us,u1 _ _ hc,?_⟩;refine Cp (D1 c _) (wc (.ref a) (.ref xe) p S w.name H) ⟨_,rfl,?_,u1⟩ (λi Z H' _ h=>by obtain⟨_,_,_,s⟩:=h;exact s _ _ hc) (λi y Z H2 hi hy h=>?_) (λZ H2 h=>?_)
 ·rw[A0];exact congrArg (λz=>some (HO.lst (Zyo V.int z))) (C4 λd _=>by simp[Jb])
 ·obtain⟨o,rfl,hp2,sm⟩:=h;obtain⟨u,hu',ru⟩:=Ax rus hy;obtain⟨e,rfl,he⟩:=G3 ru;have he':=sm _ _ he;have hx':=sm _ _ hxe;have hum:=Zzu hu';walk_at "rd";refine⟨_,Ad (j:=0) he' rfl,_,Ad (j:=0) hx' rfl,rfl,Dq (λhz=>?_) (λhz=>?_)⟩
  ·have hz:=FV hz
   have hz:u.1=w.name:=V.str.inj hz;have hd:=n4 u hum;have hd0:=(g.wants.2 u hum).2.1.1;refine⟨_,Ad (j:=1) he' rfl,_,u.2.1,rfl,hp2,hd0,_,by rw[Zzy,Bi hd];rfl,_,Ad (j:=2) he' rfl,_,rfl,_,rfl,_,_,rfl,hp2,u.2.1.toNat,?_,?_⟩
   ·rw[Zzz,Al];unfold ixN;rw[FZ hd0,FZ (by lia)]
   ·refine⟨_,rfl,?_,λb' o' hb'=>by rw[Ab (A5 hb' (AA.free sm01 hp))];exact sm b' o' hb'⟩;rw[A0,<- Zv9,Jf];refine congrArg (λz=>some (HO.lst (Zyo V.int z))) (C4 λd _=>?_);rw[Dy _ hu'];unfold wAt;by_cases e1:d=u.2.1.toNat
    ·subst e1;rw[FZ rfl,FZ ⟨hz,by lia⟩]
    ·rw[FY e1,FY (λq=>e1 (by lia)),Zxy]
  ·refine⟨_,rfl,?_,sm⟩;rw[hp2];refine congrArg (λz=>some (HO.lst (Zyo V.int z))) (C4 λd _=>?_);rw[Dy _ hu'];unfold wAt;rw[FY (c:=u.1=w.name/\_) (λq=>hz (FW (by rw[q.1]))),Zxy]
 ·obtain⟨o,rfl,hp2,sm⟩:=h;walk_at "rd";rw[hl,Zzf] at hp2;exact k p H2 (AA.free sm01 hp) hp2 sm
end
set_option maxHeartbeats 4000000
section
variable {dk:Dk}
inductive CB (vs:List V) (H:Hp) (Q:VK) (E:XK):Prop | mk (v:V) (a:Addr) (x:V) (S:Sh) (plan:Str->List Int) (w:Wr) (sz:Int) (_:vs=[v,.ref a,x]) (_:RD H S.d v) (_:BP H a S plan (wd S w.name)) (_:RD H w.d x) (_:AF sz S) (_:0<sz) (_:sz<=1000) (_:∀p H',H p=none->H' p=some (.lst ((Az S plan w.name).map V.int))->AA H H'->Q (.ref p) H')
inductive we (v:V) (a:Addr) (x:V) (S:Sh) (plan:Str->List Int) (nm:Str) (H:Hp) (i:Nat) (Z:St) (H':Hp):Prop | mk (q:Addr) (o1 o2 o3:Option V) (_:Z=[some v,some (.ref a),some x,some (.ref q),o1,o2,o3]) (_:H q=none) (_:H' q=some (.lst ((Ap (AB S) λd=>Ba (wAt nm d) S.wants+Ba (pAt plan nm d) (S.wares.take i)).map V.int))) (_:AA H H')
inductive wf (v:V) (a:Addr) (x t:V) (S:Sh) (plan:Str->List Int) (nm:Str) (w:Wr) (i:Nat) (H:Hp) (j:Nat) (Z:St) (H':Hp):Prop | mk (q:Addr) (o2 o3:Option V) (_:Z=[some v,some (.ref a),some x,some (.ref q),some t,o2,o3]) (_:H q=none) (_:H' q=some (.lst ((Ap (AB S) λd=>Ba (wAt nm d) S.wants+Ba (pAt plan nm d) (S.wares.take i)+Ba (λp:Str×Int=>if p.1=nm then p.2*bAt (plan w.name) w.lag d else 0) (w.parts.take j)).map V.int))) (_:AA H H')
def A1n(n:Nat)(g:Nat->Int)(H1:Hp)(i:Nat)(acc:List V)(H':Hp):Prop:=acc=((Ap n g).take i).map V.int/\i<=n/\AA H1 H'
theorem Jr{g:Nat->Int}(h:i<=n):(Ap n g).take i=Ap i g:=by
 unfold Ap;rw[<- Zu0,List.take_range,Nat.min_eq_left h]
theorem Wv(F:Fun K "needs_row" "needs_row" Pc f fd)(T:Txt mg)(Zrn:Has P w K mg base "wants_row" 2 ["shop", "ware"] DI)(Zrm:Has P w K mg base "begun_row" 1 ["plan", "ware"] DH):B2 P w K mg base CX0 3 f fd ["shop", "plan", "ware"] CB:=by
 refine F.go ["shop", "plan", "ware", "told", "taker", "part", "amount"] ?_ ?_ ?_;walk_at "f";obtain⟨v,a,x,S,plan,w,sz,rfl,rs,pl,rx,g,z0,z1,k⟩:=h;have hu:=Au hr;obtain⟨n1,n2,n3,n4⟩:=g.days z0 z1;refine⟨_,(A2 (Af (i:=3) Nd rfl (Zzt rfl) (A7 Zrn hr.z rfl (A3 (pv 0) (A3 (pv 2) A1))))
 (A2 (Bk PassesOwn.never rfl (Ca (A8 hu (pv 0) A6 (λ_ _=>rfl))) (Ac (i:=4) Nd rfl (Zzt rfl))
 (Aa (Bk PassesOwn.never rfl (Ca (A8 hu (pv 4) (Ao rfl T.Zsk) (λ_ _=>rfl))) (Do (n:=2) rfl (An (Ac (i:=5) Nd rfl (Zzt rfl)) (An (Ac (i:=6) Nd rfl (Zwd rfl)) Cj)))
 (Aa (Ay (Ah (Bl hu) (pv 5) (A8 hu (pv 2) (Ao rfl T.Ztc) (λ_ _=>rfl)) (Aj _)) (Aa (Df (own:=["goes", "lots"]) (cap:=[6]) (i:=3) rfl (Br rfl) Ex Nd rfl rfl (gh rfl T.Zqz (A3 (pv 3) (A3 (A7 Zrm hr.z rfl (A3 (pv 1) (A3 (pv 4) A1))) A1)))
 (λ_ _ _ _ _ _=>⟨(Do (n:=2) rfl (An (Ac (i:=0) (FV rfl) rfl (Zzt rfl) (.inr rfl)) (An (Ac (i:=1) (FV rfl) rfl (Zzt rfl) (.inr rfl)) Cj))),Bb,(At C7 (pv 0) (At G5 (pv 2) (pv 1)))⟩))) Ak)))))
 (Aa (Ae (pv 3))))),?_⟩
 obtain⟨sa,sb,sc,ws,us,rfl,ha,hb,hc,rws,rus⟩:=Cb rs;obtain⟨xe,c1,c2,rfl,hxe,_⟩:=Bt rx;have hl:=Aw rws;walk_at "rd";refine⟨.ref sa,.ref xe,S,w,sz,rfl,rs,rx,g,z0,z1,λq0 H1 hq0 hq1 sm1=>?_⟩;refine⟨_,Ad (j:=0) (sm1 _ _ ha) rfl,sb,rfl,ws,sm1 _ _ hb,?_⟩;refine Cp (D1 sb _) (we (.ref sa) a (.ref xe) S plan w.name H) ⟨q0,_,_,_,rfl,hq0,?_,sm1⟩ (λi Z H' _ h=>by obtain⟨_,_,_,_,_,_,_,s⟩:=h;exact s _ _ hb) (λi y Z H2 hi hy h=>?_) (λZ H2 h=>?_)
 ·rw[hq1];exact congrArg (λz=>some (HO.lst (Zyo V.int z))) (C4 λd _=>by rw[Zwg,Jb,Zxy])
 ·obtain⟨q,o1,o2,o3,rfl,hq,hq2,sm⟩:=h;obtain⟨t,ht,rt⟩:=Ax rws hy;have htm:=Zzu ht;have wb:=g.ws.wb t htm;obtain⟨te,d1,d2,rfl,hte,rc,rp⟩:=Bt rt;obtain⟨pb,pv,rfl,hpb,rpv⟩:=RD.tup_of rp;have hlp:=Aw rpv;walk_at "rd";refine⟨_,Ad (j:=6) (sm _ _ hte) rfl,pb,rfl,pv,sm _ _ hpb,?_⟩;refine Cp (D1 pb _) (wf (.ref sa) a (.ref xe) (.ref te) S plan w.name t i H) ⟨q,_,_,rfl,hq,?_,sm⟩ (λj Z H' _ h=>by obtain⟨_,_,_,_,_,_,s⟩:=h;exact s _ _ hpb) (λj y Z H3 hj hy h=>?_) (λZ H3 h=>?_)
  ·rw[hq2];exact congrArg (λz=>some (HO.lst (Zyo V.int z))) (C4 λd _=>by rw[Zwg,Jb,Zxy])
  ·obtain⟨q,o2,o3,rfl,hq,hq2,sm⟩:=h;obtain⟨pp,hpp,rpp⟩:=Ax rpv hy;have hppm:=Zzu hpp;obtain⟨pe,rfl,hpe⟩:=Iv rpp;refine gt2 (sm _ _ hpe) ?_;walk_at "rd";refine⟨_,Ad (j:=0) (sm _ _ hxe) rfl,rfl,Dq (λhz=>?_) (λhz=>?_)⟩
   ·have hz:pp.1=w.name:=V.str.inj (FV hz)
    have hT:wd S w.name t.name:=⟨t,htm,rfl,pp,hppm,hz⟩;refine⟨a,.ref te,S,plan,t,_,rfl,pl.same sm,hT,n2,RD.same sm _ _ rt,htm,wb.lag.1,by have:=wb.lag.2;lia,λb H4 hb4 hb5 sm4=>?_⟩;have hq4:=sm4 _ _ hq2;have sm04:=sm.trans sm4;refine⟨b,rfl,_,hq4,_,hb5,?_⟩;obtain⟨kvs,hkv,hpl⟩:=pl;obtain⟨l,hv,hll,hlen,hbd⟩:=hpl t.name (Zzv.mpr ⟨t,htm,rfl⟩) hT;have lb:(Dx (plan t.name) t.lag).length=AB S:=by unfold Dx;rw[Al,hlen]
    have en:min (((Ap (AB S) λd=>Ba (wAt w.name d) S.wants+Ba (pAt plan w.name d) (S.wares.take i)+Ba (λp:Str×Int=>if p.1=w.name then p.2*bAt (plan t.name) t.lag d else 0) (t.parts.take j)).map V.int).length) (((Dx (plan t.name) t.lag).map V.int).length)=AB S:=by
     rw[Zzz,Zzz,Al,lb,Zui]
    have G:=v5 q b ((Ap (AB S) λd=>Ba (wAt w.name d) S.wants+Ba (pAt plan w.name d) (S.wares.take i)+Ba (λp:Str×Int=>if p.1=w.name then p.2*bAt (plan t.name) t.lag d else 0) (t.parts.take j)).map V.int) ((Dx (plan t.name) t.lag).map V.int);rw[en] at G;refine vp G (Ag n2) (A1n (AB S) (λd=>Ba (wAt w.name d) S.wants+Ba (pAt plan w.name d) (S.wares.take i)+Ba (λp:Str×Int=>if p.1=w.name then p.2*bAt (plan t.name) t.lag d else 0) (t.parts.take j)+pp.2*bAt (plan t.name) t.lag d) H4) ⟨rfl,Zyz _,AA.refl _⟩ (λr acc H' _ h=>⟨h.2.2 _ _ hq4,h.2.2 _ _ hb5⟩) (λr acc H' h=>?_) (λr ys z acc H5 hr hys h hz5=>?_) (λacc H5 h p hp=>?_)
    ·rw[h.1,Zzz,Jr h.2.1,Al];exact Zzq _
    ·obtain⟨rfl,h2,h3⟩:=h;obtain⟨y1,y2,e1,e2,rfl⟩:=hys;rw[Zzy,Bi hr] at e1;cases e1;have hbg:(Dx (plan t.name) t.lag)[r]?=some (bAt (plan t.name) t.lag r):=by unfold Dx;rw[Bi (by rw[hlen];exact hr)]
     rw[Zzy,hbg] at e2;cases e2;refine gT2 ?_;walk_at "rd";have hamt:=wb.amts pp hppm;refine⟨.inl (.inl ⟨by lia,by lia⟩),?_,hr,h3.trans (A4 hz5)⟩;rw[Jr (by lia),Jr (by lia),Fx,Zzo];rfl
    ·obtain⟨rfl,h2,h3⟩:=h;rw[Jr (Zzq _)];refine⟨p,_,_,rfl,AA.free (sm04.trans h3) hp,?_,(sm04.trans h3).trans (A4 hp)⟩;rw[A0];refine congrArg (λz=>some (HO.lst (Zyo V.int z))) (C4 λd _=>?_);rw[Dy _ hpp,FZ hz];lia
   ·refine⟨q,_,_,rfl,hq,?_,sm⟩;rw[hq2];refine congrArg (λz=>some (HO.lst (Zyo V.int z))) (C4 λd _=>?_);rw[Dy _ hpp,FY (c:=pp.1=w.name) (λe=>hz (FW (by rw[e]))),Zxy]
  ·obtain⟨q,o2,o3,rfl,hq,hq2,sm⟩:=h;rw[hlp,Zzf] at hq2;refine⟨q,_,_,_,rfl,hq,?_,sm⟩;rw[hq2];refine congrArg (λz=>some (HO.lst (Zyo V.int z))) (C4 λd _=>?_);rw[Dy _ ht];unfold pAt;lia
 ·obtain⟨q,o1,o2,o3,rfl,hq,hq2,sm⟩:=h;walk_at "rd";rw[hl,Zzf] at hq2;exact k q H2 hq hq2 sm
end
set_option maxHeartbeats 4000000
section
variable {dk:Dk}
noncomputable def Yb(ns:List Int)(j:Nat):Int:=(ns.take j).sum
def cum(ns:List Int)(n:Nat):List Int:=(Zyi n).map λj=>Yb ns (j+1)
theorem O8{c:Int}(h:ns[i]?=some c):Yb ns (i+1)=Yb ns i+c:=by
 unfold Yb;rw[Zzb,h,List.sum_append];simp
theorem vn(ns:List Int)(n:Nat):cum ns (n+1)=cum ns n++[Yb ns (n+1)]:=by
 unfold cum;rw[Zul,Zzo];rfl
theorem zj(ns:List Int)(n:Nat):(cum ns n).length=n:=by simp[cum]
inductive A1u (r p:Addr) (ns:List Int) (H:Hp) (i:Nat) (Z:St) (H':Hp):Prop | mk (c:Option V) (_:Z=[some (.ref r),some (.ref p),some (.int (Yb ns i)),c]) (_:H' p=some (.lst ((cum ns i).map V.int))) (_:AA H H')
inductive EE (vs:List V) (H:Hp) (Q:VK) (E:XK):Prop | mk (r:Addr) (ns:List Int) (_:vs=[.ref r]) (_:H r=some (.lst (ns.map V.int))) (_:ns.length<=1000) (_:∀p H',H p=none->H' p=some (.lst ((cum ns ns.length).map V.int))->AA H H'->Q (.ref p) H')
theorem jx(F:Fun K "so_far" "so_far" Yx f fd)(T:Txt mg):B2 P w K mg base CX0 1 f fd ["row"] EE:=by
 refine F.go ["row", "told", "total", "number"] ?_ ?_ ?_;walk_at "f";obtain⟨r,ns,rfl,hr0,hl,k⟩:=h;have hu:=Au hr;refine⟨_,(A2 (Af (i:=1) Nd rfl (Zzt rfl) (Bh A1))
 (A2 (Af (i:=2) Nd rfl (Zzt rfl) A6)
 (A2 (Bk PassesOwn.never rfl (Cq (pv 0)) (Ac (i:=3) Nd rfl (Zzt rfl))
 (A2 (bh (i:=2) Nd rfl (Zzt rfl) (pv 3) Nq)
 (Aa (C5 (Cf Zz5 Zyn Zym Ck (pv 1) (A3 (pv 2) A1))))))
 (Aa (Ae (pv 1)))))),?_⟩
 walk_at "rd";refine⟨Zyz _,λp hp=>⟨_,by rw[Ab (A5 hr0 hp)];exact hr0,?_⟩⟩;refine Cp (Dw r _) (A1u r p ns H) ⟨_,rfl,A0,A4 hp⟩ (λi Z H' _ h=>by obtain⟨_,_,_,s⟩:=h;exact s _ _ hr0) (λi x Z H' hi hx h=>?_) (λZ H' h=>?_)
 ·obtain⟨c,rfl,h1,sm⟩:=h;have hi':i<ns.length:=by simpa using hi
  rw[Zzy] at hx;cases ec:ns[i]? with
  |none=>rw[ec] at hx;cases hx
  |some c =>
  rw[ec] at hx;cases hx;walk_at "rd";refine⟨Ds h1,_,h1,Zz0 (m:=1000) (by rw[Zzz,zj];lia) (by decide),?_⟩;refine⟨_,by rw[O8 ec],?_,λb o hb=>?_⟩
  ·rw[A0,vn,Zzo,O8 ec];rfl
  ·rw[Ab (A5 hb hp)];exact sm b o hb
 ·obtain⟨c,rfl,h1,sm⟩:=h;walk_at "rd";rw[Zzz] at h1;exact k p H' hp h1 sm
theorem Ya{f:Nat->Int}:∀{d:Nat},d<=n->Yb (Ap n f) d=upS f d
 |0,_=>by simp[Yb,upS]
 |d+1,h=>by rw[O8 (Bi (by lia)),Ya (by lia),upS]
theorem zi{f:Nat->Int}:cum (Ap n f) (Ap n f).length=Ap n λd=>upS f (d+1):=by
 rw[Al];unfold cum;show _=(Zyi n).map _;apply Zxo;intro d hd;exact Ya (by have:=Zx1.mp hd;lia)
inductive BO (vs:List V) (H:Hp) (Q:VK) (E:XK):Prop | mk (v x:V) (S:Sh) (w:Wr) (sz:Int) (_:vs=[v,x]) (_:RD H S.d v) (_:RD H w.d x) (_:AF sz S) (_:0<sz) (_:sz<=1000) (_:w.coming.length<=1000) (_:(∀p∈w.coming,0<=p.1)) (_:∀p H',H p=none->H' p=some (.lst ((Ap (AB S) (Cg w)).map V.int))->AA H H'->Q (.ref p) H')
inductive A1z (v x:V) (p:Addr) (S:Sh) (w:Wr) (H:Hp) (i:Nat) (Z:St) (H':Hp):Prop | mk (o1 o2:Option V) (_:Z=[some v,some x,some (.ref p),o1,o2]) (_:H' p=some (.lst ((Ap (AB S) λd=>(if d=0 then w.stock else 0)+Ba (cAt d) (w.coming.take i)).map V.int))) (_:AA H H')
theorem Q8(F:Fun K "arrivals_row" "arrivals_row" Ks f fd)(T:Txt mg)(Zt6:Has P w K mg base "count_days" 1 ["shop"] BW):B2 P w K mg base CX0 2 f fd ["shop", "ware"] BO:=by
 refine F.go ["shop", "ware", "told", "day", "amount"] ?_ ?_ ?_;walk_at "f";obtain⟨v,x,S,w,sz,rfl,rs,rx,g,z0,z1,hcl,hcd,k⟩:=h;have hu:=Au hr;obtain⟨n1,n2,n3,n4⟩:=g.days z0 z1;refine⟨_,(A2 (Af (i:=2) Nd rfl (Zzt rfl) (At Wl (Bh (A3 A6 A1)) (A7 Zt6 hr.z rfl (A3 (pv 0) A1))))
 (A2 (Eo (A8 hu (pv 1) (Ao rfl T.Zs5) (λ_ _=>rfl)) (Fy (pv 2) A6 Gk))
 (A2 (Bk PassesOwn.never rfl (Ca (A8 hu (pv 1) (Ao rfl T.Zsm) (λ_ _=>rfl))) (Do (n:=2) rfl (An (Ac (i:=3) Nd rfl (Zzt rfl)) (An (Ac (i:=4) Nd rfl (Zzt rfl)) Cj)))
 (Aa (Ay (Ah (Eh hu) (pv 3) (Ai Bs rfl T.Zts Ct (A3 (pv 2) A1)) (Aj _)) (Aa (gf (pv 2) (pv 3) ig (pv 4) Nq Gk)) Ak)))
 (Aa (Ae (pv 2)))))),?_⟩
 obtain⟨xe,c1,c2,rfl,hxe,rc,_⟩:=Bt rx;obtain⟨cb,cv,rfl,hcb,rcv⟩:=RD.tup_of rc;have hl:=Aw rcv;walk_at "rd";refine⟨by decide,λp0 hp0=>?_⟩;have u0:=A4 (o:=.lst [V.int 0]) hp0;refine⟨v,S,rfl,RD.same u0 _ _ rs,by have:=g.wants.1;lia,λH1 sm1=>?_⟩;have h01:=sm1 p0 _ A0;have sm01:=u0.trans sm1;rw[<- n3];refine⟨_,rfl,_,h01,by lia,by lia,by rw[Zxe];exact Ag (by lia),λp hp=>?_⟩;have u1:=sm01.trans (A4 (o:=.lst ((Ap (AB S) λ_=>0).map V.int)) hp);have en:((AB S:Nat):Int).toNat=AB S:=by lia
 rw[en,Rx];have fp:H p=none:=AA.free sm01 hp;refine⟨_,Ad (j:=4) (u1 _ _ hxe) rfl,_,A0,0,?_,?_⟩
 ·rw[Zzz,Al];unfold ixN;rw[FZ (by decide),FZ (by lia)];rfl
 have kx:∀{b:Addr} {o o' o2:HO},H b=some o->upd (upd H1 p o') p o2 b=some o:=λ{b o o' o2} hb=>by rw[Ab (A5 hb fp),Ab (A5 hb fp)];exact sm01 b o hb
 refine⟨_,Ad (j:=5) (kx hxe) rfl,cb,rfl,cv,kx hcb,?_⟩;refine Cp (D1 cb _) (A1z v (.ref xe) p S w H) ⟨_,_,rfl,?_,λb o hb=>kx hb⟩ (λi Z H' _ h=>by obtain⟨_,_,_,_,s⟩:=h;exact s _ _ hcb) (λi y Z H2 hi hy h=>?_) (λZ H2 h=>?_)
 ·rw[A0,<- Zv9,Jf];exact congrArg (λz=>some (HO.lst (Zyo V.int z))) (C4 λd _=>by rw[Zwg,Jb,Zxy])
 ·obtain⟨o1,o2,rfl,hp2,sm⟩:=h;obtain⟨u,hu',ru⟩:=Ax rcv hy;obtain⟨e,rfl,he⟩:=Te ru;refine gt2 (sm _ _ he) ?_;have hd0:=hcd u (Zzu hu');walk_at "rd";refine⟨_,.inl hp2,Dq (λhz=>?_) (λhz=>?_)⟩
  ·have hz:=FV hz
   rw[Zzz,Al] at hz;have hd:u.1.toNat<AB S:=by lia
   refine⟨_,hp2,hd0,_,by rw[Zzy,Bi hd];rfl,_,rfl,_,hp2,u.1.toNat,?_,?_⟩
   ·rw[Zzz,Al];unfold ixN;rw[FZ hd0,FZ (by lia)]
   ·refine⟨_,_,rfl,?_,λb' o' hb'=>by rw[Ab (A5 hb' fp)];exact sm b' o' hb'⟩;rw[A0,<- Zv9,Jf];refine congrArg (λz=>some (HO.lst (Zyo V.int z))) (C4 λd _=>?_);rw[Dy _ hu'];unfold cAt;by_cases e1:d=u.1.toNat
    ·subst e1;rw[FZ rfl,FZ (c:=u.1=_) (by lia)];lia
    ·rw[FY e1,FY (c:=u.1=_) (λq=>e1 (by lia)),Zxy]
  ·have hz:¬ u.1<(AB S:Int):=λq=>hz (FW (by rw[Zzz,Al];exact q))
   refine⟨_,_,rfl,?_,sm⟩;rw[hp2];refine congrArg (λz=>some (HO.lst (Zyo V.int z))) (C4 λd hd=>?_);rw[Dy _ hu'];unfold cAt;rw[FY (c:=u.1=_) (λq=>hz (by lia)),Zxy]
 ·obtain⟨o1,o2,rfl,hp2,sm⟩:=h;walk_at "rd";rw[hl,Zzf] at hp2;exact k p H2 fp hp2 sm
inductive CT (vs:List V) (H:Hp) (Q:VK) (E:XK):Prop | mk (v:V) (a:Addr) (x:V) (S:Sh) (plan:Str->List Int) (w:Wr) (sz:Int) (_:vs=[v,.ref a,x]) (_:RD H S.d v) (_:AQ H a S plan) (_:RD H w.d x) (_:w∈S.wares) (_:AF sz S) (_:0<sz) (_:sz<=1000) (_:∀p H',H p=none->H' p=some (.lst ((Ar S plan w).map V.int))->AA H H'->Q (.ref p) H')
inductive A1x (v:V) (a:Addr) (x:V) (p:Addr) (S:Sh) (plan:Str->List Int) (w:Wr) (H1:Hp) (i:Nat) (Z:St) (H':Hp):Prop | mk (o1 o2 o3:Option V) (_:Z=[some v,some (.ref a),some x,some (.ref p),o1,o2,o3]) (_:i<=AB S) (_:H' p=some (.lst ((Ap i (Gv S plan w)).map V.int))) (_:∀b o,b≠p->H1 b=some o->H' b=some o)
theorem Tp(F:Fun K "stocks_row" "stocks_row" Mp f fd)(T:Txt mg)(Zsz:Has P w K mg base "needs_row" 3 ["shop", "plan", "ware"] CB)(Ztf:Has P w K mg base "arrivals_row" 2 ["shop", "ware"] BO)(Zr3:Has P w K mg base "so_far" 1 ["row"] EE):B2 P w K mg base CX0 4 f fd ["shop", "plan", "ware"] CT:=by
 refine F.go ["shop", "plan", "ware", "changes", "comes", "lots", "goes"] ?_ ?_ ?_;walk_at "f";obtain⟨v,a,x,S,plan,w,sz,rfl,rs,pl,rx,hm,g,z0,z1,k⟩:=h;have hu:=Au hr;obtain⟨n1,n2,n3,n4⟩:=g.days z0 z1;have wb:=g.ws.wb w hm;refine⟨_,(A2 (Af (i:=3) Nd rfl (Zzt rfl) (Bh A1))
 (A2 (Bk PassesOwn.never rfl (xw rfl T.Zqz (A3 (A7 Ztf hr.z rfl (A3 (pv 0) (A3 (pv 2) A1))) (A3 (A8 hu (pv 1) (A8 hu (pv 2) (Ao rfl T.Ztc) (λ_ _=>rfl)) (λ_ _=>rfl)) (A3 (A7 Zsz hr.z rfl (A3 (pv 0) (A3 (pv 1) (A3 (pv 2) A1)))) A1)))) (Do (n:=3) rfl (An (Ac (i:=4) Nd rfl (Zzt rfl)) (An (Ac (i:=5) Nd rfl (Zzt rfl)) (An (Ac (i:=6) Nd rfl (Zzt rfl)) Cj))))
 (Aa (C5 (Cf Zz5 Zyn Zym Ck (pv 3) (A3 (At S7 (At C7 (pv 4) (At G5 (A8 hu (pv 2) (Ao rfl T.Zsl) (λ_ _=>rfl)) (pv 5))) (pv 6)) A1)))))
 (Aa (Ae (A7 Zr3 hr.z rfl (A3 (pv 3) A1)))))),?_⟩
 obtain⟨xe,c1,c2,rfl,hxe,_⟩:=Bt rx;obtain⟨kvs,hkv,hpl⟩:=id pl;obtain⟨l,hv,hll,hlen,hbd⟩:=hpl w.name (Zzv.mpr ⟨w,hm,rfl⟩);walk_at "rd";refine⟨Zyz _,λp hp=>?_⟩;have u0:=A4 (o:=.lst []) hp;have hcom:=g.com w hm;refine⟨v,.ref xe,S,w,sz,rfl,RD.same u0 _ _ rs,RD.same u0 _ _ rx,g,z0,z1,by have:=hcom.1;lia,λq hq=>(hcom.2 q hq).1.1,λq1 H1 hq1 hq2 sm1=>?_⟩;have s01:=u0.trans sm1;refine⟨_,Ad (j:=0) (s01 _ _ hxe) rfl,_,Ik (hkv.same s01) hv,?_⟩;refine⟨v,a,.ref xe,S,plan,w,sz,rfl,RD.same s01 _ _ rs,(pl.same s01).for _,RD.same s01 _ _ rx,g,z0,z1,λq2 H2 hq3 hq4 sm2=>?_⟩;have s02:=s01.trans sm2;have hp2:H2 p=some (.lst []):=sm2 _ _ (sm1 _ _ A0);refine⟨q1,rfl,l,rfl,q2,rfl,_,sm2 _ _ hq2,_,s02 _ _ hll,_,hq4,?_⟩;have lz:min ((Ap (AB S) (Cg w)).map V.int).length (min ((plan w.name).map V.int).length ((Az S plan w.name).map V.int).length)=AB S:=by
  rw[Zzz,Zzz,Zzz,Al,hlen];unfold Az;rw[Al,Zui,Zui]
 have G:=A1e q1 l q2 ((Ap (AB S) (Cg w)).map V.int) ((plan w.name).map V.int) ((Az S plan w.name).map V.int);rw[lz] at G;have q1p:q1≠p:=λe=>by rw[e,A0] at hq1;cases hq1
 have lp:l≠p:=A5 hll hp;have q2p:q2≠p:=λe=>by rw[e,sm1 _ _ A0] at hq3;cases hq3
 have xp:xe≠p:=A5 hxe hp;refine Zz G (A1x v a (.ref xe) p S plan w H2) ⟨_,_,_,rfl,Zyz _,hp2,λb o _ h=>h⟩ (λi Z H' _ h=>by obtain⟨_,_,_,_,_,_,s⟩:=h;exact⟨s _ _ q1p (sm2 _ _ hq2),s _ _ lp (s02 _ _ hll),s _ _ q2p hq4⟩) (λi ys pt Z H3 hi hys h hpt=>?_) (λZ H3 h=>?_)
 ·obtain⟨o1,o2,o3,rfl,hi',hp3,kp⟩:=h;obtain⟨y1,y2,y3,e1,e2,e3,rfl⟩:=hys;have ep:(plan w.name)[i]?=some ((plan w.name).getD i 0):=by
   rw[Zzp,Zzr (by lia)];rfl
  rw[Zzy,Bi hi] at e1;cases e1;rw[Zzy,ep] at e2;cases e2;unfold Az at e3;rw[Zzy,Bi hi] at e3;cases e3;have hb:=hbd _ (Zzu ep);have hg:=wb.gives;refine gT3 ?_;walk_at "rd";have pp:p≠pt:=A5 hp3 hpt;have kx:upd H3 pt (.tup [V.int (Cg w i),V.int ((plan w.name).getD i 0),V.int (Bj S plan w.name i)]) xe=some (.tup [V.str w.name,V.int w.lag,V.int w.gives,V.int w.floor,V.int w.stock,c1,c2]):=by
   rw[Ab (A5 (kp _ _ xp (s02 _ _ hxe)) hpt)];exact kp _ _ xp (s02 _ _ hxe)
  have hp4:upd H3 pt (.tup [V.int (Cg w i),V.int ((plan w.name).getD i 0),V.int (Bj S plan w.name i)]) p=some (.lst ((Ap i (Gv S plan w)).map V.int)):=by
   rw[Ab pp];exact hp3
  refine⟨Ds hp4,_,Ad (j:=2) kx rfl,_,rfl,.inl (.inl ⟨by lia,by lia⟩),_,hp4,?_,_,_,_,rfl,hi,?_,λb o nb hb=>?_⟩
  ·rw[Zzz,Al];exact Zz0 (m:=1000) (by lia) (by decide)
  ·rw[A0,Fx,Zzo];rfl
  ·rw[Ab nb,Ab (A5 (kp _ _ nb hb) hpt)];exact kp _ _ nb hb
 ·obtain⟨o1,o2,o3,rfl,hi',hp3,kp⟩:=h;walk_at "rd";refine⟨p,Ap (AB S) (Gv S plan w),rfl,hp3,by rw[Al];exact n2,λr H4 hr hr4 sm4=>?_⟩;have sm04:AA H H4:=λb o hb=>sm4 _ _ (kp _ _ (A5 hb hp) (s02 _ _ hb));refine k r H4 ?_ ?_ sm04
  ·cases e:H r with
   |none=>rfl
   |some o =>
    rw[kp _ _ (A5 e hp) (s02 _ _ e)] at hr;cases hr
  ·rw[hr4,zi];rfl
inductive EF (vs:List V) (H:Hp) (Q:VK) (E:XK):Prop | mk (v:V) (a:Addr) (S:Sh) (plan:Str->List Int) (w:Wr) (sz:Int) (_:vs=[v,.ref a,.str w.name]) (_:RD H S.d v) (_:AQ H a S plan) (_:w∈S.wares) (_:AF sz S) (_:0<sz) (_:sz<=1000) (_:∀p H',H p=none->H' p=some (.lst ((Ar S plan w).map V.int))->AA H H'->Q (.ref p) H')
theorem Y7(nd:(S.wares.map (·.name)).Nodup){w w':Wr}(h:w∈S.wares)(h':w'∈S.wares)(e:w.name=w'.name):w=w':=by
 obtain⟨i,hi,ei⟩:=Zy2.mp h;obtain⟨j,hj,ej⟩:=Zy2.mp h';have:(S.wares.map (·.name))[i]?=(S.wares.map (·.name))[j]?:=by
  rw[Zzy,Zzy,Zzr hi,Zzr hj,ei,ej];show some w.name=some w'.name;rw[e]
 have e2:=(Zv3 (by rw[Zzz];exact hi) nd).mp this;subst e2;rw[<- ei,<- ej]
theorem jw(F:Fun K "stocks" "stocks" Yw f fd)(T:Txt mg)(Ztx:Has P w K mg base "check_rings" 4 ["shop"] AW)(Zs1:Has P w K mg base "stocks_row" 4 ["shop", "plan", "ware"] CT)(Ztm:Has P w K mg base "ware_of" 1 ["shop", "name"] BL):B2 P w K mg base CX0 5 f fd ["shop", "plan", "name"] EF:=by
 refine F.go ["shop", "plan", "name"] ?_ ?_ ?_;walk_at "f";obtain⟨v,a,S,plan,w,sz,rfl,rs,pl,hm,g,z0,z1,k⟩:=h;have hu:=Au hr;refine⟨_,(A2 (C5 (A7 Ztx hr.z rfl (A3 (pv 0) A1)))
 (Aa (Ae (A7 Zs1 hr.z rfl (A3 (pv 0) (A3 (pv 1) (A3 (A7 Ztm hr.z rfl (A3 (pv 0) (A3 (pv 2) A1))) A1))))))),?_⟩
 walk_at "rd";refine⟨v,S,rfl,rs,g.ok,g.no,λH1 sm1=>?_⟩;refine⟨v,S,w.name,rfl,RD.same sm1 _ _ rs,g.ok,Zzv.mpr ⟨w,hm,rfl⟩,λx w' hw' en rx=>?_⟩;have e:=Y7 g.ws.nd hw' hm en;subst e;exact⟨v,a,x,S,plan,w',sz,rfl,RD.same sm1 _ _ rs,pl.same sm1,rx,hm,g,z0,z1,λp H2 hp hp2 sm2=>k p H2 (AA.free sm1 hp) hp2 (sm1.trans sm2)⟩
end
set_option maxHeartbeats 4000000
section
variable {dk:Dk}
inductive DR (vs:List V) (H:Hp) (Q:VK) (E:XK):Prop | mk (m g:_) (_:vs=[.int m,.int g]) (_:0<g) (_:g<10^200) (_:Q (.int (Cd m g)) H)
theorem Za(F:Fun K "lots_for" "lots_for" Rn f fd)(T:Txt mg):B2 P w K mg base CX0 1 f fd ["amount", "gives"] DR:=by
 refine F.go ["amount", "gives"] ?_ ?_ ?_;walk_at "f";obtain⟨m,g,rfl,h0,h1,k⟩:=h;have hu:=Au hr;refine⟨_,(Aa (Ae (Ai (Ou rfl) rfl T.Zrv Me (A3 A6 (A3 (V3 O9 (At Ie (V3 O9 (pv 0)) (pv 1))) A1))))),?_⟩;walk_at "rd";exact⟨h0,h1,k⟩
theorem Db{sz:Int}(g:AF sz S):W2 S where
 nd:=g.ws.nd
 own:=g.ws.own
 low:=g.ws.low
 ok:=g.ok
 few:=by have:=g.len.2;lia
theorem Ee{sz:Int}(g:AF sz S):Lx S where
 wb:=λw hw=>by
  have b:=g.ws.wb w hw;exact⟨⟨b.gives.1,Zxm b.gives.2 (by decide +kernel)⟩,⟨b.floor.1,Zxm b.floor.2 (by decide +kernel)⟩,b.stock.1,Zzd b.parts (by decide),λp hp=>⟨(b.amts p hp).1,Zxm (b.amts p hp).2 (by decide +kernel)⟩⟩
 com:=λw hw p hp=>((g.com w hw).2 p hp).2.1;few:=g.len.2;wt:=⟨g.wants.1,λu hu=>⟨(g.wants.2 u hu).2.2.1,Zxm (Int.le_of_lt (g.wants.2 u hu).2.2.2) (by decide +kernel)⟩⟩
theorem Jv{xs:List Int}(h:(xs.map V.int)[i]?=some y):y=.int (xs.getD i 0):=by
 rw[Zzy] at h;rw[Zzp];cases e:xs[i]? with
 |none=>rw[e] at h;cases h
 |some x=>rw[e] at h;cases h;rfl
theorem j8(nd:(S.wares.map (·.name)).Nodup){a b:Wr}(h1:a∈S.wares)(h2:b∈S.wares)(e:a.name=b.name):a=b:=by
 have:=Kg nd h1;rw[e,Kg nd h2] at this;exact(Zzh this).symm
inductive wp (a b p:Addr) (g f:Int) (xs ys:List Int) (H:Hp) (i:Nat) (Z:St) (H':Hp):Prop | mk (c d e:Option V) (_:Z=[some (.ref a),some (.ref b),some (.int g),some (.int f),some (.ref p),some (.int (above f g xs ys i)),c,d,e]) (_:H' p=some (.lst ((AO f g xs ys i).map V.int))) (_:AA H H')
inductive CU (vs:List V) (H:Hp) (Q:VK) (E:XK):Prop | mk (a b:Addr) (g f:Int) (xs ys:List Int) (_:vs=[.ref a,.ref b,.int g,.int f]) (_:H a=some (.lst (xs.map V.int))) (_:H b=some (.lst (ys.map V.int))) (_:ys.length=xs.length) (_:xs.length<=1000) (_:0<g) (_:g<10^200) (_:(∀i,i<xs.length->EG g (Gq f g xs ys i))) (_:∀p H',H p=none->H' p=some (.lst ((AO f g xs ys xs.length).map V.int))->AA H H'->Q (.ref p) H')
theorem Tt(F:Fun K "least_lots" "least_lots" Mt f fd)(T:Txt mg)(Zre:Has P w K mg base "lots_for" 1 ["amount", "gives"] DR):B2 P w K mg base CX0 2 f fd ["have", "need", "gives", "floor"] CU:=by
 refine F.go ["have", "need", "gives", "floor", "told", "above_floor", "comes", "goes", "lots"] ?_ ?_ ?_;walk_at "f";obtain⟨a,b,g,fl,xs,ys,rfl,ha,hb,hl,hn,g0,g200,hm,k⟩:=h;have hu:=Au hr;refine⟨_,(A2 (Af (i:=4) Nd rfl (Zzt rfl) (Bh A1))
 (A2 (Af (i:=5) Nd rfl (Zzt rfl) (V3 O9 (pv 3)))
 (A2 (Bk PassesOwn.never rfl (gh rfl T.Zqz (A3 (pv 0) (A3 (pv 1) A1))) (Do (n:=2) rfl (An (Ac (i:=6) Nd rfl (Zzt rfl)) (An (Ac (i:=7) Nd rfl (Zzt rfl)) Cj)))
 (A2 (bh (i:=5) Nd rfl (Zzt rfl) (At S7 (pv 6) (pv 7)) Nq)
 (A2 (Af (i:=8) Nd rfl (Zzt rfl) (A7 Zre hr.z rfl (A3 (V3 O9 (pv 5)) (A3 (pv 2) A1))))
 (A2 (bh (i:=5) Nd rfl (Zzt rfl) (At G5 (pv 2) (pv 8)) Nq)
 (Aa (C5 (Cf Zz5 Zyn Zym Ck (pv 4) (A3 (pv 8) A1))))))))
 (Aa (Ae (pv 4)))))),?_⟩
 walk_at "rd";refine⟨Zyz _,λp hp=>⟨_,by rw[Ab (A5 ha hp)];exact ha,_,by rw[Ab (A5 hb hp)];exact hb,?_⟩⟩;have en:min (xs.map V.int).length (ys.map V.int).length=xs.length:=by rw[Zzz,Zzz];lia
 refine Zz (v5 a b _ _) (wp a b p g fl xs ys H) ⟨_,_,_,rfl,A0,A4 hp⟩ (λi Z H' _ h=>by obtain⟨_,_,_,_,_,s⟩:=h;exact⟨s _ _ ha,s _ _ hb⟩) (λi us t Z H' hi hy h ht=>?_) (λZ H' h=>?_)
 ·obtain⟨c,d,e,rfl,h1,sm⟩:=h;obtain⟨y,z,ey,ez,rfl⟩:=hy;have hy:=Jv ey;have hz:=Jv ez;subst hy hz;refine gT2 ?_;walk_at "rd";refine⟨_,_,rfl,g0,g200,?_⟩;have eL:Cd (-(above fl g xs ys i+(xs.getD i 0 - ys.getD i 0))) g=Gq fl g xs ys i:=rfl;rw[eL];have hp':upd H' t (.tup [.int (xs.getD i 0),.int (ys.getD i 0)]) p=some (.lst ((AO fl g xs ys i).map V.int)):=by rw[Ab (A5 h1 ht)];exact h1
  walk_at "rd";refine⟨hm i (by lia),Ds hp',_,hp',Zz0 (m:=1000) (by rw[Zzz,Zn];lia) (by decide),?_⟩;refine⟨_,_,_,rfl,?_,λb' o hb'=>?_⟩
  ·rw[A0,kh,Zzo];rfl
  ·rw[Ab (A5 hb' hp)];exact(sm.trans (A4 ht)) b' o hb'
 ·obtain⟨c,d,e,rfl,h1,sm⟩:=h;walk_at "rd";rw[en] at h1;exact k p H' hp h1 sm
def dayV:Option Nat->V
 |some d=>.int d
 |none=>.non
inductive CM (vs:List V) (H:Hp) (Q:VK) (E:XK):Prop | mk (a:Addr) (row:List Int) (lag:Int) (_:vs=[.ref a,.int lag]) (_:H a=some (.lst (row.map V.int))) (_:row.length<=1000) (_:∀H',AA H H'->Q (dayV (C8 row lag)) H')
inductive wu (a:Addr) (lag:Int) (row:List Int) (H:Hp) (i:Nat) (Z:St) (H':Hp):Prop | mk (c d:Option V) (_:Z=[some (.ref a),some (.int lag),c,d]) (_:Cr row lag i=none) (_:AA H H')
theorem Sf(F:Fun K "first_early" "first_early" M7 f fd)(T:Txt mg):B2 P w K mg base CX0 1 f fd ["lots", "lag"] CM:=by
 refine F.go ["lots", "lag", "day", "count"] ?_ ?_ ?_;walk_at "f";obtain⟨a,row,lag,rfl,ha,hl,k⟩:=h;have hu:=Au hr;refine⟨_,(A2 (Bk PassesOwn.never rfl (gj rfl T.Zr5 (A3 (pv 0) A1)) (Do (n:=2) rfl (An (Ac (i:=2) Nd rfl (Zzt rfl)) (An (Ac (i:=3) Nd rfl (Zzt rfl)) Cj)))
 (Aa (Ay (PW.pt (J7 (Ah (Eh hu) (pv 2) (pv 1) (Aj _)) (He (Ah S9 (pv 3) A6 (Aj _))))) (Aa (Ae (pv 2))) Ak)))
 (Aa (Ae Fz))),?_⟩
 walk_at "rd";refine⟨_,ha,?_⟩;refine Zz (A08 a _) (wu a lag row H) ⟨_,_,rfl,rfl,AA.refl _⟩ (λi Z H' _ h=>by obtain⟨_,_,_,_,s⟩:=h;exact s _ _ ha) (λi us t Z H' hi hy h ht=>?_) (λZ H' h=>?_)
 ·obtain⟨c,d,rfl,hn,sm⟩:=h;obtain⟨y,ey,rfl⟩:=hy;have hy:=Jv ey;subst hy;rw[Zzz] at hi;have s2:=sm.trans (A4 (o:=.tup [.int i,.int (row.getD i 0)]) ht);have es:Cr row lag (i+1)=if (i:Int)<lag/\0<row.getD i 0 then some i else none:=by rw[Cr,hn]
  refine gT2 ?_;walk_at "rd";refine Dq (λh1=>Dq (λh2=>?_) (λh2=>?_)) (λh1=>?_)
  ·have h1:=FV h1
   have h2:=FV h2;rw[FZ ⟨h1,h2⟩] at es;have e:C8 row lag=some i:=dc es (by lia);have:=k _ s2;rw[e] at this;exact this
  ·exact⟨_,_,rfl,by rw[es,FY (λc=>h2 (FW c.2))],s2⟩
  ·exact⟨_,_,rfl,by rw[es,FY (λc=>h1 (FW c.1))],s2⟩
 ·obtain⟨c,d,rfl,hn,sm⟩:=h;rw[Zzz] at hn;walk_at "rd";have:=k _ sm;unfold C8 at this;rw[hn] at this;exact this
def A37(kvs:List (Key×V))(l:List Str):Prop:=∀nm∈l,∀nm'∈l,∀q:Addr,Cy kvs (.inr nm)=some (.ref q)->Cy kvs (.inr nm')=some (.ref q)->nm=nm'
inductive wj (H H':Hp) (a:Addr) (S:Sh) (l:List Str):Prop | mk (kvs:_) (_:H' a=some (.dK kvs)) (_:kvs.map (·.1)=l.map Zy4) (_:(∀nm∈l,∃q:Addr,H q=none/\q≠a/\Cy kvs (.inr nm)=some (.ref q)/\H' q=some (.lst ((LR S nm).map V.int)))) (_:A37 kvs l)
inductive Ia (Pt:Addr) (vs:List V) (H:Hp) (Q:VK) (E:XK):Prop | mk (v:V) (S:Sh) (sz:Int) (_:vs=[v]) (_:RD H S.d v) (_:AF sz S) (_:0<sz) (_:sz<=1000) (_:Tb H Pt) (_:∀(t p:Addr) (ys:List Str) (i:Nat) (H':Hp),H t=none->H p=none->t≠p->Jo (lv S) (Be S) ys->wj H H' p S (ys.take i)->(∀w∈S.wares,w.name∈ys.take i->C8 (LR S w.name) w.lag=none)->Tb H' Pt->But Pt H H'->((i=ys.length/\H' t=some (.tup [.str "plan",.ref p]))\/∃(w:Wr) (d:Nat),w∈S.wares/\ys[i]?=some w.name/\C8 (LR S w.name) w.lag=some d/\H' t=some (.tup [.str "short",.ref p,.str w.name,.int d,.int ((LR S w.name).getD d 0)]))->Q (.ref t) H')
inductive zx (v:V) (p:Addr) (S:Sh) (ys:List Str) (H H1:Hp) (i:Nat) (Z:St) (H':Hp):Prop | mk (o2 o3 o4 o5:Option V) (_:Z=[some v,some (.ref p),o2,o3,o4,o5]) (_:wj H H' p S (ys.take i)) (_:(∀w∈S.wares,w.name∈ys.take i->C8 (LR S w.name) w.lag=none)) (_:∀b o,b≠p->H1 b=some o->H' b=some o)
theorem br(F:Fun K "planned" "planned" Us f fd)(T:Txt mg)(Zt2:Has P w K mg base "worked" 6 ["shop"] (Lg Pt))(Ztm:Has P w K mg base "ware_of" 1 ["shop", "name"] BL)(Zs0:Has P w K mg base "least_lots" 2 ["have", "need", "gives", "floor"] CU)(Zsz:Has P w K mg base "needs_row" 3 ["shop", "plan", "ware"] CB)(Ztf:Has P w K mg base "arrivals_row" 2 ["shop", "ware"] BO)(Zsa:Has P w K mg base "first_early" 1 ["lots", "lag"] CM):B2 P w K mg base CX0 7 f fd ["shop"] (Ia Pt):=by
 refine F.go ["shop", "plan", "name", "ware", "lots", "day"] ?_ ?_ ?_;walk_at "f";obtain⟨v,S,sz,rfl,rs,g,z0,z1,tb,k⟩:=h;have hu:=Au hr;obtain⟨n1,n2,n3,n4⟩:=g.days z0 z1;refine⟨_,(A2 (Af (i:=1) Nd rfl (Zzt rfl) Jh)
 (A2 (Bk PassesOwn.never rfl (Cq (A7 Zt2 hr.z rfl (A3 (pv 0) A1))) (Ac (i:=2) Nd rfl (Zzt rfl))
 (A2 (Af (i:=3) Nd rfl (Zzt rfl) (A7 Ztm hr.z rfl (A3 (pv 0) (A3 (pv 2) A1))))
 (A2 (Af (i:=4) Nd rfl (Zzt rfl) (A7 Zs0 hr.z rfl (A3 (A7 Ztf hr.z rfl (A3 (pv 0) (A3 (pv 3) A1))) (A3 (A7 Zsz hr.z rfl (A3 (pv 0) (A3 (pv 1) (A3 (pv 3) A1)))) (A3 (A8 hu (pv 3) (Ao rfl T.Zsl) (λ_ _=>rfl)) (A3 (A8 hu (pv 3) (Ao rfl T.Zs6) (λ_ _=>rfl)) A1))))))
 (A2 (Af (i:=5) Nd rfl (Zzt rfl) (A7 Zsa hr.z rfl (A3 (pv 4) (A3 (A8 hu (pv 3) (Ao rfl T.Zs7) (λ_ _=>rfl)) A1))))
 (A2 (Ay (Ah V5 (pv 5) Fz (Aj _)) (Aa (Ae (Cz (A3 Am (A3 (pv 1) (A3 (pv 2) (A3 (pv 5) (A3 (A8 hu (pv 4) (pv 5) (λ_ _=>rfl)) A1)))))))) Ak)
 (Aa (Eo (pv 4) (Fy (pv 1) (pv 2) (Gm hu)))))))))
 (Aa (Ae (Cz (A3 Am (A3 (pv 1) A1))))))),?_⟩
 have L:=Db g;have PL:=Ee g;have hfew:=L.few;walk_at "rd";intro p hp;have u0:=A4 (o:=.dK []) hp;refine⟨v,S,rfl,RD.same u0 _ _ rs,L,tb.same u0,λq ys H1 hq hq1 so sb tb1 bt1=>⟨q,rfl,_,hq1,?_⟩⟩;have tb0:=tb.same u0;have pPt:p≠Pt:=λz=>by obtain⟨u,e⟩:=tb.at;rw[<- z,hp] at e;cases e
 have hp1:H1 p=some (.dK []):=bt1 _ _ pPt A0;have qp:q≠p:=si hq1 hp1 (λz=>by cases z);have hyl:ys.length=S.wares.length:=by rw[so.1.length_eq,Cn]
 have ndy:ys.Nodup:=so.1.nodup_iff.mpr L.nd;have so':Q3 (lv S) (S.wares.map (·.name)) ys:=so;have rs1:=RD.ku (Kk tb0 bt1) _ _ (E2 S) (RD.same u0 _ _ rs);have fresh:∀(H':Hp) (b:Addr),(∀b o,b≠p->H1 b=some o->H' b=some o)->H' b=none->b≠p->H b=none:=λH' b kp hb nb=>by
  cases e:H b with
  |none=>rfl
  |some o =>
   by_cases z:b=Pt
   ·obtain⟨u,e2⟩:=tb1.at;rw[z,kp _ _ (Zzi pPt) e2] at hb;cases hb
   ·rw[kp _ _ nb (bt1 _ _ z (u0 _ _ e))] at hb;cases hb
 have keepB:∀(H':Hp),(∀b o,b≠p->H1 b=some o->H' b=some o)->But Pt H H':=λH' kp b o nb e=>kp _ _ (A5 e hp) (bt1 _ _ nb (u0 _ _ e));have keepT:∀(H':Hp),(∀b o,b≠p->H1 b=some o->H' b=some o)->Tb H' Pt:=λH' kp=>by
  rcases tb1 with e | ⟨c,e,e2⟩
  ·exact .inl (kp _ _ (Zzi pPt) e)
  ·exact .inr ⟨c,kp _ _ (Zzi pPt) e,kp _ _ (λz=>by rw[z,hp1] at e2;cases e2) e2⟩
 refine Cp (Dw q _) (zx v p S ys H H1) ⟨_,_,_,_,rfl,⟨[],hp1,rfl,(λnm hn=>by cases hn),λnm hn=>by cases hn⟩,(λw _ hn=>by cases hn),λb o _ e=>e⟩ (λi Z H' _ h=>by obtain⟨_,_,_,_,_,_,_,kp⟩:=h;exact kp _ _ qp hq1) (λi x Z H2 hi hx h=>?_) (λZ H2 h=>?_)
 ·obtain⟨o2,o3,o4,o5,rfl,⟨kvs,hp2,hks,hrow,hap⟩,hne,kp⟩:=h;rw[Zzy] at hx;cases en:ys[i]? with
  |none=>rw[en] at hx;cases hx
  |some nm =>
  rw[en] at hx;have hx:V.str nm=x:=Zzh hx;subst hx;have hny:=Zzu en;have hnm:nm∈S.wares.map (·.name):=so.1.mem_iff.mp hny;have hil:i<ys.length:=(Zze.mp en).1;have ku2:AS H1 H2:=λb xs e=>kp b _ (si e hp1 (λz=>by cases z)) e;have rs2:=RD.ku ku2 _ _ (E2 S) rs1;walk_at "rd";refine⟨v,S,nm,rfl,rs2,L.ok,hnm,λt wt hwt ewt rt=>?_⟩;subst ewt;have hcom:=g.com wt hwt;have wb:=g.ws.wb wt hwt;obtain⟨te,d1,d2,rfl,hte,rc,rp⟩:=Bt rt;refine⟨v,.ref te,S,wt,sz,rfl,rs2,rt,g,z0,z1,by have:=hcom.1;lia,λq hq=>(hcom.2 q hq).1.1,λq1 H3 hq1' hq3 sm3=>?_⟩;have pf:BP H3 p S (LR S) (wd S wt.name):=⟨kvs,.inl (sm3 _ _ hp2),λnm' hn' hT=>by
   obtain⟨u,hu',rfl,pp,hpp,e⟩:=hT
   obtain⟨qr,_,_,hv,hl⟩:=hrow u.name (nt L.toLev so' en hu' hpp e)
   exact⟨qr,hv,sm3 _ _ hl,Eu L.toLev hu',λx hx=>⟨(Kd PL _ x hx).1,Int.lt_trans (Kd PL _ x hx).2 (by decide +kernel)⟩⟩⟩
  refine⟨v,p,.ref te,S,LR S,wt,sz,rfl,RD.same sm3 _ _ rs2,pf,RD.same sm3 _ _ rt,g,z0,z1,λq2 H4 hq4 hq5 sm4=>?_⟩;have s24:=sm3.trans sm4;have hte4:=s24 _ _ hte;refine⟨_,Ad (j:=2) hte4 rfl,_,Ad (j:=3) hte4 rfl,?_⟩;have lrq:AO wt.floor wt.gives (Ap (AB S) (Cg wt)) (Az S (LR S) wt.name) (Ap (AB S) (Cg wt)).length=LR S wt.name:=by rw[Al,<- Tj L.toLev hwt]
  refine⟨q1,q2,wt.gives,wt.floor,Ap (AB S) (Cg wt),Az S (LR S) wt.name,rfl,sm4 _ _ hq3,hq5,by unfold Az;rw[Al,Al],by rw[Al];exact n2,by have:=wb.gives.1;lia,Zxs wb.gives.2 (by decide +kernel),λj hj=>.inl (.inl ⟨by have:=wb.gives.1;lia,by have:=wb.gives.2;lia⟩),λr H5 hr5 hr6 sm5=>?_⟩;rw[lrq] at hr6;have s25:=s24.trans sm5;refine⟨_,Ad (j:=1) (s25 _ _ hte) rfl,r,LR S wt.name,wt.lag,rfl,hr6,by rw[Eu L.toLev hwt];exact n2,λH6 sm6=>?_⟩;have s26:=s25.trans sm6;have hr7:=sm6 _ _ hr6;have hp6:=s26 _ _ hp2;have kp6:∀b o,b≠p->H1 b=some o->H6 b=some o:=λb o nb e=>s26 _ _ (kp b o nb e);have rp:r≠p:=λz=>by rw[z,s24 _ _ hp2] at hr5;cases hr5
  have hr0:H r=none:=by
   have h2r:H2 r=none:=AA.free s24 hr5;exact fresh H2 r kp h2r rp
  have hrow6:∀nm'∈ys.take i,∃q':Addr,H q'=none/\q'≠p/\Cy kvs (.inr nm')=some (.ref q')/\H6 q'=some (.lst ((LR S nm').map V.int)):=λnm' hn'=>by obtain⟨q',e1,e2,e3,e4⟩:=hrow nm' hn';exact⟨q',e1,e2,e3,s26 _ _ e4⟩
  cases ea:C8 (LR S wt.name) wt.lag with
  |some d =>
   have hd:=Ey ea;have hdl:d<(LR S wt.name).length:=hd.1;have eg:(LR S wt.name)[d]?=some ((LR S wt.name).getD d 0):=by rw[Zzp,Zzr hdl];rfl
   show if (!decide (V.int (d:Int)=V.non))=true then _ else _
   rw[FZ (by rw[FX (λz=>by cases z)];rfl)];refine⟨.int ((LR S wt.name).getD d 0),Bq hr7 (by rw[Zzy,eg];rfl),by decide,λt ht=>?_⟩;have tp:t≠p:=λz=>by rw[z,hp6] at ht;cases ht
   have u7:=A4 (o:=.tup [.str "short",.ref p,.str wt.name,.int d,.int ((LR S wt.name).getD d 0)]) ht;have kp7:∀b o,b≠p->H1 b=some o->upd H6 t (.tup [.str "short",.ref p,.str wt.name,.int d,.int ((LR S wt.name).getD d 0)]) b=some o:=λb o nb e=>u7 _ _ (kp6 b o nb e);exact k t p ys i _ (fresh H6 t kp6 ht tp) hp tp sb ⟨kvs,u7 _ _ hp6,hks,λnm' hn'=>by obtain⟨q',e1,e2,e3,e4⟩:=hrow6 nm' hn';exact⟨q',e1,e2,e3,u7 _ _ e4⟩,hap⟩ hne (keepT _ kp7) (keepB _ kp7) (.inr ⟨wt,d,hwt,en,ea,A0⟩)
  |none =>
   show if (!decide (V.non=V.non))=true then _ else _
   rw[FY (by decide)];have hkl:kvs.length<=64:=by
    have:=congrArg Zxa hks;rw[Zzz,Zzz,Zz7] at this;lia
   refine⟨kvs,.inr wt.name,rfl,hp6,Zz0 hkl (by decide),_,_,_,_,rfl,⟨_,A0,?_,λnm' hn'=>?_,λnm1 hn1 nm2 hn2 q1' v1 v2=>?_⟩,λw' hw' hn'=>?_,λb o nb e=>by rw[Ab nb];exact kp6 b o nb e⟩
   ·have nn:Cy kvs (.inr wt.name)=none:=by
     cases e:Cy kvs (.inr wt.name) with
     |none=>rfl
     |some z =>
      have h3:=x8 e;rw[hks] at h3;obtain⟨y,hy,e2⟩:=Zzv.mp h3;rw[Zwh e2] at hy;exact absurd hy (Ja ndy en)
    rw[Rz _ nn,Zzo,hks,Zzb,en,Zzo];rfl
   ·rw[Zzb,en] at hn';rcases Zz4.mp hn' with z | z
    ·obtain⟨q',e1,e2,e3,e4⟩:=hrow6 nm' z;refine⟨q',e1,e2,by rw[Hw,FY (λz2=>Ja ndy en (by rw[<- Zwh z2];exact z))];exact e3,by rw[Ab e2];exact e4⟩
    ·have e:nm'=wt.name:=by simpa using z
     subst e;exact⟨r,hr0,rp,by rw[Hw,FZ rfl],by rw[Ab rp];exact hr7⟩
   ·have old:∀nm'∈ys.take i,∀q':Addr,Cy (Gx kvs (.inr wt.name) (.ref r)) (.inr nm')=some (.ref q')->Cy kvs (.inr nm')=some (.ref q')/\q'≠r:=λnm' hn' q' e=>by
     rw[Hw,FY (λz2=>Ja ndy en (by rw[<- Zwh z2];exact hn'))] at e;refine⟨e,λz=>?_⟩;obtain⟨q2',_,_,e3,e4⟩:=hrow nm' hn';rw[e] at e3;cases e3;rw[z,AA.free s24 hr5] at e4;cases e4
    have new:∀nm',nm'∈ys.take (i+1)->nm'∈ys.take i\/nm'=wt.name:=λnm' hn'=>by
     rw[Zzb,en] at hn';rcases Zz4.mp hn' with z | z
     ·exact .inl z
     ·exact .inr (by simpa using z)
    rcases new nm1 hn1 with z1 | z1<;>rcases new nm2 hn2 with z2 | z2
    ·exact hap nm1 z1 nm2 z2 q1' (old nm1 z1 q1' v1).1 (old nm2 z2 q1' v2).1
    ·rw[z2,Hw,FZ rfl] at v2;cases v2;exact absurd rfl (old nm1 z1 _ v1).2
    ·rw[z1,Hw,FZ rfl] at v1;cases v1;exact absurd rfl (old nm2 z2 _ v2).2
    ·rw[z1,z2]
   ·rw[Zzb,en] at hn';rcases Zz4.mp hn' with z | z
    ·exact hne w' hw' z
    ·have e:w'.name=wt.name:=by simpa using z
     rw[j8 L.nd hw' hwt e];exact ea
 ·obtain⟨o2,o3,o4,o5,rfl,hrow,hne,kp⟩:=h;rw[Zzz] at hrow hne;walk_at "rd";refine⟨by decide,λt ht=>?_⟩;obtain⟨kvs,hp2,hks,hr2,hap⟩:=hrow;have tp:t≠p:=λz=>by rw[z,hp2] at ht;cases ht
  have u7:=A4 (o:=.tup [.str "plan",.ref p]) ht;have kp7:∀b o,b≠p->H1 b=some o->upd H2 t (.tup [.str "plan",.ref p]) b=some o:=λb o nb e=>u7 _ _ (kp b o nb e);exact k t p ys ys.length _ (fresh H2 t kp ht tp) hp tp sb ⟨kvs,u7 _ _ hp2,hks,λnm' hn'=>by obtain⟨q',e1,e2,e3,e4⟩:=hr2 nm' hn';exact⟨q',e1,e2,e3,u7 _ _ e4⟩,hap⟩ hne (keepT _ kp7) (keepB _ kp7) (.inl ⟨rfl,A0⟩)
end
set_option maxHeartbeats 4000000
section
variable {dk:Dk}
inductive Yv (Pt:Addr) (vs:List V) (H:Hp) (Q:VK) (E:XK):Prop | mk (v:V) (S:Sh) (_:vs=[v]) (_:RD H S.d v) (_:W2 S) (_:Tb H Pt) (_:∀p ys H',H p=none->H' p=some (.dK (fnD ys (tm S)))->ys.Perm (Be S)->Tb H' Pt->But Pt H H'->Q (.ref p) H')
inductive zt (v:V) (p:Addr) (S:Sh) (ys:List Str) (Pt:Addr) (H:Hp) (j:Nat) (Z:St) (H':Hp):Prop | mk (o1 o2:Option V) (_:Z=[some v,some (.ref p),o1,o2]) (_:H' p=some (.dK (fnD (ys.reverse.take j) (tm S)))) (_:Tb H' Pt) (_:But Pt H H')
theorem rj(F:Fun K "times" "times" fk f fd)(T:Txt mg)(Zt2:Has P w K mg base "worked" 6 ["shop"] (Lg Pt))(Ztm:Has P w K mg base "ware_of" 1 ["shop", "name"] BL)(Ztv:Has P w K mg base "part_names" 1 ["ware"] AX):B2 P w K mg base CX0 7 f fd ["shop"] (Yv Pt):=by
 refine F.go ["shop", "told", "name", "ware"] ?_ ?_ ?_;walk_at "f";obtain⟨v,S,rfl,rs,L,tb,k⟩:=h;have hu:=Au hr;refine⟨_,(A2 (Af (i:=1) Nd rfl (Zwd rfl) Jh)
 (A2 (Bk PassesOwn.never rfl (A0t rfl T.Zr0 (A3 (A7 Zt2 hr.z rfl (A3 (pv 0) A1)) A1)) (Ac (i:=2) Nd rfl (Zzt rfl))
 (A2 (Af (i:=3) Nd rfl (Zzt rfl) (A7 Ztm hr.z rfl (A3 (pv 0) (A3 (pv 2) A1))))
 (Aa (Eo (At C7 (A8 hu (pv 3) (Ao rfl T.Zs7) (λ_ _=>rfl)) (gl rfl rfl T.Zrv (Bc (own:=["part"]) (cap:=[1]) rfl (Br rfl) (Aq (by decide)) (Cq (A7 Ztv hr.z rfl (A3 (pv 3) A1)))
 (λ_ _ _ _ _ _=>⟨(Ac (i:=0) (FV rfl) rfl (Zzt rfl) (.inr rfl)),Bb,(A8 hu (pv 1) (pv 0) (λ_ _=>rfl))⟩)))) (Fy (pv 1) (pv 2) (Gm hu))))))
 (Aa (Ae (pv 1))))),?_⟩
 have hfew:=L.few;walk_at "rd";intro p hp;have u0:=A4 (o:=.dK []) hp;refine⟨v,S,rfl,RD.same u0 _ _ rs,L,tb.same u0,λq ys H1 hq hq1 so _ tb1 bt=>⟨q,rfl,_,hq1,?_⟩⟩;have pPt:p≠Pt:=λz=>by obtain⟨u,e⟩:=tb.at;rw[<- z,hp] at e;cases e
 have hp1:H1 p=some (.dK []):=bt _ _ pPt A0;have bt0:But Pt H H1:=λb o nb e=>bt b o nb (u0 b o e);have so':Q3 (lv S) (S.wares.map (·.name)) ys:=so;have hyl:ys.length=S.wares.length:=by rw[so.1.length_eq,Cn]
 have ndy:ys.reverse.Nodup:=((List.reverse_perm ys).trans so.1).nodup_iff.mpr L.nd;have qp:q≠p:=λz=>by rw[z,A0] at hq;cases hq
 refine Cp (A2h q _) (λj Z H'=>zt v p S ys Pt H j Z H'/\H' q=some (.lst (ys.map V.str))) ⟨⟨_,_,rfl,hp1,tb1,bt0⟩,hq1⟩ (λj Z H' _ h=>h.2) (λj x Z H2 hj hx h=>?_) (λZ H2 h=>?_)
 ·obtain⟨⟨o1,o2,rfl,hp2,tb2,bt2⟩,hq2⟩:=h;rw[Zzz] at hj;rw[<- List.map_reverse,Zzy] at hx;cases en:ys.reverse[j]? with
  |none=>rw[en] at hx;cases hx
  |some nm =>
  rw[en] at hx;have hx:V.str nm=x:=Zzh hx;subst hx;have hnm:nm∈S.wares.map (·.name):=so.1.mem_iff.mp (List.mem_reverse.mp (Zzu en));have rs2:=RD.ku (Kk tb bt2) _ _ (E2 S) rs;walk_at "rd";refine⟨v,S,nm,rfl,rs2,L.ok,hnm,λt wt hwt ewt rt=>?_⟩;subst ewt;obtain⟨te,d1,d2,rfl,hte,_⟩:=Bt rt;refine⟨_,Ad (j:=1) hte rfl,.ref te,wt,rfl,rt,L.ok.wares wt hwt,λr H3 hr3 hr4 sm3=>⟨r,rfl,_,hr4,?_⟩⟩;have hp3:=sm3 _ _ hp2;have hpl:=(L.ok.wares wt hwt).1;have ap:∀pp∈wt.parts,pp.1∈ys.reverse.take j:=λpp hpp=>Z6 L.toLev so' hwt en hpp;refine Bg (Dw r _) (Ag (by rw[Zzz,Zzz];exact hpl)) (λH' s'=>s' _ _ hr4) ((wt.parts.map λpp=>tm S pp.1).map V.int) (by rw[Zzz,Zzz,Zzz,Zzz]) (λi y H' hi hy s' N M hN=>?_) (λH4 s4 z hz=>?_)
  ·rw[Zzy,Zzy] at hy;cases ep:wt.parts[i]? with
   |none=>rw[ep] at hy;cases hy
   |some pp =>
   rw[ep] at hy;have hy:V.str pp.1=y:=Zzh hy;subst hy;walk_at "rd";exact⟨_,Ik (.inl (s' _ _ hp3)) (Nu (ap pp (Zzu ep))),hN _ _ s' (by rw[Zzy,Zzy,ep];rfl)⟩
  ·have s5:=(sm3.trans s4).trans (A4 (o:=.lst ((wt.parts.map λpp=>tm S pp.1).map V.int)) hz)
   have hp5:=s5 _ _ hp2;have hq5:=s5 _ _ hq2;have tb5:=tb2.same s5;refine⟨z,rfl,_,A0,?_⟩;generalize upd H4 z (.lst ((wt.parts.map λpp=>tm S pp.1).map V.int))=H5 at s5 hp5 hq5 tb5;refine⟨_,rfl,_,.inr wt.name,rfl,hp5,?_,⟨_,_,rfl,?_,?_,λb o nb e=>?_⟩,by rw[Ab qp];exact hq5⟩
   ·rw[Xo,Zz7,Zw9];exact Zz0 (m:=1000) (by lia) (by decide)
   ·rw[A0,<- nj L.toLev hwt,ii (Ja ndy en),Zzb,en];exact congrArg (λz=>some (HO.dK z)) (Op λx _=>by split<;>rename_i e<;>first | rw[e] | rfl)
   ·rcases tb5 with e | ⟨c,e,e2⟩
    ·exact .inl (by rw[Ab (Zzi pPt)];exact e)
    ·exact .inr ⟨c,by rw[Ab (Zzi pPt)];exact e,by rw[Ab (λz=>by rw[z,hp5] at e2;cases e2)];exact e2⟩
   ·rw[Ab (A5 e hp)];exact s5 _ _ (bt2 _ _ nb e)
 ·obtain⟨⟨o1,o2,rfl,hp2,tb2,bt2⟩,hq2⟩:=h;rw[Zzz,<- Zw9,Zzf] at hp2;walk_at "rd";exact k p ys.reverse H2 hp hp2 ((List.reverse_perm ys).trans so.1) tb2 bt2
noncomputable def Nc(d:Int)(p:Wt):Wt:=(p.1,p.2.1+d,p.2.2)
def A1q(S:Sh)(d:Int)(H:Hp)(i:Nat)(acc:List V)(H':Hp):Prop:=acc.length=i/\RDs H' ((S.wants.take i).map λp=>Ha (Nc d p)) acc/\AA H H'
inductive EA (vs:List V) (H:Hp) (Q:VK) (E:XK):Prop | mk (v:V) (S:Sh) (d:Int) (_:vs=[v,.int d]) (_:RD H S.d v) (_:Th S) (_:K4 S) (_:S.wants.length<=1000) (_:∀x H',RD H' (Sh.d ⟨S.wares,S.wants.map (Nc d)⟩) x->AA H H'->Q x H')
theorem bq(F:Fun K "put_off" "put_off" Ur f fd)(T:Txt mg)(Ztx:Has P w K mg base "check_rings" 4 ["shop"] AW):B2 P w K mg base CX0 5 f fd ["shop", "days"] EA:=by
 refine F.go ["shop", "days", "later"] ?_ ?_ ?_;walk_at "f";obtain⟨v,S,d,rfl,rs,ok,no,hw,k⟩:=h;have hu:=Au hr;refine⟨_,(A2 (C5 (A7 Ztx hr.z rfl (A3 (pv 0) A1)))
 (A2 (Df (own:=["want"]) (cap:=[1]) (i:=2) rfl (Br rfl) (Aq (by decide)) Nd rfl rfl (Ca (A8 hu (pv 0) A6 (λ_ _=>rfl)))
 (λ_ _ _ _ _ _=>⟨(Ac (i:=0) (FV rfl) rfl (Zzt rfl) (.inr rfl)),Bb,(Cz (A3 (A8 hu (pv 0) (Ao rfl T.Zt0) (λ_ _=>rfl)) (A3 (At C7 (A8 hu (pv 0) (Ao rfl T.Zt3) (λ_ _=>rfl)) (pv 1)) (A3 (A8 hu (pv 0) (Ao rfl T.Ztd) (λ_ _=>rfl)) A1))))⟩))
 (Aa (Ae (Cz (A3 (A8 hu (pv 0) A6 (λ_ _=>rfl)) (A3 (As Bv rfl T.Ztk D2 (A3 (pv 2) A1)) A1))))))),?_⟩
 refine zh (λZ' H'=>∃(l:Addr) (acc:List V),Z'=[some v,some (.int d),some (.ref l)]/\H' l=some (.lst acc)/\RDs H' (S.wants.map λp=>Ha (Nc d p)) acc/\AA H H') ?_ (λKK hK=>?_)
 ·rintro Z' H1 ⟨l,acc,rfl,hl,racc,sm⟩;obtain⟨a,b,c,ws,us,rfl,ha,hb,hc,rws,rus⟩:=Cb rs;walk_at "rd";refine⟨_,Ad (j:=0) (sm _ _ ha) rfl,acc,.inl ⟨hl,λt ht=>?_⟩⟩;have s1:=A4 (o:=.tup acc) ht;refine⟨by show 2<=sizeLine;decide,λr hr'=>?_⟩;have s2:=s1.trans (A4 (o:=.tup [.ref b,.ref t]) hr');refine k _ _ ?_ (sm.trans s2);unfold Sh.d;refine RD.tup_mk A0 (RDs.cons (RD.tup_mk (s2 _ _ (sm _ _ hb)) (RDs.same (sm.trans s2) _ _ rws)) (RDs.one (RD.tup_mk (xs:=acc) ?_ ?_)))
  ·rw[Ab (A5 A0 hr'),A0]
  ·rw[Zz1];exact RDs.same s2 _ _ racc
 ·walk_at "rd";refine⟨v,S,rfl,rs,ok,no,λH1 sm=>?_⟩;obtain⟨a,b,c,ws,us,rfl,ha,hb,hc,rws,rus⟩:=Cb rs;have hl:=Aw rus;refine⟨_,Ad (j:=1) (sm _ _ ha) rfl,c,rfl,_,sm _ _ hc,?_⟩;refine Et (D1 c _) (Ag (by rw[hl];exact hw)) (A1q S d H) ⟨rfl,RDs.nil,sm⟩ (λi acc H' _ h=>h.2.2 _ _ hc) (λi acc H' h=>Zwo h.1) (λi x acc H' hi hx h=>?_) (λacc H' h p hp=>?_)
  ·obtain⟨h1,h2,h3⟩:=h;obtain⟨y,hy,ry⟩:=Ax rus hx;obtain⟨e,rfl,he⟩:=G3 ry;have he':=h3 _ _ he;walk_at "rd";refine⟨_,Ad (j:=0) he' rfl,_,Ad (j:=1) he' rfl,_,rfl,_,Ad (j:=2) he' rfl,by show 3<=sizeLine;decide,λt ht=>?_⟩;have s1:=A4 (o:=.tup [.str y.1,.int (y.2.1+d),.int y.2.2]) ht;refine⟨by simp[h1],?_,h3.trans s1⟩;rw[Zzb,hy,Zzo];refine RDs.app (RDs.same s1 _ _ h2) (RDs.one ?_);exact RD.tup_mk A0 (RDs.cons RD.str_mk (RDs.cons RD.int_mk (RDs.one RD.int_mk)))
  ·obtain⟨h1,h2,h3⟩:=h;rw[hl,Zzf] at h2;exact hK _ _ ⟨p,acc,rfl,A0,RDs.same (A4 hp) _ _ h2,h3.trans (A4 hp)⟩
theorem ab:∀{n:Nat},(∀e,e<n->¬ ((e:Int)<lag/\0<row.getD e 0))->Cr row lag n=none
 |0,_=>rfl
 |n+1,h=>by
  rw[Cr,ab λe he=>h e (by lia)];show (if (n:Int)<lag/\0<row.getD n 0 then some n else none)=none;rw[FY (h n (by lia))]
def noS(S:Sh):Sh:=⟨S.wares,[]⟩
noncomputable def Dg(n:Int)(S:Sh):Sh:=⟨S.wares,S.wants.map (Nc n)⟩
def Cc(S:Sh):Prop:=∀w∈S.wares,C8 (LR S w.name) w.lag=none
theorem Lo{S':Sh}(h:Lev S)(e:S'.wares=S.wares):Lev S':=by
 obtain⟨ws,us⟩:=S;obtain⟨ws',us'⟩:=S';obtain rfl:ws'=ws:=e;exact⟨h.nd,h.own,h.low⟩
theorem yn{b:Int}(hb:0<=b)(h:∀x∈ns,x<=b):Fb ns<=b:=by
 have:=Xi (b:=b+1) (by lia) λx hx=>by have:=h x hx;lia
 lia
theorem av(hl:∀w∈S.wares,0<=w.lag):∀k x,0<=tmF S k x
 |0,x=>Zz9 _
 |k+1,x=>by
  rw[tmF];split
  ·rename_i w hw;have h1:=hl w (O7 hw).1;have h2:=Nk (ns:=w.parts.map λp=>tmF S k p.1) (λy hy=>by obtain⟨p,_,rfl⟩:=Zzv.mp hy;exact av hl k p.1);lia
  ·exact Zz9 _
theorem ax(hl:∀w∈S.wares,0<=w.lag/\w.lag<=30):∀(k:Nat) x,tmF S k x<=30*k
 |0,x=>by rw[tmF];lia
 |k+1,x=>by
  rw[tmF];split
  ·rename_i w hw;have h1:=hl w (O7 hw).1;have h2:=yn (ns:=w.parts.map λp=>tmF S k p.1) (b:=30*k) (by lia) (λy hy=>by obtain⟨p,_,rfl⟩:=Zzv.mp hy;exact ax hl k p.1);lia
  ·lia
theorem x9(L:Lev S){t:Wr}(ht:t∈S.wares){p:Str×Int}(hp:p∈t.parts):t.lag+tm S p.1<=tm S t.name:=by
 rw[nj L ht];have:=Nl (ns:=t.parts.map λp=>tm S p.1) (Zzv.mpr ⟨p,hp,rfl⟩);lia
theorem A0l(L:Lev S)(hl:∀w∈S.wares,0<=w.lag){t:Wr}(ht:t∈S.wares):t.lag<=tm S t.name:=by
 rw[nj L ht];have:=Nk (ns:=t.parts.map λp=>tm S p.1) (λy hy=>by obtain⟨p,_,rfl⟩:=Zzv.mp hy;exact av hl _ p.1);lia
theorem Nw(S:Sh):AB (noS S)=1:=rfl
theorem G1{xs:List Int}{d:Nat}(h:xs.length<=d):xs.getD d 0=0:=by
 rw[Zzp,Zyt h];rfl
theorem Jz(row:List Int)(lag:Int)(d:Nat):bAt row lag d=row.getD (d+lag.toNat) 0:=by
 unfold bAt;split
 ·rfl
 ·rw[G1 (by lia)]
theorem Zj{T:Int}{plan0:Str->List Int}{d:Nat}(hd:∀u∈S.wants,(d:Int)<u.2.1+T)(h:∀t∈S.wares,∀p∈t.parts,p.1=nm->bAt (plan t.name) t.lag d=bAt (plan0 t.name) t.lag d):Bj (Dg T S) plan nm d=Bj (noS S) plan0 nm d:=by
 unfold Bj;have e1:Ba (wAt nm d) (Dg T S).wants=0:=Ev λx hx=>by
  obtain⟨u,hu,rfl⟩:=Zzv.mp hx;have:=hd u hu;unfold wAt Nc;rw[FY (λz=>by have:=z.2;simp only at this;lia)]
 have e2:Ba (wAt nm d) (noS S).wants=0:=rfl;rw[e1,e2];congr 1;refine Fv λt ht=>?_;unfold pAt;refine Fv λp hp=>?_;by_cases e:p.1=nm
 ·rw[FZ e,FZ e,h t ht p hp e]
 ·rw[FY e,FY e]
theorem rn(L:Lev S)(E:Lx S)(hl:∀w∈S.wares,0<=w.lag){T:Int}(hT:∀w∈S.wares,tm S w.name<=T)(hw0:∀u∈S.wants,0<=u.2.1)(h1:1<=AB (Dg T S)):∀n:Nat,∀w∈S.wares,lv S w.name<=n->0<tm S w.name ->
  (LR (Dg T S) w.name).getD 0 0=(LR (noS S) w.name).getD 0 0/\∀d:Nat,0<d->(d:Int)<tm S w.name->(LR (Dg T S) w.name).getD d 0=0:=by
 intro n;induction n using Nat.strongRecOn with
 |_ n ih =>
 intro w hw hlv ht;have L1:Lev (Dg T S):=Lo L rfl;have L0:Lev (noS S):=Lo L rfl;have hTw:=hT w hw;have user:∀t∈S.wares,∀p∈t.parts,p.1=w.name->∀d:Nat,(d:Int)<tm S w.name->bAt (LR (Dg T S) t.name) t.lag d=if d+t.lag.toNat=0 then (LR (noS S) t.name).getD 0 0 else 0:=λt htm p hp e d hd=>by
  have q1:=Ln L htm hp;have q2:=x9 L htm hp;rw[e] at q1 q2;have q3:=Ss S t.name;have q4:=hl t htm;obtain⟨a1,a2⟩:=ih (lv S t.name).toNat (by lia) t htm (by lia) (by lia);rw[Jz];by_cases z:d+t.lag.toNat=0
  ·rw[FZ z,z];exact a1
  ·rw[FY z];exact a2 _ (by lia) (by lia)
 have nd0:Bj (Dg T S) (LR (Dg T S)) w.name 0=Bj (noS S) (LR (noS S)) w.name 0:=Zj (λu hu=>by have:=hw0 u hu;lia) λt htm p hp e=>by
  rw[user t htm p hp e 0 (by lia),Jz];by_cases z:0+t.lag.toNat=0
  ·rw[FZ z,z]
  ·rw[FY z,G1 (by rw[Eu L0 htm,Nw];lia)]
 have ndd:∀d:Nat,0<d->(d:Int)<tm S w.name->Bj (Dg T S) (LR (Dg T S)) w.name d=0:=λd d0 d1=>by
  rw[Zj (plan0:=λ_=>[]) (λu hu=>by have:=hw0 u hu;lia) λt htm p hp e=>by
   rw[user t htm p hp e d d1,FY (by lia),Jz]
   rfl]
  unfold Bj;rw[show Ba (wAt w.name d) (noS S).wants=0 from rfl,Ev λt htm=>?_]
  ·rfl
  ·unfold pAt;exact Ev λp hp=>by
    rw[Jz];split
    ·exact Int.mul_zero _
    ·rfl
 have E1:=(E.wb w hw).1.1;refine⟨?_,λd d0 d1=>?_⟩
 ·rw[Tj L1 (show w∈(Dg T S).wares from hw),Tj L0 (show w∈(noS S).wares from hw),Jk (by lia),Jk (by rw[Nw];lia)];have x1:(Ap (AB (Dg T S)) (Cg w)).getD 0 0=Cg w 0:=Bn (by lia);have x0:(Ap (AB (noS S)) (Cg w)).getD 0 0=Cg w 0:=Bn (by rw[Nw];lia);have y1:(Az (Dg T S) (LR (Dg T S)) w.name).getD 0 0=Bj (Dg T S) (LR (Dg T S)) w.name 0:=Bn (by lia);have y0:(Az (noS S) (LR (noS S)) w.name).getD 0 0=Bj (noS S) (LR (noS S)) w.name 0:=Bn (by rw[Nw];lia);show Cd (-(-w.floor+((Ap (AB (Dg T S)) (Cg w)).getD 0 0 - (Az (Dg T S) (LR (Dg T S)) w.name).getD 0 0))) w.gives=Cd (-(-w.floor+((Ap (AB (noS S)) (Cg w)).getD 0 0 - (Az (noS S) (LR (noS S)) w.name).getD 0 0))) w.gives;rw[x1,x0,y1,y0,nd0]
 ·by_cases hd:d<AB (Dg T S)
  ·rw[Tj L1 (show w∈(Dg T S).wares from hw),Jk hd];obtain⟨k,rfl⟩:∃k,d=k+1:=⟨d - 1,by lia⟩;have q1:=Tg (f:=w.floor) (g:=w.gives) (xs:=Ap (AB (Dg T S)) (Cg w)) (ys:=Az (Dg T S) (LR (Dg T S)) w.name) (by lia) k;have q2:=Tf E hw (k+1);unfold Gq;refine Pw (by lia) ?_;have q3:(Ap (AB (Dg T S)) (Cg w)).getD (k+1) 0=Cg w (k+1):=Bn hd;have q4:(Az (Dg T S) (LR (Dg T S)) w.name).getD (k+1) 0=0:=by unfold Az;rw[Bn hd,ndd _ d0 d1]
   rw[q3,q4];lia
  ·exact G1 (by rw[Eu L1 (show w∈(Dg T S).wares from hw)];lia)
theorem Zp(L:Lev S)(E:Lx S)(hl:∀w∈S.wares,0<=w.lag){T:Int}(hT:∀w∈S.wares,tm S w.name<=T)(hw0:∀u∈S.wants,0<=u.2.1)(h1:1<=AB (Dg T S))(h0:Cc (noS S)):Cc (Dg T S):=λw hw=>by
 have hw:w∈S.wares:=hw;have ht:=A0l L hl hw;have hlw:=hl w hw;refine(show Cr (LR (Dg T S) w.name) w.lag (LR (Dg T S) w.name).length=none from ab λe he c=>?_);obtain⟨a1,a2⟩:=rn L E hl hT hw0 h1 (lv S w.name).toNat w hw (by have:=Ss S w.name;lia) (by lia);by_cases z:e=0
 ·subst z;rw[a1] at c;have L0:Lev (noS S):=Lo L rfl;have q:=Gu (show Cr (LR (noS S) w.name) w.lag (LR (noS S) w.name).length=none from h0 w hw) 0 (by rw[Eu L0 hw,Nw];lia);exact q c
 ·rw[a2 e (by lia) (by lia)] at c;lia
def A1v(S:Sh)(d:Int)(H:Hp)(i:Nat)(acc:List V)(H':Hp):Prop:=acc.length=i/\RDs H' ((S.wants.take i).map λp=>Ha (Nc d p)) acc/\AA H H'
theorem AF.off{sz n:Int}(g:AF sz S)(h:0<=n):AF (sz+n) ⟨S.wares,S.wants.map (Nc n)⟩:=by
 refine⟨g.ws,g.len,λw hw=>⟨(g.com w hw).1,λy hy=>?_⟩,⟨by rw[Zzz];exact g.wants.1,λu hu=>?_⟩⟩
 ·obtain⟨⟨a,b⟩,c⟩:=(g.com w hw).2 y hy;exact⟨⟨a,by lia⟩,c⟩
 ·obtain⟨y,hy,rfl⟩:=Zzv.mp hu;obtain⟨q0,⟨q1,q2⟩,q3⟩:=g.wants.2 y hy;exact⟨q0,⟨by show 0<=y.2.1+n;lia,by show y.2.1+n<sz+n;lia⟩,q3⟩
theorem AF.none{sz:Int}(g:AF sz S):AF sz (noS S):=⟨g.ws,g.len,g.com,⟨Zyz _,λu hu=>by cases hu⟩⟩
inductive Mm (Pt:Addr) (vs:List V) (H:Hp) (Q:VK) (E:XK):Prop | mk (v:V) (S:Sh) (sz:Int) (_:vs=[v]) (_:RD H S.d v) (_:AF sz S) (_:0<sz) (_:sz<=1000) (_:Tb H Pt) (_:∀(b:Bool) H',(b=true↔Cc S)->Tb H' Pt->But Pt H H'->Q (.bl b) H')
theorem Ww(F:Fun K "lets_plan" "lets_plan" Pd f fd)(T:Txt mg)(Ztl:Has P w K mg base "planned" 7 ["shop"] (Ia Pt)):B2 P w K mg base CX0 8 f fd ["shop"] (Mm Pt):=by
 refine F.go ["shop"] ?_ ?_ ?_;walk_at "f";obtain⟨v,S,sz,rfl,rs,g,z0,z1,tb,k⟩:=h;have hu:=Au hr;refine⟨_,(Aa (Ae (Dj (Bl hu) (A8 hu (A7 Ztl hr.z rfl (A3 (pv 0) A1)) A6 (λ_ _=>rfl)) Am (Aj _)))),?_⟩;walk_at "rd";refine⟨v,S,sz,rfl,rs,g,z0,z1,tb,λt p ys i H1 ht hp tp sb ra hne tb1 bt1 hcase=>?_⟩;have so:=Ci sb;rcases hcase with ⟨hi,h1⟩ | ⟨wr,d,hwr,hi,hed,h1⟩
 ·refine⟨_,Ad (j:=0) h1 rfl,rfl,k _ H1 ⟨λ_ w hw=>hne w hw ?_,λ_=>by decide⟩ tb1 bt1⟩;rw[hi,Zzf];exact so.1.mem_iff.mpr (Zzv.mpr ⟨w,hw,rfl⟩)
 ·refine⟨_,Ad (j:=0) h1 rfl,rfl,k _ H1 ⟨λz=>absurd z (by decide),λz=>by rw[z wr hwr] at hed;cases hed⟩ tb1 bt1⟩
def wq(S:Sh)(n:Int):Prop:=0<=n/\Cc (noS S)/\Cc (Dg n S)/\(n=0\/¬ Cc (Dg (n - 1) S))/\∃w∈S.wares,n<=tm S w.name
inductive ff (Pt:Addr) (vs:List V) (H:Hp) (Q:VK) (E:XK):Prop | mk (v:V) (S:Sh) (sz:Int) (_:vs=[v]) (_:RD H S.d v) (_:AF sz S) (_:0<sz) (_:sz<=401) (_:Tb H Pt) (_:(∀H',¬ Cc (noS S)->Tb H' Pt->But Pt H H'->Q .non H')) (_:∀(n:Int) H',wq S n->Tb H' Pt->But Pt H H'->Q (.int n) H')
inductive A0e (v:V) (S:Sh) (Pt:Addr) (M:Int) (H:Hp) (m:Nat) (Z:St) (H':Hp):Prop | mk (e l:Int) (o3:Option V) (_:m=(e - l).toNat) (_:Z=[some v,some (.int e),some (.int l),o3]) (_:0<=l) (_:l<=e) (_:e<=M) (_:Cc (Dg e S)) (_:(l=0\/¬ Cc (Dg (l - 1) S))) (_:Tb H' Pt) (_:But Pt H H')
theorem yg(F:Fun K "late" "late" py f fd)(T:Txt mg)(Zse:Has P w K mg base "lets_plan" 8 ["shop"] (Mm Pt))(Zqy:Has P w K mg base "times" 7 ["shop"] (Yv Pt))(Zr8:Has P w K mg base "put_off" 5 ["shop", "days"] EA):B2 P w K mg base CX0 9 f fd ["shop"] (ff Pt):=by
 refine F.go ["shop", "enough", "least", "middle"] ?_ ?_ ?_;walk_at "f";obtain⟨v,S,sz,rfl,rs,g,z0,z1,tb,k1,k2⟩:=h;have hu:=Au hr;refine⟨_,(A2 (Ay (C6 (C9 (A7 Zse hr.z rfl (A3 (Cz (A3 (A8 hu (pv 0) A6 (λ_ _=>rfl)) (A3 (Cz A1) A1))) A1)))) (Aa (Ae Fz)) Ak)
 (A2 (Af (i:=1) Nd rfl (Zzt rfl) (bn rfl rfl T.Zrv (A7 Zqy hr.z rfl (A3 (pv 0) A1))))
 (A2 (Af (i:=2) Nd rfl (Zzt rfl) A6)
 (A2 (qo PassesOwn.never (Ah (Eh hu) (pv 2) (pv 1) (Aj _)) (A2 (Af (i:=3) Nd rfl (Zzt rfl) (At Ie (At C7 (pv 2) (pv 1)) A6))
 (Aa (Ay (C9 (A7 Zse hr.z rfl (A3 (A7 Zr8 hr.z rfl (A3 (pv 0) (A3 (pv 3) A1))) A1))) (Aa (Af (i:=1) Nd rfl (Zzt rfl) (pv 3))) (Aa (Af (i:=2) Nd rfl (Zzt rfl) (At C7 (pv 3) A6)))))))
 (Aa (Ae (pv 1))))))),?_⟩
 walk_at "rd";obtain⟨sa,sb,sc,ws,us,ev,ha,hb,hc,rws,rus⟩:=Cb rs;have L:=Db g;have E:=Ee g;have hl:∀w∈S.wares,0<=w.lag/\w.lag<=30:=λw hw=>(g.ws.wb w hw).lag;have hfew:=g.len;refine⟨_,by rw[ev];exact Ad (j:=0) ha rfl,by decide,λp hp=>⟨by decide,λq hq=>?_⟩⟩;have u1:=A4 (o:=.tup []) hp;have u2:=A4 (o:=.tup [.ref sb,.ref p]) hq;have s2:=u1.trans u2;have rs0:RD (upd (upd H p (.tup [])) q (.tup [.ref sb,.ref p])) (noS S).d (.ref q):=by
  unfold noS Sh.d;exact RD.tup_mk A0 (RDs.cons (RD.tup_mk (s2 _ _ hb) (RDs.same s2 _ _ rws)) (RDs.one (RD.tup_mk (xs:=[]) (u2 _ _ A0) RDs.nil)))
 generalize upd (upd H p (.tup [])) q (.tup [.ref sb,.ref p])=H2 at s2 rs0;refine⟨.ref q,noS S,sz,rfl,rs0,g.none,z0,by lia,tb.same s2,λb H3 hb3 tb3 bt3=>⟨b,rfl,?_⟩⟩;have bt03:But Pt H H3:=(E8 s2).trans bt3;have rs3:=RD.ku (Kk tb bt03) _ _ (E2 S) rs;refine Dq (λc=>?_) (λc=>?_)
 ·exact k1 H3 (λz=>by rw[hb3.mpr z] at c;cases c) tb3 bt03
 have h0:Cc (noS S):=hb3.mp (by cases b with | true=>rfl | false=>exact absurd rfl c);refine⟨v,S,rfl,rs3,L,tb3,λp4 ys H4 hp4 hd4 pm tb4 bt4=>⟨p4,rfl,_,hd4,ys.map (tm S),?_,?_,?_⟩⟩
 ·unfold fnD;rw[Zz1,Zz1];rfl
 ·intro z;have:=congrArg Zxa z;rw[Zzz,pm.length_eq,Cn,Zx6] at this;lia
 have bt04:=bt03.trans bt4;have hne:ys.map (tm S)≠[]:=λz=>by
  have:=congrArg Zxa z;rw[Zzz,pm.length_eq,Cn,Zx6] at this;lia
 have mge:∀w∈S.wares,tm S w.name<=Nj (ys.map (tm S)):=λw hw=>Xh (Zzv.mpr ⟨w.name,pm.mem_iff.mpr (Zzv.mpr ⟨w,hw,rfl⟩),rfl⟩);obtain⟨nm,hnm,enm⟩:=Zzv.mp (Ii hne);obtain⟨wm,hwm,rfl⟩:=Zzv.mp (pm.mem_iff.mp hnm);have m360:tm S wm.name<=360:=by
  have:=ax hl S.wares.length wm.name;unfold tm;lia
 have m0:0<=tm S wm.name:=av (λw hw=>(hl w hw).1) _ _;rw[<- enm] at mge ⊢;have go:∀{n:Int},0<=n->n<=360->AF (sz+n) (Dg n S):=λh _=>g.off h;have hw0:∀u∈S.wants,0<=u.2.1:=λu hu=>(g.wants.2 u hu).2.1.1;have he:Cc (Dg (tm S wm.name) S):=Zp L.toLev E (λw hw=>(hl w hw).1) mge hw0 ((go m0 m360).days (by lia) (by lia)).1 h0;have hM:∃w∈S.wares,tm S wm.name<=tm S w.name:=⟨wm,hwm,Zz9 _⟩;obtain⟨M,eM0⟩:∃M,M=tm S wm.name:=⟨_,rfl⟩;rw[<- eM0] at mge m360 m0 he hM ⊢;refine⟨A0e v S Pt M H,⟨_,M,0,none,rfl,rfl,Zz9 _,m0,Zz9 _,he,.inl rfl,tb4,bt04⟩,λm Z H5 hW=>?_⟩;obtain⟨e,l,o3,rfl,rfl,l0,le,eM,pe,pl,tb5,bt5⟩:=hW;have rs5:=RD.ku (Kk tb bt5) _ _ (E2 S) rs;walk_at "rd";refine Dq (λc=>?_) (λc=>?_)
 ·have c:=FV c
  refine⟨λZ' H'=>∃m',m'<(e - l).toNat/\A0e v S Pt M H m' Z' H',λZ' H' z=>z,?_⟩;refine⟨by decide,by decide +kernel,v,S,(l+e) / 2,rfl,rs5,g.ok,g.no,by have:=g.wants.1;lia,λx H6 rx s6=>?_⟩;have d0:l<=(l+e) / 2:=by lia
  have d1:(l+e) / 2<e:=by lia
  generalize (l+e) / 2=mid at rx d0 d1;refine⟨x,Dg mid S,sz+mid,rfl,rx,go (by lia) (by lia),by lia,by lia,tb5.same s6,λb7 H7 hb7 tb7 bt7=>⟨b7,rfl,?_⟩⟩;have bt07:=bt5.trans ((E8 s6).trans bt7);refine Dq (λc7=>?_) (λc7=>?_)
  ·exact⟨(mid - l).toNat,by lia,mid,l,_,rfl,rfl,l0,d0,by lia,hb7.mp c7,pl,tb7,bt07⟩
  ·refine⟨(e - (mid+1)).toNat,by lia,e,mid+1,_,rfl,rfl,by lia,by lia,eM,pe,.inr (λz=>?_),tb7,bt07⟩;rw[show mid+1 - 1=mid by lia] at z;exact c7 (hb7.mpr z)
 ·have c:¬ l<e:=λz=>c (FW z)
  obtain rfl:l=e:=by lia
  obtain⟨w,hw,hwM⟩:=hM;exact k2 l H5 ⟨l0,h0,pe,pl,w,hw,by lia⟩ tb5 bt5
end
set_option maxHeartbeats 4000000
section
variable {dk:Dk}
def Dn(ws:List Wr)(x:Str):List Str:=(ws.filter λw=>decide (x∈w.parts.map (·.1))).map (·.name)
theorem R7{t:Wr}(h:ws[i]?=some t):Dn (ws.take (i+1)) x=Dn (ws.take i) x++if decide (x∈t.parts.map (·.1))=true then [t.name] else []:=by
 unfold Dn;rw[Zzb,h,Zyx,Zzo];congr 1;by_cases hx:x∈t.parts.map (·.1)
 ·rw[FZ (FW hx)];show Zyo _ (Zvx _ [t])=_;rw[Zyk,FZ (FW hx)];rfl
 ·rw[FY (λz=>hx (FV z))];show Zyo _ (Zvx _ [t])=_;rw[Zyk,FY (λz=>hx (FV z))];rfl
theorem ja{y:Str}(h:y∈Dn S.wares x):∃t∈S.wares,t.name=y/\∃p∈t.parts,p.1=x:=by
 unfold Dn at h;obtain⟨t,ht,e⟩:=Zzv.mp h;obtain⟨h1,h2⟩:=Zyf.mp ht;obtain⟨p,hp,e2⟩:=Zzv.mp (FV h2);exact⟨t,h1,e,p,hp,e2⟩
def A2s(S:Sh)(x:Str)(H:Hp)(i:Nat)(acc:List V)(H':Hp):Prop:=acc=(Dn (S.wares.take i) x).map V.str/\AA H H'
def Hd:Nat->Sp
 |0=>λ_ _ _ _=>False
 |n+1=>λvs H Q _=>∃(v:V) (S:Sh) (x:Str),vs=[v,.str x]/\RD H S.d v/\W2 S/\x∈Be S/\lv S x<=n/\∀H',AA H H'->Q (.int (lv S x)) H'
theorem X1(F:Fun K "_law_level" "_law_level" Kr f fd)(T:Txt mg)(hm:mg "_law_level" = some (.ref f))(hk:Zx0 K (.ref f)=true)(hb:BJ K fd ["_law_shop_here", "_law_name"] []):∀n,B2 P w K mg base CX0 n f fd ["_law_shop_here", "_law_name"] (Hd n):=by
 intro n;induction n
 ·exact⟨λ_ _ _ _ h=>False.elim h,λ_ _ _ _ _ _ _ _ _ _ _ _ _ h=>False.elim h⟩
 rename_i n ih;have Zst:Has P w K mg base "_law_level" n ["_law_shop_here", "_law_name"] (Hd n):=⟨f,fd,hm,hk,hb,ih⟩;refine F.go ["_law_shop_here", "_law_name", "_law_users"] ?_ ?_ ?_;walk_at "f";obtain⟨v,S,x,rfl,rs,L,hx,hle,k⟩:=h;have hu:=Au hr;refine⟨_,(A2 (Df (own:=["_law_ware_here"]) (cap:=[1]) (i:=2) rfl (Br rfl) (Aq (by decide)) Nd rfl rfl (Ca (A8 hu (pv 0) A6 (λ_ _=>rfl)))
 (λ_ _ _ _ _ _=>⟨(Ac (i:=0) (FV rfl) rfl (Zzt rfl) (.inr rfl)),(G4 (Ah (Mb hu) (pv 1) (Bc (own:=["_law_part", "_law_amount_here"]) (cap:=[]) rfl (Br rfl) Ex (Ca (A8 hu (pv 0) A6 (λ_ _=>rfl)))
 (λ_ _ _ _ _ _=>⟨(Do (n:=2) rfl (An (Ac (i:=0) (FV rfl) rfl (Zzt rfl) (.inr rfl)) (An (Ac (i:=1) (FV rfl) rfl (Zzt rfl) (.inr rfl)) Cj))),Bb,(pv 0)⟩)) rfl)),(A8 hu (pv 0) A6 (λ_ _=>rfl))⟩))
 (Aa (Ae (Ai (Vv rfl) rfl T.Zrv Me (A3 (At Ig (Bh (A3 A6 A1)) (Bc (own:=["_law_user"]) (cap:=[0]) rfl (Br rfl) (Aq (by decide)) (Cq (pv 2))
 (λ_ _ _ _ _ _=>⟨(Ac (i:=0) (FV rfl) rfl (Zzt rfl) (.inr rfl)),Bb,(At C7 A6 (A7 Zst hr rfl (A3 (pv 1) (A3 (pv 0) A1))))⟩))) A1))))),?_⟩
 obtain⟨sa,sb,sc,ws,us,rfl,hsa,hsb,hsc,rws,rus⟩:=Cb rs;have hl:=Aw rws;have hfew:=L.few;walk_at "rd";refine⟨_,Ad (j:=0) hsa rfl,sb,rfl,ws,hsb,?_⟩;refine Et (D1 sb _) (Ag (by lia)) (A2s S x H) ⟨rfl,AA.refl _⟩ (λi acc H' _ h=>h.2 _ _ hsb) (λi acc H' h=>?_) (λi y acc H1 hi hy h=>?_) (λacc H1 h p hp=>?_)
 ·rw[h.1];unfold Dn;rw[Zzz,Zzz];exact Zzd (Zyh _ _) (by rw[Zz7];exact Nat.min_le_left _ _)
 ·obtain⟨rfl,s1⟩:=h;obtain⟨t,ht,rt⟩:=Ax rws hy;obtain⟨te,c1,c2,rfl,hte,rc,rp⟩:=Bt rt;obtain⟨pb,pv,rfl,hpb,rpv⟩:=RD.tup_of rp;have hlp:=Aw rpv;have hpl:=(L.ok.wares t (Zzu ht)).1;have s1te:=s1 _ _ hte;have s1pb:=s1 _ _ hpb;walk_at "rd";refine⟨_,Ad (j:=6) s1te rfl,pb,rfl,pv,s1pb,?_⟩;refine Bg (D1 pb _) (Ag (by lia)) (λH' s'=>s' _ _ s1pb) ((t.parts.map (·.1)).map V.str) (by rw[Zzz,Zzz,hlp]) (λj z H2 hj hz s2 N M hN=>?_) (λH2 s2 q hq=>?_)
  ·obtain⟨pp,hpp,rpp⟩:=Ax rpv hz;obtain⟨pe,rfl,hpe⟩:=Iv rpp;refine gt2 (s2 _ _ (s1 _ _ hpe)) ?_;walk_at "rd";exact hN _ _ s2 (by rw[Zzy,Zzy,hpp];rfl)
  ·have s3:=s1.trans (s2.trans (A4 (o:=.lst ((t.parts.map (·.1)).map V.str)) hq))
   refine⟨_,.inl ⟨q,_,rfl,.inl A0,rfl,Jn _,rfl⟩,?_⟩;rw[L6];refine Dq (λhb=>?_) (λhb=>?_)
   ·refine⟨_,Ad (j:=0) (s3 _ _ hte) rfl,?_,s3⟩;rw[R7 ht,FZ hb,Zzo];rfl
   ·refine⟨?_,s3⟩;rw[R7 ht,FY hb,Zz6]
 ·obtain⟨rfl,s1⟩:=h;rw[hl,Zzf];walk_at "rd";refine⟨by decide,λr hr2=>?_⟩;have u1:=A4 (o:=.lst ((Dn S.wares x).map V.str)) hp;have u2:=A4 (o:=.lst [V.int 0]) hr2;have hp2:=u2 _ _ A0;have hr3:upd (upd H1 p (.lst ((Dn S.wares x).map V.str))) r (.lst [V.int 0]) r=some (.lst [V.int 0]):=A0;have s2:=s1.trans (u1.trans u2);generalize upd (upd H1 p (.lst ((Dn S.wares x).map V.str))) r (.lst [V.int 0])=H2 at hp2 hr3 s2;have ulen:(Dn S.wares x).length<=1000:=by
   unfold Dn;rw[Zzz];exact Zzd (Zyh _ _) (by lia)
  have elv:((Fd S x).map λu=>1+lv S u.name)=(Dn S.wares x).map λy=>1+lv S y:=by
   unfold Fd Dn;rw[Zz1];rfl
  obtain⟨wx,hwx,ewx⟩:=Zzv.mp hx;refine⟨_,hp2,?_⟩;refine Bg (Dw p _) (Ag (by rw[Zzz];exact ulen)) (λH' s'=>s' _ _ hp2) (((Dn S.wares x).map λy=>1+lv S y).map V.int) (by rw[Zzz,Zzz,Zzz]) (λj y H3 hj hy s3 N M hN=>?_) (λH3 s3 q hq=>?_)
  ·rw[Zzy] at hy;cases ey:(Dn S.wares x)[j]? with
   |none=>rw[ey] at hy;cases hy
   |some nm =>
   rw[ey] at hy;have hy:V.str nm=y:=Zzh hy;subst hy;obtain⟨t,ht,et,pp,hpp,ep⟩:=ja (Zzu ey);have h1:=Ln L.toLev ht hpp;rw[ep,et] at h1;have h0:=Ss S nm;walk_at "rd";cases n with
   |zero=>exact absurd hle (by lia)
   |succ m =>
   refine⟨.ref sa,S,nm,rfl,RD.same (s2.trans s3) _ _ rs,L,by rw[<- et];exact Zzv.mpr ⟨t,ht,rfl⟩,by lia,λH4 s4=>⟨_,rfl,hN _ _ (s3.trans s4) (by rw[Zzy,Zzy,ey];rfl)⟩⟩
  ·have u4:=A4 (o:=.lst (((Dn S.wares x).map λy=>1+lv S y).map V.int)) hq
   refine⟨q,rfl,_,u4 _ _ (s3 _ _ hr3),_,A0,?_,λq2 hq2=>?_⟩
   ·rw[Zzz,Zzz];exact Zzd (show [V.int 0].length+(Dn S.wares x).length<=1001 by show 1+_<=_;lia) (by decide)
   ·refine⟨0::((Dn S.wares x).map λy=>1+lv S y),by rw[A0];rfl,(λz=>by cases z),?_⟩;have em:Nj (0::((Dn S.wares x).map λy=>1+lv S y))=lv S x:=by
     rw[V8 _ (λz hz=>by obtain⟨y,_,rfl⟩:=Zzv.mp hz;have:=Ss S y;show 0<=1+lv S y;lia),<- elv,<- ewx,A05 L.toLev hwx]
    rw[em];exact k _ (s2.trans (s3.trans (u4.trans (A4 hq2))))
theorem t7(S:Sh):∀k x,lvF S k x<=k
 |0,_=>Zz9 _
 |k+1,x=>by
  show Fb ((Fd S x).map λu=>1+lvF S k u.name)<=((k+1:Nat):Int);unfold Fb;split
  ·lia
  ·rename_i hn;obtain⟨u,hu,e⟩:=Zzv.mp (Ii hn);have:=t7 S k u.name;rw[<- e];lia
inductive zw (S:Sh) (H:Hp) (i:Nat) (acc:List V) (H':Hp):Prop | mk (as:List Addr) (_:acc=as.map V.ref) (_:as.length=i) (_:(∀j,j<i->H' (as.getD j 0)=some (.tup [.int (lv S ((Be S).getD j "")),.int j]))) (_:AA H H')
inductive CC (vs:List V) (H:Hp) (Q:VK) (E:XK):Prop | mk (v:V) (S:Sh) (_:vs=[v]) (_:RD H S.d v) (_:W2 S) (_:S.wares.length<=12) (_:∀p ys H',H p=none->H' p=some (.lst (ys.map V.str))->Jo (lv S) (Be S) ys->AA H H'->Q (.ref p) H')
theorem Wy(F:Fun K "_law_order" "_law_order" Pf f fd)(T:Txt mg)(Zst:Has P w K mg base "_law_level" 13 ["_law_shop_here", "_law_name"] (Hd 13)):B2 P w K mg base CX0 14 f fd ["_law_shop_here"] CC:=by
 refine F.go ["_law_shop_here", "_law_ranked"] ?_ ?_ ?_;walk_at "f";obtain⟨v,S,rfl,rs,L,h12,k⟩:=h;have hu:=Au hr;refine⟨_,(A2 (Df (own:=["_law_k"]) (cap:=[0]) (i:=1) rfl (Br rfl) (Aq (by decide)) Nd rfl rfl (Cl rfl T.Zth (A3 (Ai Bs rfl T.Zts Ct (A3 (A8 hu (pv 0) A6 (λ_ _=>rfl)) A1)) A1))
 (λ_ _ _ _ _ _=>⟨(Ac (i:=0) (FV rfl) rfl (Zzt rfl) (.inr rfl)),Bb,(Cz (A3 (A7 Zst hr.z rfl (A3 (pv 1) (A3 (A8 hu (A8 hu (A8 hu (pv 1) A6 (λ_ _=>rfl)) (pv 0) (λ_ _=>rfl)) A6 (λ_ _=>rfl)) A1))) (A3 (pv 0) A1)))⟩))
 (Aa (Ae (Bc (own:=["_law_level_here", "_law_k"]) (cap:=[0]) rfl (Br rfl) Ex (Cq (Ai dh rfl T.Zqx Vx (A3 (pv 1) A1)))
 (λ_ _ _ _ _ _=>⟨(Do (n:=2) rfl (An (Ac (i:=0) (FV rfl) rfl (Zzt rfl) (.inr rfl)) (An (Ac (i:=1) (FV rfl) rfl (Zzt rfl) (.inr rfl)) Cj))),Bb,(A8 hu (A8 hu (A8 hu (pv 2) A6 (λ_ _=>rfl)) (pv 1) (λ_ _=>rfl)) A6 (λ_ _=>rfl))⟩))))),?_⟩
 obtain⟨sa,sb,sc,ws,us,rfl,hsa,hsb,hsc,rws,rus⟩:=Cb rs;have hl:=Aw rws;have hfew:=L.few;walk_at "rd";have hnl:=Cn S;have nameD:∀j t,S.wares[j]?=some t->(Be S).getD j "" = t.name:=λj t ht=>by
  unfold Be;rw[Zzp,Zzy,ht];rfl
 have lv13:∀x,lv S x<=12:=λx=>Zxm (t7 S _ x) (by lia);refine⟨_,Ad (j:=0) hsa rfl,sb,rfl,ws,.inr hsb,by lia,by lia,?_⟩;have en:((ws.length:Nat):Int).toNat=S.wares.length:=by lia
 rw[en];refine Et (J4 0 _) (Ag (by lia)) (zw S H) ⟨[],rfl,rfl,(λj hj=>absurd hj (Nat.not_lt_zero _)),AA.refl _⟩ (λ_ _ _ _ _=>trivial) (λi acc H' h=>by obtain⟨as,rfl,e,_⟩:=h;rw[Zzz,e];exact Zzq _) (λi y acc H1 hi hy h=>?_) (λacc H1 h p hp=>?_)
 ·obtain⟨as,rfl,ea,ht,s1⟩:=h;subst hy;obtain⟨t,htw⟩:∃t,S.wares[i]?=some t:=⟨_,Zzr hi⟩;obtain⟨x,hx,rx⟩:∃x,ws[i]?=some x/\RD H t.d x:=by
   obtain⟨x,hx⟩:∃x,ws[i]?=some x:=⟨_,Zzr (by lia)⟩;obtain⟨t',ht',rt'⟩:=Ax rws hx;rw[htw] at ht';cases ht';exact⟨x,hx,rt'⟩
  obtain⟨te,c1,c2,rfl,hte,_⟩:=Bt rx;walk_at "rd";have e0:(0+(i:Int))=((i:Nat):Int):=by lia
  rw[e0];refine⟨_,Ad (j:=0) (s1 _ _ hsa) rfl,_,Ad (j:=i) (s1 _ _ hsb) hx,_,Ad (j:=0) (s1 _ _ hte) rfl,?_⟩;refine⟨.ref sa,S,t.name,rfl,RD.same s1 _ _ rs,L,Zzv.mpr ⟨t,Zzu htw,rfl⟩,lv13 _,λH2 s2=>⟨by decide,λe he=>?_⟩⟩;have u3:=A4 (o:=.tup [.int (lv S t.name),.int i]) he;refine⟨as++[e],by rw[Zzo];rfl,by rw[Zyv,ea];rfl,λj hj=>?_,s1.trans (s2.trans u3)⟩;by_cases hj2:j<i
  ·have e1:(as++[e]).getD j 0=as.getD j 0:=by rw[Zzp,Zzp,Zwx (by lia)]
   rw[e1];exact u3 _ _ (s2 _ _ (ht j hj2))
  ·have ej:j=i:=by lia
   subst ej;have e1:(as++[e]).getD j 0=e:=by rw[Zzp,Zxi (by lia),ea,Zvc];rfl
   rw[e1,A0,nameD j t htw]
 ·obtain⟨as,rfl,ea,ht,s1⟩:=h;have u2:=A4 (o:=.lst (as.map V.ref)) hp;refine⟨p,rfl,as,A0,by lia,λi=>lv S ((Be S).getD i ""),λi hi=>u2 _ _ (ht i (by lia)),λr ps hr2 pm pw=>?_⟩;have u3:=A4 (o:=.lst (ps.map λi=>V.ref (as.getD i 0))) hr2;have s3:=s1.trans (u2.trans u3);have htup:∀i,i<as.length->upd (upd H1 p (.lst (as.map V.ref))) r (.lst (ps.map λi=>V.ref (as.getD i 0))) (as.getD i 0)=some (.tup [.int (lv S ((Be S).getD i "")),.int i]):=λi hi=>u3 _ _ (u2 _ _ (ht i (by lia)));have hr3:upd (upd H1 p (.lst (as.map V.ref))) r (.lst (ps.map λi=>V.ref (as.getD i 0))) r=some (.lst (ps.map λi=>V.ref (as.getD i 0))):=A0;generalize upd (upd H1 p (.lst (as.map V.ref))) r (.lst (ps.map λi=>V.ref (as.getD i 0)))=H3 at s3 htup hr3;have hpl:ps.length=as.length:=by rw[pm.length_eq,Zvu]
  refine⟨_,hr3,?_⟩;refine Bg (Dw r _) (Ag (by rw[Zzz];lia)) (λH' s'=>s' _ _ hr3) ((ps.map λi=>(Be S).getD i "").map V.str) (by rw[Zzz,Zzz,Zzz]) (λj y H4 hj hy s4 N M hN=>?_) (λH4 s4 q hq=>?_)
  ·rw[Zzy] at hy;cases ep:ps[j]? with
   |none=>rw[ep] at hy;cases hy
   |some i =>
   rw[ep] at hy;have hy:V.ref (as.getD i 0)=y:=Zzh hy;subst hy;have hi:i<as.length:=Zx1.mp (pm.mem_iff.mp (Zzu ep));obtain⟨t,htw⟩:∃t,S.wares[i]?=some t:=⟨_,Zzr (by lia)⟩;obtain⟨x,hx⟩:∃x,ws[i]?=some x:=⟨_,Zzr (by lia)⟩;obtain⟨t',ht',rt'⟩:=Ax rws hx;rw[htw] at ht';cases ht';obtain⟨te,c1,c2,rfl,hte,_⟩:=Bt rt';have s34:=s3.trans s4;refine gt2 (s4 _ _ (htup i hi)) ?_;walk_at "rd";refine⟨_,Ad (j:=0) (s34 _ _ hsa) rfl,_,Ad (j:=i) (s34 _ _ hsb) hx,_,Ad (j:=0) (s34 _ _ hte) rfl,hN _ _ s4 ?_⟩;rw[Zzy,Zzy,ep];show some (V.str ((Be S).getD i ""))=_;rw[nameD i t htw]
  ·refine k q _ _ (AA.free (s3.trans s4) hq) A0 ⟨ps,?_,rfl,pw⟩ ((s3.trans s4).trans (A4 hq));rw[hnl,<- ea];exact pm
end
set_option maxHeartbeats 4000000
section
variable {dk:Dk}
inductive BF (vs:List V) (H:Hp) (Q:VK) (E:XK):Prop | mk (v:V) (S:Sh) (w:Wr) (sz:Int) (_:vs=[v,.str w.name]) (_:RD H S.d v) (_:AF sz S) (_:w∈S.wares) (_:∀x H',RD H' w.d x->AA H H'->Q x H')
theorem Y8(nd:(ws.map (·.name)).Nodup){w:Wr}(h:w∈ws):ws.filter (λt=>decide (t.name=w.name))=[w]:=by
 induction ws with
 |nil=>cases h
 |cons t r ih =>
  obtain⟨h1,h2⟩:=Zyj.mp nd;rw[Zyk];by_cases e:t.name=w.name
  ·rw[FZ (FW e)];have z:r.filter (λt=>decide (t.name=w.name))=[]:=Zvw.mpr λx hx hd=>h1 (Zzv.mpr ⟨x,hx,(FV hd).trans e.symm⟩);rw[z];rcases Zzs.mp h with q | q
   ·rw[q]
   ·exact absurd (Zzv.mpr ⟨w,q,e.symm⟩) h1
  ·rw[FY (by rw[FX e];decide)];rcases Zzs.mp h with q | q
   ·exact absurd (by rw[q]) e
   ·exact ih h2 q
def A1p(nm:Str)(S:Sh)(H:Hp)(i:Nat)(acc:List V)(H':Hp):Prop:=RDs H' (((S.wares.take i).filter λt=>decide (t.name=nm)).map Wr.d) acc/\acc.length<=i/\AA H H'
theorem xj{d:PyData}{vs:List V}(h:RDs H [d] vs):∃x,vs=[x]/\RD H d x:=by
 obtain⟨x,r,rfl,h1,h2⟩:=RDs.cons_of h;rw[RDs.nil_of h2];exact⟨x,rfl,h1⟩
inductive A1y (v:V) (a:Addr) (nm:Str) (p:Addr) (lag:Int) (g:Nat->Int) (H:Hp) (i:Nat) (Z:St) (H':Hp):Prop | mk (o1 o2:Option V) (_:Z=[some v,some (.ref a),some (.str nm),some (.int lag),some (.ref p),o1,o2]) (_:H' p=some (.lst ((Ap i g).map V.int))) (_:AA H H')
theorem Zb(F:Fun K "_law_ware" "_law_ware" Ro f fd)(T:Txt mg):B2 P w K mg base CX0 1 f fd ["_law_shop_here", "_law_name"] BF:=by
 refine F.go ["_law_shop_here", "_law_name"] ?_ ?_ ?_;walk_at "f";obtain⟨v,S,w,sz,rfl,rs,g,hm,k⟩:=h;have hu:=Au hr;refine⟨_,(Aa (Ae (A8 hu (Bc (own:=["_law_ware_here"]) (cap:=[1]) rfl (Br rfl) (Aq (by decide)) (Ca (A8 hu (pv 0) A6 (λ_ _=>rfl)))
 (λ_ _ _ _ _ _=>⟨(Ac (i:=0) (FV rfl) rfl (Zzt rfl) (.inr rfl)),(G4 (Ah (Bl hu) (A8 hu (pv 0) A6 (λ_ _=>rfl)) (pv 1) (Aj _))),(pv 0)⟩)) A6 (λ_ _=>rfl)))),?_⟩
 obtain⟨sa,sb,sc,ws,us,rfl,ha,hb,hc,rws,rus⟩:=Cb rs;have hl:=Aw rws;walk_at "rd";refine⟨_,Ad (j:=0) ha rfl,sb,rfl,ws,hb,?_⟩;refine Et (D1 sb _) (Ag (by have:=g.len.2;lia)) (A1p w.name S H) ⟨RDs.nil,Zyz _,AA.refl _⟩ (λi acc H' _ h=>h.2.2 _ _ hb) (λi acc H' h=>h.2.1) (λi x acc H' hi hx h=>?_) (λacc H' h p hp=>?_)
 ·obtain⟨h1,h2,h3⟩:=h;obtain⟨t,ht,rt⟩:=Ax rws hx;obtain⟨te,d1,d2,rfl,hte,_⟩:=Bt rt;walk_at "rd";refine⟨_,Ad (j:=0) (h3 _ _ hte) rfl,rfl,Dq (λhz=>?_) (λhz=>?_)⟩
  ·have hz:t.name=w.name:=V.str.inj (FV hz)
   refine⟨?_,by rw[Zyv];exact Nat.succ_le_succ h2,h3⟩;rw[Zzb,ht,Zyx,Zzo];show RDs _ (_++Zyo Wr.d (Zvx _ [t])) _;rw[Zyk,FZ (FW hz)];exact RDs.app h1 (RDs.one (RD.same h3 _ _ rt))
  ·have hz:¬ t.name=w.name:=λe=>hz (FW (by rw[e]))
   refine⟨?_,Nat.le_succ_of_le h2,h3⟩;rw[Zzb,ht,Zyx,Zzo];show RDs _ (_++Zyo Wr.d (Zvx _ [t])) _;rw[Zyk,FY (by rw[FX hz];decide)];show RDs _ (_++[]) _;rw[Zz6];exact h1
 ·obtain⟨h1,h2,h3⟩:=h;rw[hl,Zzf,Y8 g.ws.nd hm] at h1;obtain⟨x,rfl,rx⟩:=xj h1;have u:=A4 (o:=.lst [x]) hp;exact⟨x,Bq (j:=0) A0 rfl,k x _ (RD.same u _ _ rx) (h3.trans u)⟩
inductive BT (vs:List V) (H:Hp) (Q:VK) (E:XK):Prop | mk (v:V) (S:Sh) (sz:Int) (_:vs=[v]) (_:RD H S.d v) (_:AF sz S) (_:0<sz) (_:sz<=1000) (_:∀H',AA H H'->Q (.int (AB S:Nat)) H')
theorem Ze(F:Fun K "_law_days" "_law_days" Rr f fd)(T:Txt mg):B2 P w K mg base CX0 1 f fd ["_law_shop_here"] BT:=by
 refine F.go ["_law_shop_here"] ?_ ?_ ?_;walk_at "f";obtain⟨v,S,sz,rfl,rs,g,z0,z1,k⟩:=h;have hu:=Au hr;refine⟨_,(Aa (Ae (At C7 A6 (Ai (Vv rfl) rfl T.Zrv Me (A3 (At Ig (Bh (A3 A6 A1)) (Bc (own:=["_law_want"]) (cap:=[]) rfl (Br rfl) (Aq (by decide)) (Ca (A8 hu (pv 0) A6 (λ_ _=>rfl)))
 (λ_ _ _ _ _ _=>⟨(Ac (i:=0) (FV rfl) rfl (Zzt rfl) (.inr rfl)),Bb,(A8 hu (pv 0) A6 (λ_ _=>rfl))⟩))) A1))))),?_⟩
 obtain⟨sa,sb,sc,ws,us,rfl,ha,hb,hc,rws,rus⟩:=Cb rs;have hl:=Aw rus;walk_at "rd";obtain⟨n1,n2,n3,n4⟩:=g.days z0 z1;refine⟨by decide,λp hp=>?_⟩;have u:=A4 (o:=.lst [V.int 0]) hp;refine⟨_,Ad (j:=1) (u _ _ ha) rfl,sc,rfl,us,u _ _ hc,?_⟩;have hwl:=g.wants.1;refine Bg (D1 sc _) (Ag (by lia)) (λH' s'=>s' _ _ (u _ _ hc)) ((S.wants.map λu=>u.2.1).map V.int) (by rw[Zzz,Zzz,hl]) (λi x H' hi hx s' N M hN=>?_) (λH' s' q hq=>?_)
 ·obtain⟨y,hy,ry⟩:=Ax rus hx;obtain⟨e,rfl,he⟩:=G3 ry;walk_at "rd";exact⟨_,Ad (j:=1) (s' _ _ (u _ _ he)) rfl,hN _ _ s' (by rw[Zzy,Zzy,hy];rfl)⟩
 ·have s2:=s'.trans (A4 (o:=.lst ((S.wants.map λu=>u.2.1).map V.int)) hq)
  refine⟨q,rfl,_,s2 _ _ A0,_,A0,Ag (by rw[Zzz,Zzz,Zxe];lia),λr hr2=>?_⟩;refine⟨0::S.wants.map λu=>u.2.1,A0,(λe=>nomatch e),?_⟩;rw[V8 _ (λx hx=>by obtain⟨y,hy,rfl⟩:=Zzv.mp hx;exact(g.wants.2 y hy).2.1.1),<- n3];exact k _ ((u.trans s2).trans (A4 hr2))
inductive zy (v:V) (a:Addr) (nm:Str) (q:Addr) (S:Sh) (H:Hp) (i:Nat) (Z:St) (H':Hp):Prop | mk (o1 o2 o3 o4:Option V) (_:Z=[some v,some (.ref a),some (.str nm),some (.ref q),o1,o2,o3,o4]) (_:H' q=some (.lst ((Ap (AB S) λd=>Ba (wAt nm d) (S.wants.take i)).map V.int))) (_:AA H H')
inductive A2t (v:V) (a:Addr) (nm:Str) (S:Sh) (plan:Str->List Int) (H:Hp) (i:Nat) (Z:St) (H':Hp):Prop | mk (q:Addr) (o1 o2 o3 o4:Option V) (_:Z=[some v,some (.ref a),some (.str nm),some (.ref q),o1,o2,o3,o4]) (_:H q=none) (_:H' q=some (.lst ((Ap (AB S) λd=>Ba (wAt nm d) S.wants+Ba (pAt plan nm d) (S.wares.take i)).map V.int))) (_:AA H H')
def A38(nm:Str)(ps:List (Str×Int))(H:Hp)(j:Nat)(acc:List V)(H':Hp):Prop:=acc=(((ps.take j).filter λp=>decide (p.1=nm)).map (·.2)).map V.int/\AA H H'
noncomputable def Qs:List Int->Int->Int
 |[],_=>0
 |a::_,b=>a*b
theorem jr{ps:List (Str×Int)}{b:Int}(nd:(ps.map (·.1)).Nodup):Ba (λp:Str×Int=>if p.1=nm then p.2*b else 0) ps=Qs ((ps.filter λp=>decide (p.1=nm)).map (·.2)) b:=by
 rw[jq nd];generalize (ps.filter λp=>decide (p.1=nm)).map (·.2)=ms;cases ms<;>rfl
inductive DJ (vs:List V) (H:Hp) (Q:VK) (E:XK):Prop | mk (v:V) (a:Addr) (S:Sh) (plan:Str->List Int) (w:Wr) (sz:Int) (_:vs=[v,.ref a,.str w.name]) (_:RD H S.d v) (_:AQ H a S plan) (_:w∈S.wares) (_:AF sz S) (_:0<sz) (_:sz<=1000) (_:∀p H',H p=none->H' p=some (.lst ((Dx (plan w.name) w.lag).map V.int))->AA H H'->Q (.ref p) H')
theorem X4(F:Fun K "_law_begun" "_law_begun" Pk f fd)(T:Txt mg)(Ztt:Has P w K mg base "_law_ware" 1 ["_law_shop_here", "_law_name"] BF)(Ztq:Has P w K mg base "_law_days" 1 ["_law_shop_here"] BT):B2 P w K mg base CX0 2 f fd ["_law_shop_here", "_law_plan", "_law_name"] DJ:=by
 refine F.go ["_law_shop_here", "_law_plan", "_law_name", "_law_lag", "_law_found", "_law_day", "_law_lots"] ?_ ?_ ?_;walk_at "f";obtain⟨v,a,S,plan,w,sz,rfl,rs,pl,hm,g,z0,z1,k⟩:=h;have hu:=Au hr;refine⟨_,(A2 (Af (i:=3) Nd rfl (Zzt rfl) (A8 hu (A7 Ztt hr.z rfl (A3 (pv 0) (A3 (pv 2) A1))) A6 (λ_ _=>rfl)))
 (A2 (Af (i:=4) Nd rfl (Zzt rfl) (Bh A1))
 (A2 (Bk PassesOwn.never rfl (Cl rfl T.Zth (A3 (A7 Ztq hr.z rfl (A3 (pv 0) A1)) A1)) (Ac (i:=5) Nd rfl (Zzt rfl))
 (A2 (Af (i:=6) Nd rfl (Zzt rfl) A6)
 (A2 (Ay (Ah (Eh hu) (At C7 (pv 5) (pv 3)) (A7 Ztq hr.z rfl (A3 (pv 0) A1)) (Aj _)) (Aa (Af (i:=6) Nd rfl (Zzt rfl) (A8 hu (A8 hu (pv 1) (pv 2) (λ_ _=>rfl)) (At C7 (pv 5) (pv 3)) (λ_ _=>rfl)))) Ak)
 (Aa (C5 (Cf Zz5 Zyn Zym Ck (pv 4) (A3 (pv 6) A1)))))))
 (Aa (Ae (pv 4)))))),?_⟩
 walk_at "rd";obtain⟨n1,n2,n3,n4⟩:=g.days z0 z1;have wb:=g.ws.wb w hm;refine⟨v,S,w,sz,rfl,rs,g,hm,λx H1 rx sm1=>?_⟩;obtain⟨xe,c1,c2,rfl,hxe,_⟩:=Bt rx;refine⟨_,Ad (j:=1) hxe rfl,Zyz _,λp hp=>?_⟩;have u1:=sm1.trans (A4 (o:=.lst []) hp);have fp:H p=none:=AA.free sm1 hp;refine⟨v,S,sz,rfl,RD.same u1 _ _ rs,g,z0,z1,λH2 sm2=>⟨_,rfl,by lia,by lia,?_⟩⟩;have en:((AB S:Nat):Int).toNat=AB S:=by lia
 rw[en];obtain⟨kvs,hkv,hpl⟩:=id pl;obtain⟨l,hv,hll,hlen,hbd⟩:=hpl w.name (Zzv.mpr ⟨w,hm,rfl⟩);refine Cp (J4 0 _) (A1y v a w.name p w.lag (bAt (plan w.name) w.lag) H) ⟨_,_,rfl,sm2 _ _ A0,u1.trans sm2⟩ (λ_ _ _ _ _=>trivial) (λi x Z H3 hi hx h=>?_) (λZ H3 h=>?_)
 ·obtain⟨o1,o2,rfl,hp3,sm3⟩:=h;subst hx;walk_at "rd";refine⟨v,S,sz,rfl,RD.same sm3 _ _ rs,g,z0,z1,λH4 sm4=>?_⟩;have hp4:=sm4 _ _ hp3;have s4:=sm3.trans sm4;refine⟨_,rfl,Dq (λhz=>?_) (λhz=>?_)⟩
  ·have hz:=FV hz
   have hl0:=wb.lag.1;have ix:(0+(i:Int)+w.lag).toNat=i+w.lag.toNat:=by lia
   have lt:i+w.lag.toNat<(plan w.name).length:=by lia
   refine⟨_,Ik (hkv.same s4) hv,.int ((plan w.name).getD (i+w.lag.toNat) 0),Ju (.inl (s4 _ _ hll)) (by lia) (by rw[ix,Zzy,Zzp,Zzr lt];rfl),Ds hp4,_,hp4,by rw[Zzz,Al];exact Zz0 (m:=1000) (by lia) (by decide),_,_,rfl,?_,λb o hb=>by rw[Ab (A5 hb fp)];exact s4 b o hb⟩;rw[A0,Fx,Zzo];unfold bAt;simp only[FZ lt,Zza,Zxn]
  ·have hz:¬ 0+(i:Int)+w.lag<((AB S:Nat):Int):=λq=>hz (FW q)
   have hl0:=wb.lag.1;have lt:¬ i+w.lag.toNat<(plan w.name).length:=by lia
   refine⟨Ds hp4,_,hp4,by rw[Zzz,Al];exact Zz0 (m:=1000) (by lia) (by decide),_,_,rfl,?_,λb o hb=>by rw[Ab (A5 hb fp)];exact s4 b o hb⟩;rw[A0,Fx,Zzo];unfold bAt;simp only[FY lt,Zza,Zxn]
 ·obtain⟨o1,o2,rfl,hp3,sm3⟩:=h;walk_at "rd";refine k p H3 fp ?_ sm3;rw[hp3];unfold Dx;rw[hlen]
inductive DK (vs:List V) (H:Hp) (Q:VK) (E:XK):Prop | mk (v:V) (a:Addr) (S:Sh) (plan:Str->List Int) (w:Wr) (sz:Int) (_:vs=[v,.ref a,.str w.name]) (_:RD H S.d v) (_:AQ H a S plan) (_:w∈S.wares) (_:AF sz S) (_:0<sz) (_:sz<=1000) (_:∀p H',H p=none->H' p=some (.lst ((Az S plan w.name).map V.int))->AA H H'->Q (.ref p) H')
theorem Wz(F:Fun K "_law_needs" "_law_needs" Pg f fd)(T:Txt mg)(Ztq:Has P w K mg base "_law_days" 1 ["_law_shop_here"] BT)(Zrl:Has P w K mg base "_law_begun" 2 ["_law_shop_here", "_law_plan", "_law_name"] DJ):B2 P w K mg base CX0 3 f fd ["_law_shop_here", "_law_plan", "_law_name"] DK:=by
 refine F.go ["_law_shop_here", "_law_plan", "_law_name", "_law_found", "_law_want", "_law_ware_here", "_law_amounts", "_law_lots"] ?_ ?_ ?_;walk_at "f";obtain⟨v,a,S,plan,w,sz,rfl,rs,pl,hm,g,z0,z1,k⟩:=h;have hu:=Au hr;have hu4:=Qr hr;refine⟨_,(A2 (Af (i:=3) Nd rfl (Zwd rfl) (Bc (own:=["_law_day"]) (cap:=[]) rfl (Br rfl) (Aq (by decide)) (Cl rfl T.Zth (A3 (A7 Ztq hr.z rfl (A3 (pv 0) A1)) A1))
 (λ_ _ _ _ _ _=>⟨(Ac (i:=0) (FV rfl) rfl (Zzt rfl) (.inr rfl)),Bb,A6⟩)))
 (A2 (Bk PassesOwn.never rfl (Ca (A8 hu (pv 0) A6 (λ_ _=>rfl))) (Ac (i:=4) Nd rfl (Zzt rfl))
 (Aa (Ay (Ah (Bl hu) (A8 hu (pv 4) A6 (λ_ _=>rfl)) (pv 2) (Aj _)) (Aa (Eo (At C7 (A8 hu (pv 3) (A8 hu (pv 4) A6 (λ_ _=>rfl)) (λ_ _=>rfl)) (A8 hu (pv 4) A6 (λ_ _=>rfl))) (Fy (pv 3) (A8 hu (pv 4) A6 (λ_ _=>rfl)) Gk))) Ak)))
 (A2 (Bk PassesOwn.never rfl (Ca (A8 hu (pv 0) A6 (λ_ _=>rfl))) (Ac (i:=5) Nd rfl (Zzt rfl))
 (A2 (Af (i:=6) Nd rfl (Zwd rfl) (Bc (own:=["_law_part", "_law_amount_here"]) (cap:=[2]) rfl (Br rfl) Ex (Ca (A8 hu (pv 5) A6 (λ_ _=>rfl)))
 (λ_ _ _ _ _ _=>⟨(Do (n:=2) rfl (An (Ac (i:=0) (FV rfl) rfl (Zzt rfl) (.inr rfl)) (An (Ac (i:=1) (FV rfl) rfl (Zzt rfl) (.inr rfl)) Cj))),(G4 (Ah (Bl hu) (pv 0) (pv 2) (Aj _))),(pv 1)⟩)))
 (Aa (Ay (Ah (Wo hu4) (pv 6) (Bh A1) (Aj _)) (A2 (Af (i:=7) Nd rfl (Zwd rfl) (A7 Zrl hr.z rfl (A3 (pv 0) (A3 (pv 1) (A3 (A8 hu (pv 5) A6 (λ_ _=>rfl)) A1)))))
 (Aa (Af (i:=3) Nd rfl (Zwd rfl) (Bc (own:=["_law_day"]) (cap:=[3,6,7]) rfl (Br rfl) (Aq (by decide)) (Cl rfl T.Zth (A3 (Ai Bs rfl T.Zts Ct (A3 (pv 3) A1)) A1))
 (λ_ _ _ _ _ _=>⟨(Ac (i:=0) (FV rfl) rfl (Zzt rfl) (.inr rfl)),Bb,(At C7 (A8 hu (pv 1) (pv 0) (λ_ _=>rfl)) (At G5 (A8 hu (pv 2) A6 (λ_ _=>rfl)) (A8 hu (pv 3) (pv 0) (λ_ _=>rfl))))⟩))))) Ak))))
 (Aa (Ae (pv 3)))))),?_⟩
 walk_at "rd";obtain⟨n1,n2,n3,n4⟩:=g.days z0 z1;refine⟨v,S,sz,rfl,rs,g,z0,z1,λH1 sm1=>⟨_,rfl,by lia,by lia,?_⟩⟩;have en:((AB S:Nat):Int).toNat=AB S:=by lia
 rw[en];refine Bg (J4 0 _) (Ag n2) (λ_ _=>trivial) ((Ap (AB S) λ_=>0).map V.int) (by rw[Zzz,Al]) (λi x H' hi hx s' N M hN=>?_) (λH2 s2 q hq=>?_)
 ·walk_at "rd";exact hN _ _ s' (by rw[Zzy,Bi hi];rfl)
 obtain⟨sa,sb,sc,ws,us,rfl,ha,hb,hc,rws,rus⟩:=Cb rs;have hlw:=Aw rws;have hlu:=Aw rus;have fq:H q=none:=AA.free (sm1.trans s2) hq;have u2:=(sm1.trans s2).trans (A4 (o:=.lst ((Ap (AB S) λ_=>0).map V.int)) hq);refine⟨_,Ad (j:=1) (u2 _ _ ha) rfl,sc,rfl,us,u2 _ _ hc,?_⟩;refine Cp (D1 sc _) (zy (.ref sa) a w.name q S H) ⟨_,_,_,_,rfl,?_,u2⟩ (λi Z H' _ h=>by obtain⟨_,_,_,_,_,_,s⟩:=h;exact s _ _ hc) (λi y Z H3 hi hy h=>?_) (λZ H3 h=>?_)
 ·rw[A0];exact congrArg (λz=>some (HO.lst (Zyo V.int z))) (C4 λd _=>by rw[Zwg,Jb])
 ·obtain⟨o1,o2,o3,o4,rfl,hq3,sm⟩:=h;obtain⟨u,hu',ru⟩:=Ax rus hy;obtain⟨e,rfl,he⟩:=G3 ru;have he':=sm _ _ he;have hum:=Zzu hu';walk_at "rd";refine⟨_,Ad (j:=0) he' rfl,rfl,Dq (λhz=>?_) (λhz=>?_)⟩
  ·have hz:u.1=w.name:=V.str.inj (FV hz)
   have hd:=n4 u hum;have hd0:=(g.wants.2 u hum).2.1.1;refine⟨_,Ad (j:=1) he' rfl,.int (Ba (wAt w.name u.2.1.toNat) (S.wants.take i)),Ju (.inl hq3) hd0 (by rw[Zzy,Bi hd];rfl),_,Ad (j:=2) he' rfl,_,rfl,_,rfl,_,Ad (j:=1) he' rfl,_,_,rfl,hq3,u.2.1.toNat,?_,?_⟩
   ·rw[Zzz,Al];unfold ixN;rw[FZ hd0,FZ (by lia)]
   ·refine⟨_,_,_,_,rfl,?_,λb' o' hb'=>by rw[Ab (A5 hb' fq)];exact sm b' o' hb'⟩;rw[A0,<- Zv9,Jf];refine congrArg (λz=>some (HO.lst (Zyo V.int z))) (C4 λd _=>?_);rw[Dy _ hu'];unfold wAt;by_cases e1:d=u.2.1.toNat
    ·subst e1;rw[FZ rfl,FZ ⟨hz,by lia⟩]
    ·rw[FY e1,FY (λq=>e1 (by lia)),Zxy]
  ·refine⟨_,_,_,_,rfl,?_,sm⟩;rw[hq3];refine congrArg (λz=>some (HO.lst (Zyo V.int z))) (C4 λd _=>?_);rw[Dy _ hu'];unfold wAt;rw[FY (c:=u.1=w.name/\_) (λq=>hz (FW (by rw[q.1]))),Zxy]
 ·obtain⟨o1,o2,o3,o4,rfl,hq3,sm⟩:=h;rw[hlu,Zzf] at hq3;walk_at "rd";refine⟨_,Ad (j:=0) (sm _ _ ha) rfl,sb,rfl,ws,sm _ _ hb,?_⟩;refine Cp (D1 sb _) (A2t (.ref sa) a w.name S plan H) ⟨q,_,_,_,_,rfl,fq,?_,sm⟩ (λi Z H' _ h=>by obtain⟨_,_,_,_,_,_,_,_,s⟩:=h;exact s _ _ hb) (λi y Z H4 hi hy h=>?_) (λZ H4 h=>?_)
  ·rw[hq3];exact congrArg (λz=>some (HO.lst (Zyo V.int z))) (C4 λd _=>by rw[Zwg,Jb,Zxy])
  ·obtain⟨q,o1,o2,o3,o4,rfl,fq,hq4,sm4⟩:=h;obtain⟨t,ht,rt⟩:=Ax rws hy;have htm:=Zzu ht;have wb:=g.ws.wb t htm;obtain⟨te,d1,d2,rfl,hte,rc,rp⟩:=Bt rt;obtain⟨pb,pv,rfl,hpb,rpv⟩:=RD.tup_of rp;have hlp:=Aw rpv;walk_at "rd";refine⟨_,Ad (j:=6) (sm4 _ _ hte) rfl,pb,rfl,pv,sm4 _ _ hpb,?_⟩;refine Et (D1 pb _) (Ag (by have:=wb.parts;lia)) (A38 w.name t.parts H4) ⟨rfl,AA.refl _⟩ (λj acc H' _ h=>h.2 _ _ (sm4 _ _ hpb)) (λj acc H' h=>?_) (λj x acc H5 hj hx h=>?_) (λacc H5 h r hr5=>?_)
   ·rw[h.1,Zzz,Zzz];exact Zzd (Zyh _ _) (by rw[Zz7];lia)
   ·obtain⟨rfl,s5⟩:=h;obtain⟨pp,hpp,rpp⟩:=Ax rpv hx;obtain⟨pe,rfl,hpe⟩:=Iv rpp;refine gt2 (s5 _ _ (sm4 _ _ hpe)) ?_;walk_at "rd";refine⟨rfl,Dq (λhz=>?_) (λhz=>?_)⟩
    ·have hz:pp.1=w.name:=FV hz
     refine⟨?_,s5⟩;rw[Zzb,hpp,Zyx,Zzo,Zzo];show _=_++Zyo V.int (Zyo (λx=>x.2) (Zvx _ [pp]));rw[Zyk,FZ (FW hz)];rfl
    ·have hz:¬ pp.1=w.name:=λe=>hz (FW e)
     refine⟨?_,s5⟩;rw[Zzb,hpp,Zyx,Zzo,Zzo];show _=_++Zyo V.int (Zyo (λx=>x.2) (Zvx _ [pp]));rw[Zyk,FY (by rw[FX hz];decide)];exact(Zz6 _).symm
   ·obtain⟨rfl,s5⟩:=h;rw[hlp,Zzf];have er:∀d,Ba (pAt plan w.name d) (S.wares.take (i+1))=Ba (pAt plan w.name d) (S.wares.take i)+Qs ((t.parts.filter λp=>decide (p.1=w.name)).map (·.2)) (bAt (plan t.name) t.lag d):=λd=>by
     rw[Dy _ ht];unfold pAt;rw[jr wb.nds]
    have am:∀x∈(t.parts.filter λp=>decide (p.1=w.name)).map (·.2),1<=x/\x<=100:=λx hx=>by
     obtain⟨y,hy,rfl⟩:=Zzv.mp hx;exact wb.amts y (Zyf.mp hy).1
    generalize (t.parts.filter λp=>decide (p.1=w.name)).map (·.2)=ms at er am;have u5:=A4 (o:=.lst (ms.map V.int)) hr5;have hr6:upd H5 r (.lst (ms.map V.int)) r=some (.lst (ms.map V.int)):=A0;have s6:=(sm4.trans s5).trans u5;have hq6:=u5 _ _ (s5 _ _ hq4);generalize upd H5 r (.lst (ms.map V.int))=H6 at hr6 s6 hq6;refine⟨Zyz _,λz hz6=>?_⟩;have u6:=A4 (o:=.lst []) hz6;refine⟨Wd ms,qj (u6 _ _ hr6),Wd [],qj A0,gu _,gu _,?_⟩;rw[vd];have s7:=s6.trans u6;have hq7:=u6 _ _ hq6;have hr7:=u6 _ _ hr6;generalize upd H6 z (.lst [])=H7 at s7 hq7 hr7;cases ms with
    |nil =>
     rw[FY (by decide)];refine⟨q,_,_,_,_,rfl,fq,?_,s7⟩;rw[hq7];refine congrArg (λz=>some (HO.lst (Zyo V.int z))) (C4 λd _=>?_);rw[er,Qs,Zxy]
    |cons m ms =>
     rw[FZ (by simp)];refine⟨_,Ad (j:=0) (s7 _ _ hte) rfl,?_⟩;refine⟨.ref sa,a,S,plan,t,sz,rfl,RD.same s7 _ _ rs,pl.same s7,htm,g,z0,z1,λb H8 fb hb8 sm8=>?_⟩;have hq8:=sm8 _ _ hq7;have hr8:=sm8 _ _ hr7;refine⟨_,.inl hq8,?_⟩;have ln:(Zyo V.int (Ap (AB S) λd=>Ba (wAt w.name d) S.wants+Ba (pAt plan w.name d) (S.wares.take i))).length=AB S:=by rw[Zzz,Al]
     rw[ln,en];refine⟨by lia,by lia,?_⟩;obtain⟨kvs,hkv,hpl⟩:=pl;obtain⟨l,hv,hll,hlen,hbd⟩:=hpl t.name (Zzv.mpr ⟨t,htm,rfl⟩);have hm1:=am m Zzm;refine Bg (J4 0 _) (Ag n2) (λ_ _=>trivial) ((Ap (AB S) λd=>Ba (wAt w.name d) S.wants+Ba (pAt plan w.name d) (S.wares.take i)+m*bAt (plan t.name) t.lag d).map V.int) (by rw[Zzz,Al]) (λj x H' hj hx s' N M hN=>?_) (λH9 s9 y hy9=>?_)
     ·subst hx;have ix:(0+(j:Int)).toNat=j:=by lia
      walk_at "rd";refine⟨.int (Ba (wAt w.name j) S.wants+Ba (pAt plan w.name j) (S.wares.take i)),Ju (.inl (s' _ _ hq8)) (by lia) (by rw[ix,Zzy,Bi hj];rfl),.int m,Bq (j:=0) (s' _ _ hr8) rfl,.int (bAt (plan t.name) t.lag j),Ju (.inl (s' _ _ hb8)) (by lia) (by rw[ix,Zzy];unfold Dx;rw[Bi (by rw[hlen];exact hj)];rfl),_,rfl,_,rfl,.inl (.inl ⟨by lia,by lia⟩),_,rfl,hN _ _ s' (by rw[Zzy,Bi hj];rfl)⟩
     ·have u9:=(s7.trans sm8).trans (s9.trans (A4 (o:=.lst ((Ap (AB S) λd=>Ba (wAt w.name d) S.wants+Ba (pAt plan w.name d) (S.wares.take i)+m*bAt (plan t.name) t.lag d).map V.int)) hy9))
      refine⟨y,_,_,_,_,rfl,AA.free ((s7.trans sm8).trans s9) hy9,?_,u9⟩;rw[A0];refine congrArg (λz=>some (HO.lst (Zyo V.int z))) (C4 λd _=>?_);rw[er,Qs];lia
  ·obtain⟨q,o1,o2,o3,o4,rfl,fq,hq4,sm4⟩:=h;rw[hlw,Zzf] at hq4;walk_at "rd";exact k q H4 fq hq4 sm4
def Ez(S:Sh)(plan:Str->List Int)(w:Wr)(d:Nat):Int:=Ba (cAt d) w.coming+w.gives*(plan w.name).getD d 0 - Bj S plan w.name d
theorem Um(S:Sh)(plan:Str->List Int)(w:Wr):∀d,upS (Gv S plan w) (d+1)=w.stock+upS (Ez S plan w) (d+1)
 |0=>by simp only[upS,Gv,Ez,Cg];rw[FZ trivial];lia
 |d+1=>by
  have e1:upS (Gv S plan w) (d+1+1)=upS (Gv S plan w) (d+1)+Gv S plan w (d+1):=rfl;have e2:upS (Ez S plan w) (d+1+1)=upS (Ez S plan w) (d+1)+Ez S plan w (d+1):=rfl;rw[e1,e2,Um S plan w d];have e3:Gv S plan w (d+1)=Ez S plan w (d+1):=by
   simp only[Gv,Ez,Cg];rw[FY (by lia),Zuk]
  rw[e3,Int.add_assoc]
inductive A1o (v:V) (a:Addr) (nm:Str) (xe q p:Addr) (st:Int) (f:Nat->Int) (H1:Hp) (i:Nat) (Z:St) (H':Hp):Prop | mk (o:Option V) (_:Z=[some v,some (.ref a),some (.str nm),some (.ref xe),some (.ref q),some (.int (st+upS f i)),some (.ref p),o]) (_:H' p=some (.lst ((Ap i λd=>st+upS f (d+1)).map V.int))) (_:∀b o,b≠p->H1 b=some o->H' b=some o)
def ArIn(d:Nat)(ps:List (Int×Int))(H:Hp)(j:Nat)(acc:List V)(H':Hp):Prop:=acc=(((ps.take j).filter λp=>decide (p.1=(d:Int))).map (·.2)).map V.int/\AA H H'
theorem f7(d:Nat):∀ps:List (Int×Int),((ps.filter λp=>decide (p.1=(d:Int))).map (·.2)).sum=Ba (cAt d) ps
 |[]=>rfl
 |p::r=>by
  rw[Ch,<- f7 d r,Zyk];unfold cAt;by_cases e:p.1=(d:Int)
  ·rw[FZ (FW e),FZ e,Zza,List.sum_cons]
  ·rw[FY (by rw[FX e];decide),FY e,Zuk]
inductive BH (vs:List V) (H:Hp) (Q:VK) (E:XK):Prop | mk (v:V) (a:Addr) (S:Sh) (plan:Str->List Int) (w:Wr) (sz:Int) (_:vs=[v,.ref a,.str w.name]) (_:RD H S.d v) (_:AQ H a S plan) (_:w∈S.wares) (_:AF sz S) (_:0<sz) (_:sz<=1000) (_:∀p H',H p=none->H' p=some (.lst ((Ar S plan w).map V.int))->AA H H'->Q (.ref p) H')
theorem Tu(F:Fun K "_law_stocks" "_law_stocks" Mu f fd)(T:Txt mg)(Ztt:Has P w K mg base "_law_ware" 1 ["_law_shop_here", "_law_name"] BF)(Zrk:Has P w K mg base "_law_needs" 3 ["_law_shop_here", "_law_plan", "_law_name"] DK):B2 P w K mg base CX0 4 f fd ["_law_shop_here", "_law_plan", "_law_name"] BH:=by
 refine F.go ["_law_shop_here", "_law_plan", "_law_name", "_law_ware_here", "_law_gone", "_law_left", "_law_found", "_law_day"] ?_ ?_ ?_;walk_at "f";obtain⟨v,a,S,plan,w,sz,rfl,rs,pl,hm,g,z0,z1,k⟩:=h;have hu:=Au hr;refine⟨_,(A2 (Af (i:=3) Nd rfl (Zzt rfl) (A7 Ztt hr.z rfl (A3 (pv 0) (A3 (pv 2) A1))))
 (A2 (Af (i:=4) Nd rfl (Zzt rfl) (A7 Zrk hr.z rfl (A3 (pv 0) (A3 (pv 1) (A3 (pv 2) A1)))))
 (A2 (Af (i:=5) Nd rfl (Zzt rfl) (A8 hu (pv 3) A6 (λ_ _=>rfl)))
 (A2 (Af (i:=6) Nd rfl (Zzt rfl) (Bh A1))
 (A2 (Bk PassesOwn.never rfl (Cl rfl T.Zth (A3 (Ai Bs rfl T.Zts Ct (A3 (pv 4) A1)) A1)) (Ac (i:=7) Nd rfl (Zwd rfl))
 (A2 (Af (i:=5) Nd rfl (Zzt rfl) (At C7 (pv 5) (Ai (Vs rfl) rfl T.Zqs vx (A3 (Bc (own:=["_law_when", "_law_amount_here"]) (cap:=[7]) rfl (Br rfl) Ex (Ca (A8 hu (pv 3) A6 (λ_ _=>rfl)))
 (λ_ _ _ _ _ _=>⟨(Do (n:=2) rfl (An (Ac (i:=0) (FV rfl) rfl (Zzt rfl) (.inr rfl)) (An (Ac (i:=1) (FV rfl) rfl (Zzt rfl) (.inr rfl)) Cj))),(G4 (Ah (Bl hu) (pv 0) (pv 2) (Aj _))),(pv 1)⟩)) A1))))
 (A2 (Af (i:=5) Nd rfl (Zzt rfl) (At S7 (At C7 (pv 5) (At G5 (A8 hu (pv 3) A6 (λ_ _=>rfl)) (A8 hu (A8 hu (pv 1) (pv 2) (λ_ _=>rfl)) (pv 7) (λ_ _=>rfl)))) (A8 hu (pv 4) (pv 7) (λ_ _=>rfl))))
 (Aa (C5 (Cf Zz5 Zyn Zym Ck (pv 6) (A3 (pv 5) A1)))))))
 (Aa (Ae (pv 6)))))))),?_⟩
 walk_at "rd";obtain⟨n1,n2,n3,n4⟩:=g.days z0 z1;have wb:=g.ws.wb w hm;refine⟨v,S,w,sz,rfl,rs,g,hm,λx H1 rx sm1=>?_⟩;obtain⟨xe,c1,c2,rfl,hxe,rc,_⟩:=Bt rx;obtain⟨cb,cv,rfl,hcb,rcv⟩:=RD.tup_of rc;refine⟨v,a,S,plan,w,sz,rfl,RD.same sm1 _ _ rs,pl.same sm1,hm,g,z0,z1,λq H2 hq hq2 sm2=>?_⟩;refine⟨_,Ad (j:=4) (sm2 _ _ hxe) rfl,Zyz _,λp hp=>?_⟩;have u2:=A4 (o:=.lst []) hp;refine⟨q,rfl,_,.inl (u2 _ _ hq2),?_⟩;have ln:(Zyo V.int (Az S plan w.name)).length=AB S:=by rw[Zzz];unfold Az;rw[Al]
 rw[ln];refine⟨by lia,by lia,?_⟩;have en:((AB S:Nat):Int).toNat=AB S:=by lia
 rw[en];have fp:H p=none:=AA.free (sm1.trans sm2) hp;have s12:=sm1.trans sm2;have hcl:=Aw rcv;have hcom:=g.com w hm;obtain⟨kvs,hkv,hpl⟩:=id pl;obtain⟨l,hv,hll,hlen,hbd⟩:=hpl w.name (Zzv.mpr ⟨w,hm,rfl⟩);refine Cp (J4 0 _) (A1o v a w.name xe q p w.stock (Ez S plan w) H2) ⟨none,by simp only[upS,Zxy],A0,λb o hb ho=>by rw[Ab hb];exact ho⟩ (λ_ _ _ _ _=>trivial) (λi x Z H3 hi hx h=>?_) (λZ H3 h=>?_)
 ·obtain⟨o1,rfl,hp3,kp⟩:=h;subst hx;walk_at "rd";have ne:∀{b:Addr} {o:HO},H2 b=some o->H3 b=some o:=λ{b o} hb=>kp _ _ (A5 hb hp) hb;refine⟨_,Ad (j:=5) (ne (sm2 _ _ hxe)) rfl,cb,rfl,cv,ne (sm2 _ _ hcb),?_⟩;refine Et (D1 cb _) (Ag (by have:=hcom.1;lia)) (ArIn i w.coming H3) ⟨rfl,AA.refl _⟩ (λj acc H' _ h=>h.2 _ _ (ne (sm2 _ _ hcb))) (λj acc H' h=>?_) (λj x acc H5 hj hx h=>?_) (λacc H5 h r hr5=>?_)
  ·rw[h.1,Zzz,Zzz];exact Zzd (Zyh _ _) (by rw[Zz7];lia)
  ·obtain⟨rfl,s5⟩:=h;obtain⟨pp,hpp,rpp⟩:=Ax rcv hx;obtain⟨pe,rfl,hpe⟩:=Te rpp;refine gt2 (s5 _ _ (ne (sm2 _ _ hpe))) ?_;walk_at "rd";refine⟨rfl,Dq (λhz=>?_) (λhz=>?_)⟩
   ·have hz:pp.1=(i:Int):=by have:=FV hz;lia
    refine⟨?_,s5⟩;rw[Zzb,hpp,Zyx,Zzo,Zzo];show _=_++Zyo V.int (Zyo (λx=>x.2) (Zvx _ [pp]));rw[Zyk,FZ (FW hz)];rfl
   ·have hz:¬ pp.1=(i:Int):=λe=>hz (FW (by lia))
    refine⟨?_,s5⟩;rw[Zzb,hpp,Zyx,Zzo,Zzo];show _=_++Zyo V.int (Zyo (λx=>x.2) (Zvx _ [pp]));rw[Zyk,FY (by rw[FX hz];decide)];exact(Zz6 _).symm
  ·obtain⟨rfl,s5⟩:=h;rw[hcl,Zzf];have hr6:upd H5 r (.lst (((w.coming.filter λp=>decide (p.1=(i:Int))).map (·.2)).map V.int)) r=some (.lst (((w.coming.filter λp=>decide (p.1=(i:Int))).map (·.2)).map V.int)):=A0;have u5:=s5.trans (A4 (o:=.lst (((w.coming.filter λp=>decide (p.1=(i:Int))).map (·.2)).map V.int)) hr5);have hs:=f7 i w.coming;generalize (w.coming.filter λp=>decide (p.1=(i:Int))).map (·.2)=ms at hr6 u5 hs;generalize upd H5 r (.lst (ms.map V.int))=H6 at hr6 u5;have ep:(plan w.name)[i]?=some ((plan w.name).getD i 0):=by
    rw[Zzp,Zzr (by lia)];rfl
   have hb:=hbd _ (Zzu ep);have hg:=wb.gives;have ix:(0+(i:Int)).toNat=i:=by lia
   have hp6:=u5 _ _ hp3;refine⟨r,rfl,ms,hr6,_,Ad (j:=2) (u5 _ _ (ne (sm2 _ _ hxe))) rfl,_,Ik (((hkv.same s12).same λb o h=>ne h).same u5) hv,.int ((plan w.name).getD i 0),Ju (.inl (u5 _ _ (ne (s12 _ _ hll)))) (by lia) (by rw[ix,Zzy,ep];rfl),_,rfl,_,rfl,.inl (.inl ⟨by lia,by lia⟩),.int (Bj S plan w.name i),Ju (.inl (u5 _ _ (ne hq2))) (by lia) (by rw[ix,Zzy];unfold Az;rw[Bi hi];rfl),_,rfl,Ds hp6,_,hp6,by rw[Zzz,Al];exact Zz0 (m:=1000) (by lia) (by decide),some (.int (0+i)),?_,?_,λb o nb hb=>?_⟩
   ·have e2:upS (Ez S plan w) (i+1)=upS (Ez S plan w) i+Ez S plan w i:=rfl
    rw[e2,hs];simp only[Ez];rw[show w.stock+upS (Ez S plan w) i+Ba (cAt i) w.coming+w.gives*(plan w.name).getD i 0 - Bj S plan w.name i=w.stock+(upS (Ez S plan w) i+(Ba (cAt i) w.coming+w.gives*(plan w.name).getD i 0 - Bj S plan w.name i)) by lia]
   ·have e2:upS (Ez S plan w) (i+1)=upS (Ez S plan w) i+Ez S plan w i:=rfl
    rw[A0,Fx,Zzo,hs];simp only[Zza,Zxn];rw[e2];simp only[Ez];rw[show w.stock+upS (Ez S plan w) i+Ba (cAt i) w.coming+w.gives*(plan w.name).getD i 0 - Bj S plan w.name i=w.stock+(upS (Ez S plan w) i+(Ba (cAt i) w.coming+w.gives*(plan w.name).getD i 0 - Bj S plan w.name i)) by lia]
   ·rw[Ab nb];exact u5 _ _ (kp _ _ nb hb)
 ·obtain⟨o1,rfl,hp3,kp⟩:=h;walk_at "rd";refine k p H3 fp ?_ (λb o hb=>kp _ _ (A5 hb fp) (s12 _ _ hb));rw[hp3];unfold Ar;exact congrArg (λz=>some (HO.lst (Zyo V.int z))) (C4 λd _=>(Um S plan w d).symm)
end
set_option maxHeartbeats 4000000
section
variable {dk:Dk}
inductive CV (vs:List V) (H:Hp) (Q:VK) (E:XK):Prop | mk (v:V) (a:Addr) (S:Sh) (plan:Str->List Int) (sz:Int) (_:vs=[v,.ref a]) (_:RD H S.d v) (_:AQ H a S plan) (_:AF sz S) (_:0<sz) (_:sz<=1000) (_:∀(t:Addr) (ys:List Str) (H':Hp),H t=none->Jo (lv S) (Be S) ys->H' t=some (.tup (judV (Zr S plan ys)))->AA H H'->Q (.ref t) H')
inductive A33 (v:V) (a:Addr) (S:Sh) (plan:Str->List Int) (ys:List Str) (H:Hp) (i:Nat) (Z:St) (H':Hp):Prop | mk (o2 o3 o4 o5:Option V) (_:Z=[some v,some (.ref a),o2,o3,o4,o5]) (_:Qa S plan ys i=none) (_:AA H H')
inductive A0d (v:V) (a:Addr) (S:Sh) (plan:Str->List Int) (w:Wr) (x:V) (q:Addr) (H:Hp) (i:Nat) (Z:St) (H':Hp):Prop | mk (o5:Option V) (_:Z=[some v,some (.ref a),some (.str w.name),some x,some (.ref q),o5]) (_:Eb S plan w i=none) (_:H'=H)
theorem Tw(F:Fun K "_law_judged" "_law_judged" Mw f fd)(T:Txt mg)(Zsy:Has P w K mg base "_law_order" 14 ["_law_shop_here"] CC)(Ztt:Has P w K mg base "_law_ware" 1 ["_law_shop_here", "_law_name"] BF)(Ztp:Has P w K mg base "_law_stocks" 4 ["_law_shop_here", "_law_plan", "_law_name"] BH):B2 P w K mg base CX0 15 f fd ["_law_shop_here", "_law_plan"] CV:=by
 refine F.go ["_law_shop_here", "_law_plan", "_law_name", "_law_ware_here", "_law_left", "_law_day"] ?_ ?_ ?_;walk_at "f";obtain⟨v,a,S,plan,sz,rfl,rs,pl,g,z0,z1,k⟩:=h;have hu:=Au hr;refine⟨_,(A2 (Bk PassesOwn.never rfl (Cq (A7 Zsy hr.z rfl (A3 (pv 0) A1))) (Ac (i:=2) Nd rfl (Zzt rfl))
 (A2 (Af (i:=3) Nd rfl (Zzt rfl) (A7 Ztt hr.z rfl (A3 (pv 0) (A3 (pv 2) A1))))
 (A2 (Af (i:=4) Nd rfl (Zzt rfl) (A7 Ztp hr.z rfl (A3 (pv 0) (A3 (pv 1) (A3 (pv 2) A1)))))
 (Aa (Bk PassesOwn.never rfl (Cl rfl T.Zth (A3 (Ai Bs rfl T.Zts Ct (A3 (pv 4) A1)) A1)) (Ac (i:=5) Nd rfl (Zzt rfl))
 (A2 (Ay (PW.pt (J7 (Ah S9 (A8 hu (A8 hu (pv 1) (pv 2) (λ_ _=>rfl)) (pv 5) (λ_ _=>rfl)) A6 (Aj _)) (He (Ah (Eh hu) (pv 5) (A8 hu (pv 3) A6 (λ_ _=>rfl)) (Aj _))))) (Aa (Ae (Cz (A3 Am (A3 (pv 2) (A3 (pv 5) A1)))))) Ak)
 (Aa (Ay (Ah (Eh hu) (A8 hu (pv 4) (pv 5) (λ_ _=>rfl)) (A8 hu (pv 3) A6 (λ_ _=>rfl)) (Aj _)) (Aa (Ae (Cz (A3 Am (A3 (pv 2) (A3 (pv 5) A1)))))) Ak))))))))
 (Aa (Ae (Cz (A3 Am A1))))),?_⟩
 have L:=Db g;walk_at "rd";refine⟨v,S,rfl,rs,L,g.len.2,λq ys H1 hq hq1 sb s1=>⟨q,rfl,_,hq1,?_⟩⟩;have so:=Ci sb;refine Cp (Dw q _) (A33 v a S plan ys H1) ⟨_,_,_,_,rfl,rfl,AA.refl _⟩ (λi Z H' _ h=>by obtain⟨_,_,_,_,_,_,s⟩:=h;exact s _ _ hq1) (λi x Z H2 hi hx h=>?_) (λZ H2 h=>?_)
 ·obtain⟨o2,o3,o4,o5,rfl,hn,s2⟩:=h;rw[Zzy] at hx;cases en:ys[i]? with
  |none=>rw[en] at hx;cases hx
  |some nm =>
  rw[en] at hx;have hx:V.str nm=x:=Zzh hx;subst hx;have hnm:nm∈S.wares.map (·.name):=so.1.mem_iff.mp (Zzu en);have hil:i<ys.length:=(Zze.mp en).1;obtain⟨w,hw,rfl⟩:=Zzv.mp hnm;have s02:=s1.trans s2;walk_at "rd";obtain⟨n1,n2,n3,n4⟩:=g.days z0 z1;obtain⟨kvs,hkv,hpl⟩:=id pl;obtain⟨l,hv,hll,hlen,hbd⟩:=hpl w.name (Zzv.mpr ⟨w,hw,rfl⟩);have slen:(Ar S plan w).length=AB S:=by unfold Ar;rw[Al]
  have st:=Vb L.nd hn en hw;refine⟨v,S,w,sz,rfl,RD.same s02 _ _ rs,g,hw,λx3 H3 rx3 sm3=>?_⟩;refine⟨v,a,S,plan,w,sz,rfl,RD.same (s02.trans sm3) _ _ rs,pl.same (s02.trans sm3),hw,g,z0,z1,λq4 H4 hq4 hq5 sm4=>?_⟩;obtain⟨xe,c1,c2,rfl,hxe,_⟩:=Bt rx3;have s24:=sm3.trans sm4;have s04:=s02.trans s24;have hxe4:=sm4 _ _ hxe;have hl4:=s04 _ _ hll;refine⟨q4,rfl,_,.inl hq5,by rw[Zzz,slen];lia,by rw[Zzz,slen];lia,?_⟩;rw[Zzz,slen,show ((AB S:Nat):Int).toNat=AB S by lia];refine Cp (J4 0 _) (A0d v a S plan w (.ref xe) q4 H4) ⟨_,rfl,rfl,rfl⟩ (λ_ _ _ _ _=>trivial) (λj y Z H5 hj hy h=>?_) (λZ H5 h=>?_)
  ·obtain⟨o5,rfl,hf,rfl⟩:=h;subst hy;have e0:(0+(j:Int))=((j:Nat):Int):=by lia
   rw[e0];have ep:(plan w.name)[j]?=some ((plan w.name).getD j 0):=by rw[Zzp,Zzr (by lia)];rfl
   have es2:(Ar S plan w)[j]?=some ((Ar S plan w).getD j 0):=by rw[Zzp,Zzr (by lia)];rfl
   have fe:=a8 hlen hj hf;have es:Eb S plan w (j+1)=if C8 (plan w.name) w.lag=some j then some (("early" : Str),j) else if (Ar S plan w).getD j 0<w.floor then some (("below" : Str),j) else none:=by rw[Eb,hf]
   have hkv4:=hkv.same s04;have told:∀(kd:Str) (p2:Addr),Eb S plan w (j+1)=some (kd,j)->H5 p2=none->Q (.ref p2) (upd H5 p2 (.tup [.str kd,.str w.name,.int j])):=λkd p2 ef hp2=>by
    have fa:=da ef (by lia);rw[fa] at st;have ej:Zr S plan ys=some (kd,w.name,j):=ui st (by lia);refine k p2 ys _ (AA.free s04 hp2) sb ?_ (s04.trans (A4 hp2));rw[ej];exact A0
   have i1:Jp H5 (.ref l) (.int j) (.int ((plan w.name).getD j 0)):=Bq hl4 (by rw[Zzy,ep];rfl);have i2:Jp H5 (.ref q4) (.int j) (.int ((Ar S plan w).getD j 0)):=Bq hq5 (by rw[Zzy,es2];rfl);have i3:Jp H5 (.ref xe) (.int 3) (.int w.floor):=Ad (j:=3) hxe4 rfl;have AU:¬ ((j:Int)<w.lag/\0<(plan w.name).getD j 0)->if decide ((Ar S plan w).getD j 0<w.floor)=true then 3<=sizeLine/\∀p2:Addr,H5 p2=none->Q (.ref p2) (upd H5 p2 (.tup [.str (Str.ofString "below"),.str w.name,.int j])) else A0d v a S plan w (.ref xe) q4 H5 (j+1) [some v,some (.ref a),some (.str w.name),some (.ref xe),some (.ref q4),some (.int j)] H5:=λhne=>by
    rw[FY (λz=>hne (fe.mp z))] at es;refine Dq (λhb=>?_) (λhb=>?_)
    ·rw[FZ (FV hb)] at es;exact⟨by decide,λp2 hp2=>told _ p2 es hp2⟩
    ·rw[FY (λz=>hb (FW z))] at es;exact⟨_,rfl,es,rfl⟩
   walk_at "rd";refine⟨_,Ik hkv4 hv,_,i1,_,rfl,Dq (λh1=>?_) (λh1=>?_)⟩
   ·have h1:=FV h1
    refine⟨_,Ad (j:=1) hxe4 rfl,_,rfl,Dq (λh2=>?_) (λh2=>?_)⟩
    ·have h2:=FV h2
     rw[FZ (fe.mpr ⟨h2,h1⟩)] at es;exact⟨by decide,λp2 hp2=>told _ p2 es hp2⟩
    ·exact⟨_,i2,_,i3,_,rfl,_,rfl,AU λc=>h2 (FW c.1)⟩
   ·exact⟨_,i2,_,i3,_,rfl,_,rfl,AU λc=>h1 (FW c.2)⟩
  ·obtain⟨o5,rfl,hf,rfl⟩:=h;have ef:Lp S plan w=none:=hf;rw[ef] at st;exact⟨_,_,_,_,rfl,st,s2.trans s24⟩
 ·obtain⟨o2,o3,o4,o5,rfl,hn,s2⟩:=h;rw[Zzz] at hn;walk_at "rd";refine⟨by decide,λt ht=>?_⟩;have u3:=A4 (o:=.tup [.str "good"]) ht;refine k t ys _ (AA.free (s1.trans s2) ht) sb ?_ ((s1.trans s2).trans u3);have:Zr S plan ys=none:=hn;rw[this];exact A0
inductive DL (vs:List V) (H:Hp) (Q:VK) (E:XK):Prop | mk (v:V) (a:Addr) (S:Sh) (plan:Str->List Int) (w:Wr) (sz:Int) (_:vs=[v,.ref a,.str w.name]) (_:RD H S.d v) (_:AQ H a S plan) (_:w∈S.wares) (_:AF sz S) (_:0<sz) (_:sz<=1000) (_:(∀i,i<AB S->w.floor<=(Ar S plan w).getD i 0)) (_:(∀i,i<AB S->0<(plan w.name).getD i 0->(Ar S plan w).getD i 0 - w.gives<w.floor)) (_:∀H',AA H H'->Q (.bl true) H')
inductive A31 (v:V) (a:Addr) (w:Wr) (x:V) (q:Addr) (H:Hp) (i:Nat) (Z:St) (H':Hp):Prop | mk (o5:Option V) (_:Z=[some v,some (.ref a),some (.str w.name),some x,some (.ref q),o5]) (_:H'=H)
theorem X2(F:Fun K "_law_least" "_law_least" Pi f fd)(T:Txt mg)(Ztt:Has P w K mg base "_law_ware" 1 ["_law_shop_here", "_law_name"] BF)(Ztp:Has P w K mg base "_law_stocks" 4 ["_law_shop_here", "_law_plan", "_law_name"] BH):B2 P w K mg base CX0 5 f fd ["_law_shop_here", "_law_plan", "_law_name"] DL:=by
 refine F.go ["_law_shop_here", "_law_plan", "_law_name", "_law_ware_here", "_law_left", "_law_day"] ?_ ?_ ?_;walk_at "f";obtain⟨v,a,S,plan,w,sz,rfl,rs,pl,hw,g,z0,z1,hfl,hle,k⟩:=h;have hu:=Au hr;refine⟨_,(A2 (Af (i:=3) Nd rfl (Zzt rfl) (A7 Ztt hr.z rfl (A3 (pv 0) (A3 (pv 2) A1))))
 (A2 (Af (i:=4) Nd rfl (Zzt rfl) (A7 Ztp hr.z rfl (A3 (pv 0) (A3 (pv 1) (A3 (pv 2) A1)))))
 (A2 (Bk PassesOwn.never rfl (Cl rfl T.Zth (A3 (Ai Bs rfl T.Zts Ct (A3 (pv 4) A1)) A1)) (Ac (i:=5) Nd rfl (Zzt rfl))
 (A2 (Ay (Ah (Eh hu) (A8 hu (pv 4) (pv 5) (λ_ _=>rfl)) (A8 hu (pv 3) A6 (λ_ _=>rfl)) (Aj _)) (Aa (Ae Ft)) Ak)
 (Aa (Ay (PW.pt (J7 (Ah S9 (A8 hu (A8 hu (pv 1) (pv 2) (λ_ _=>rfl)) (pv 5) (λ_ _=>rfl)) A6 (Aj _)) (He (Ah gq (At S7 (A8 hu (pv 4) (pv 5) (λ_ _=>rfl)) (A8 hu (pv 3) A6 (λ_ _=>rfl))) (A8 hu (pv 3) A6 (λ_ _=>rfl)) (Aj _))))) (Aa (Ae Ft)) Ak))))
 (Aa (Ae Ft))))),?_⟩
 walk_at "rd";obtain⟨n1,n2,n3,n4⟩:=g.days z0 z1;obtain⟨kvs,hkv,hpl⟩:=id pl;obtain⟨l,hv,hll,hlen,hbd⟩:=hpl w.name (Zzv.mpr ⟨w,hw,rfl⟩);have slen:(Ar S plan w).length=AB S:=by unfold Ar;rw[Al]
 refine⟨v,S,w,sz,rfl,rs,g,hw,λx3 H3 rx3 sm3=>?_⟩;refine⟨v,a,S,plan,w,sz,rfl,RD.same sm3 _ _ rs,pl.same sm3,hw,g,z0,z1,λq4 H4 hq4 hq5 sm4=>?_⟩;obtain⟨xe,c1,c2,rfl,hxe,_⟩:=Bt rx3;have s04:=sm3.trans sm4;have hxe4:=sm4 _ _ hxe;have hl4:=s04 _ _ hll;have hkv4:=hkv.same s04;refine⟨q4,rfl,_,.inl hq5,by rw[Zzz,slen];lia,by rw[Zzz,slen];lia,?_⟩;rw[Zzz,slen,show ((AB S:Nat):Int).toNat=AB S by lia];refine Cp (J4 0 _) (A31 v a w (.ref xe) q4 H4) ⟨_,rfl,rfl⟩ (λ_ _ _ _ _=>trivial) (λj y Z H5 hj hy h=>?_) (λZ H5 h=>?_)
 ·obtain⟨o5,rfl,rfl⟩:=h;subst hy;have e0:(0+(j:Int))=((j:Nat):Int):=by lia
  rw[e0];have ep:(plan w.name)[j]?=some ((plan w.name).getD j 0):=by rw[Zzp,Zzr (by lia)];rfl
  have es2:(Ar S plan w)[j]?=some ((Ar S plan w).getD j 0):=by rw[Zzp,Zzr (by lia)];rfl
  have i1:Jp H5 (.ref l) (.int j) (.int ((plan w.name).getD j 0)):=Bq hl4 (by rw[Zzy,ep];rfl);have i2:Jp H5 (.ref q4) (.int j) (.int ((Ar S plan w).getD j 0)):=Bq hq5 (by rw[Zzy,es2];rfl);have h1:=hfl j hj;have h2:=hle j hj;generalize (Ar S plan w).getD j 0=sv at *;generalize (plan w.name).getD j 0=pv at *;walk_at "rd";refine⟨_,i2,_,Ad (j:=3) hxe4 rfl,_,rfl,_,rfl,?_⟩;rw[FY (by rw[decide_eq_true_eq];lia)];refine⟨_,Ik hkv4 hv,_,i1,_,rfl,Dq (λc=>?_) (λc=>⟨_,rfl,rfl⟩)⟩;have h3:=h2 (FV c);refine⟨_,i2,_,Ad (j:=2) hxe4 rfl,_,rfl,_,rfl,_,Ad (j:=3) hxe4 rfl,_,rfl,?_⟩;rw[FY (by rw[decide_eq_true_eq];lia)];exact⟨_,rfl,rfl⟩
 ·obtain⟨o5,rfl,rfl⟩:=h;walk_at "rd";exact k _ s04
end
set_option maxHeartbeats 4000000
section
variable {dk:Dk}
theorem iu(L:Lev S){w:Wr}(hw:w∈S.wares)(hi:i<AB S):Gv S (LR S) w i=(Ap (AB S) (Cg w)).getD i 0+w.gives*Gq w.floor w.gives (Ap (AB S) (Cg w)) (Az S (LR S) w.name) i - (Az S (LR S) w.name).getD i 0:=by
 unfold Gv;rw[Bn hi];have e1:(LR S w.name).getD i 0=Gq w.floor w.gives (Ap (AB S) (Cg w)) (Az S (LR S) w.name) i:=by rw[Tj L hw,Jk hi]
 have e2:(Az S (LR S) w.name).getD i 0=Bj S (LR S) w.name i:=by unfold Az;rw[Bn hi]
 rw[e1,e2]
theorem Km(L:Lev S)(E:Lx S){w:Wr}(hw:w∈S.wares)(hi:i<AB S):w.floor<=(Ar S (LR S) w).getD i 0:=by
 have h:=Oy (Gv S (LR S) w) (λj hj=>iu L hw hj) (i+1) hi;have h2:=Tg (f:=w.floor) (xs:=Ap (AB S) (Cg w)) (ys:=Az S (LR S) w.name) (show 0<w.gives by have:=(E.wb w hw).1.1;lia) i;unfold Ar;rw[Bn hi];lia
theorem a9(L:Lev S)(E:Lx S){w:Wr}(hw:w∈S.wares)(he:C8 (LR S w.name) w.lag=none):∀n,n<=AB S->Eb S (LR S) w n=none
 |0,_=>rfl
 |n+1,h=>by
  rw[Eb,a9 L E hw he n (by lia)];show (if C8 (LR S w.name) w.lag=some n then some (("early" : Str),n) else if (Ar S (LR S) w).getD n 0<w.floor then some (("below" : Str),n) else none)=none;have h1:=Km L E hw (i:=n) (by lia);rw[he,FY (λz=>by cases z),FY (by lia)]
theorem uj(L:Lev S)(E:Lx S)(hy:∀y∈ys,∃w∈S.wares,w.name=y)(he:∀w∈S.wares,C8 (LR S w.name) w.lag=none):∀n,n<=ys.length->Qa S (LR S) ys n=none
 |0,_=>rfl
 |n+1,h=>by
  have e:ys[n]?=some ys[n]:=Zzr (by lia);obtain⟨w,hw,ew⟩:=hy ys[n] (Zwc _);rw[<- ew] at e;rw[Vb L.nd (uj L E hy he n (by lia)) e hw];have:=a9 L E hw (he w hw) (AB S) (Zzq _);unfold Lp;rw[this];rfl
theorem Kl(L:Lev S)(E:Lx S){w:Wr}(hw:w∈S.wares)(hi:i<AB S)(hp:0<(LR S w.name).getD i 0):(Ar S (LR S) w).getD i 0 - w.gives<w.floor:=by
 have h:=Oy (Gv S (LR S) w) (λj hj=>iu L hw hj) (i+1) hi;rw[Tj L hw,Jk hi] at hp;have h2:=aj (show 0<w.gives by have:=(E.wb w hw).1.1;lia) hp;unfold Ar;rw[Bn hi];lia
noncomputable def G2(xs:List Int)(d:Nat):Int:=upS (λi=>xs.getD i 0) d
theorem Ld{f g:Nat->Int}:∀d,(∀i,i<d->f i=g i)->upS f d=upS g d
 |0,_=>rfl
 |d+1,h=>by show upS f d+f d=upS g d+g d;rw[Ld d λi hi=>h i (by lia),h d (by lia)]
theorem W6{f:Nat->Int}:∀d,(∀i,i<d->0<=f i)->0<=upS f d
 |0,_=>Zz9 _
 |d+1,h=>by
  show 0<=upS f d+f d;have:=W6 d λi hi=>h i (by lia);have:=h d (by lia);lia
theorem Ki{f:Nat->Int}:∀d,(∀i,i<d->f i=0)->upS f d=0
 |0,_=>rfl
 |d+1,h=>by show upS f d+f d=0;rw[Ki d λi hi=>h i (by lia),h d (by lia)];rfl
theorem Qd(f g:Nat->Int):∀d,upS (λi=>f i+g i) d=upS f d+upS g d
 |0=>rfl
 |d+1=>by show upS (λi=>f i+g i) d+(f d+g d)=upS f d+f d+(upS g d+g d);rw[Qd f g d];lia
theorem Qc(c:Int)(f:Nat->Int):∀d,upS (λi=>c*f i) d=c*upS f d
 |0=>by show (0:Int)=c*0;lia
 |d+1=>by show upS (λi=>c*f i) d+c*f d=c*(upS f d+f d);rw[Qc c f d,Int.mul_add]
theorem Uc(f:Nat->Int)(k:Nat):∀d,upS (λi=>f (i+k)) d=upS f (d+k) - upS f k
 |0=>by show (0:Int)=upS f (0+k) - upS f k;rw[Zug];lia
 |d+1=>by
  show upS (λi=>f (i+k)) d+f (d+k)=upS f (d+1+k) - upS f k;rw[Uc f k d,show d+1+k=(d+k)+1 by lia];show _=upS f (d+k)+f (d+k) - upS f k;lia
theorem Yr{α:Type}(f g:α->Int):∀l:List α,Ba (λx=>f x+g x) l=Ba f l+Ba g l
 |[]=>rfl
 |x::r=>by rw[Ch,Ch,Ch,Yr f g r];lia
theorem Jc{α:Type}{f g:α->Int}:∀{l:List α},(∀x∈l,f x<=g x)->Ba f l<=Ba g l
 |[],_=>Zz9 _
 |x::r,h=>by
  rw[Ch,Ch];have:=h x Zzm;have:=Jc λy hy=>h y (Zzl _ hy);lia
theorem Kj{α:Type}(F:Nat->α->Int)(l:List α):∀d,upS (λi=>Ba (F i) l) d=Ba (λx=>upS (λi=>F i x) d) l
 |0=>(Ev λ_ _=>rfl).symm
 |d+1=>by
  show upS (λi=>Ba (F i) l) d+Ba (F d) l=_;rw[Kj F l d,<- Yr];rfl
theorem A1m(row:List Int)(lag:Int)(d:Nat):bAt row lag d=row.getD (d+lag.toNat) 0:=by
 unfold bAt;split
 ·rfl
 ·rw[Zzp,Zyt (by lia)];rfl
theorem Vp(row:List Int)(lag:Int)(d:Nat):upS (bAt row lag) d=G2 row (d+lag.toNat) - G2 row lag.toNat:=by
 unfold G2;rw[<- Uc (λi=>row.getD i 0)];exact Ld d λi _=>A1m row lag i
theorem lm(plan:Str->List Int)(nm:Str)(w:Wr)(d:Nat):upS (λi=>pAt plan nm i w) d=Ba (λp:Str×Int=>if p.1=nm then p.2*upS (bAt (plan w.name) w.lag) d else 0) w.parts:=by
 unfold pAt;rw[Kj];refine Fv λp _=>?_;by_cases e:p.1=nm
 ·rw[FZ e,<- Qc];exact Ld d λi _=>by rw[FZ e]
 ·rw[FY e];exact Ki d λi _=>by rw[FY e]
theorem Ny(S:Sh)(plan:Str->List Int)(nm:Str)(d:Nat):upS (Bj S plan nm) d=upS (λi=>Ba (wAt nm i) S.wants) d+Ba (λw:Wr=>Ba (λp:Str×Int=>if p.1=nm then p.2*upS (bAt (plan w.name) w.lag) d else 0) w.parts) S.wares:=by
 have:Bj S plan nm=λi=>Ba (wAt nm i) S.wants+Ba (pAt plan nm i) S.wares:=rfl;rw[this,Qd,Kj (λi w=>pAt plan nm i w)];congr 1;exact Fv λw _=>lm plan nm w d
theorem k8(E:Lx S)(h:∀t∈S.wares,∀p∈t.parts,p.1=nm->∀d,upS (bAt (plan t.name) t.lag) d<=upS (bAt (plan' t.name) t.lag) d)(d:Nat):upS (Bj S plan nm) d<=upS (Bj S plan' nm) d:=by
 rw[Ny,Ny];have:Ba (λw:Wr=>Ba (λp:Str×Int=>if p.1=nm then p.2*upS (bAt (plan w.name) w.lag) d else 0) w.parts) S.wares<=Ba (λw:Wr=>Ba (λp:Str×Int=>if p.1=nm then p.2*upS (bAt (plan' w.name) w.lag) d else 0) w.parts) S.wares:=by
  refine Jc λw hw=>Jc λp hp=>?_;by_cases e:p.1=nm
  ·rw[FZ e,FZ e];exact Zws (h w hw p hp e d) (by have:=((E.wb w hw).2.2.2.2 p hp).1;lia)
  ·rw[FY e,FY e];exact Zz9 _
 lia
theorem Lf(S:Sh)(plan:Str->List Int)(w:Wr)(d:Nat):upS (Gv S plan w) d=upS (Cg w) d+w.gives*G2 (plan w.name) d - upS (Bj S plan w.name) d:=by
 have e:Gv S plan w=λi=>Cg w i+(w.gives*(plan w.name).getD i 0+(-1)*Bj S plan w.name i):=by
  funext i;unfold Gv;lia
 rw[e,Qd,Qd (λi=>w.gives*(plan w.name).getD i 0),Qc,Qc];unfold G2;lia
theorem T8{xs:List Int}(h:xs.length<=n):∀k,G2 xs (n+k)=G2 xs n
 |0=>rfl
 |k+1=>by
  show G2 xs (n+k)+xs.getD (n+k) 0=G2 xs n;rw[T8 h k,Zzp,Zyt (by lia)];show G2 xs n+0=_;lia
structure A0f(S:Sh)(plan:Str->List Int):Prop where
 len:∀w∈S.wares,(plan w.name).length=AB S
 nn:∀w∈S.wares,∀i,0<=(plan w.name).getD i 0
 early:∀w∈S.wares,∀i:Nat,(i:Int)<w.lag->(plan w.name).getD i 0=0
 floor:∀w∈S.wares,∀i,i<AB S->w.floor<=upS (Gv S plan w) (i+1)
theorem km(L:Lev S)(E:Lx S)(hk:A0f S plan):∀n:Nat,∀w∈S.wares,lv S w.name<=n->∀d,G2 (LR S w.name) d<=G2 (plan w.name) d:=by
 intro n;induction n using Nat.strongRecOn with
 |_ n ih =>
 intro w hw hl;have nd:∀d,upS (Bj S (LR S) w.name) d<=upS (Bj S plan w.name) d:=k8 E λt ht p hp e d=>by
  have h1:=Ln L ht hp;rw[e] at h1;have h0:=Ss S t.name;have q:=ih (lv S t.name).toNat (by lia) t ht (by lia);rw[Vp,Vp];have z1:G2 (plan t.name) t.lag.toNat=0:=Ki _ λi hi=>hk.early t ht i (by lia);have z2:0<=G2 (LR S t.name) t.lag.toNat:=W6 _ λi _=>(Nt (B:=10^600) (by decide) (λx hx=>⟨(Kd E _ x hx).1,Int.le_of_lt (Kd E _ x hx).2⟩) i).1;have z3:=q t.lag.toNat;have z4:=q (d+t.lag.toNat);lia
 have gp:0<w.gives:=by have:=(E.wb w hw).1.1;lia
 have low:∀d,d<=AB S->G2 (LR S w.name) d<=G2 (plan w.name) d:=by
  intro d;induction d with
  |zero=>exact λ_=>Zz9 _
  |succ d ihd =>
   intro hd;have q:=ihd (by lia);have z:=hk.nn w hw d;by_cases hp:0<(LR S w.name).getD d 0
   ·have h1:=Kl L E hw (i:=d) (by lia) hp
    unfold Ar at h1;rw[Bn (by lia),Lf] at h1;have h2:=hk.floor w hw d (by lia);rw[Lf] at h2;have h3:=nd (d+1);have h4:w.gives*G2 (LR S w.name) (d+1)<w.gives*(G2 (plan w.name) (d+1)+1):=by rw[Int.mul_add];lia
    have h5:=Int.lt_of_mul_lt_mul_left h4 (by lia);lia
   ·show G2 (LR S w.name) d+(LR S w.name).getD d 0<=G2 (plan w.name) d+(plan w.name).getD d 0
    lia
 intro d;by_cases hd:d<=AB S
 ·exact low d hd
 ·have e:d=AB S+(d - AB S):=by lia
  rw[e,T8 (by rw[Eu L hw];exact Zzq _),T8 (by rw[hk.len w hw];exact Zzq _)];exact low _ (Zzq _)
theorem Zo(L:Lev S)(E:Lx S)(hk:A0f S plan){w:Wr}(hw:w∈S.wares):C8 (LR S w.name) w.lag=none:=by
 cases e:C8 (LR S w.name) w.lag with
 |none=>rfl
 |some d =>
  have h:=Ey (show Cr (LR S w.name) w.lag (LR S w.name).length=some d from e);have q:=km L E hk (lv S w.name).toNat w hw (by have:=Ss S w.name;lia) (d+1);have z1:G2 (plan w.name) (d+1)=0:=Ki _ λi hi=>hk.early w hw i (by lia);have z2:0<=G2 (LR S w.name) d:=W6 _ λi _=>(Nt (B:=10^600) (by decide) (λx hx=>⟨(Kd E _ x hx).1,Int.le_of_lt (Kd E _ x hx).2⟩) i).1;have z3:G2 (LR S w.name) (d+1)=G2 (LR S w.name) d+(LR S w.name).getD d 0:=rfl;lia
end
set_option maxHeartbeats 4000000
noncomputable def AH(w:Wr):R3:=("ware",w.name,[.inl w.lag,.inl w.gives,.inl w.floor,.inl w.stock])
def La(n:Str)(c:Int×Int):R3:=("coming",n,[.inl c.1,.inl c.2])
def Ic(n:Str)(p:Str×Int):R3:=("part",n,[.inr p.1,.inl p.2])
def BC(u:Wt):R3:=("want",u.1,[.inl u.2.1,.inl u.2.2])
def txv(r:R3):V:=.str (Lu (r3 r))
def Gz(w:Wr):List (List R3):=[w.coming.map (La w.name),w.parts.map (Ic w.name)]
theorem Tn:(Str.ofString " ")=one 32:=by decide +kernel
theorem Li{r:R3}(h:Iq (r3 r)):∀y∈r.1::(r3 r).2.map AG,y.length<=60:=Lc h (P:=λw=>w.length<=60) (Ip h).2.1 λk hk=>(Nz (h.cells k hk)).2
theorem Ot{i:Int}(h:Mh (.inl i)):i.natAbs<10^577:=by
 have h:0<=i/\i<10^60:=h;have:i.natAbs<10^60:=by lia
 exact Zup this (by decide +kernel)
theorem Wb(sd:SD S){w:Wr}(hw:w∈S.wares):Iq (r3 (AH w))/\(∀c∈w.coming,Iq (r3 (La w.name c)))/\∀p∈w.parts,Iq (r3 (Ic w.name p)):=by
 have wb:=sd.wb w hw;have nm:Mh (.inr w.name):=sd.nm w hw;have big:(10:Int)^42<10^60:=by decide +kernel
 have big2:(10:Int)^41<10^60:=by decide +kernel
 refine⟨⟨by show (_,_)∈Im;unfold Im;simp[r3,AH,Hc],λk hk=>?_⟩,λc hc=>⟨by show (_,_)∈Im;unfold Im;simp[r3,La,Hc],λk hk=>?_⟩,λp hp=>⟨by show (_,_)∈Im;unfold Im;simp[r3,Ic,Hc],λk hk=>?_⟩⟩
 ·simp only[r3,AH,Zzs,Zzk,or_false] at hk;obtain⟨h1,h2,h3,h4,_⟩:=wb;rcases hk with rfl | rfl | rfl | rfl | rfl
  ·exact nm
  ·exact⟨h1.1,by lia⟩
  ·exact⟨by lia,by lia⟩
  ·exact⟨h3.1,by lia⟩
  ·exact⟨h4.1,by lia⟩
 ·simp only[r3,La,Zzs,Zzk,or_false] at hk;have h:=wb.2.2.2.2.2.2.2.2 c hc;rcases hk with rfl | rfl | rfl
  ·exact nm
  ·exact⟨h.1.1,by lia⟩
  ·exact⟨h.2.1,by lia⟩
 ·simp only[r3,Ic,Zzs,Zzk,or_false] at hk;have h:=wb.2.2.2.2.2.1 p hp;rcases hk with rfl | rfl | rfl
  ·exact nm
  ·obtain⟨w',hw',e⟩:=Zzv.mp (sd.own w hw p hp);have:Bp w'.name=true:=sd.nm w' hw';rw[e] at this;exact this
  ·exact⟨by lia,by lia⟩
theorem dz(sd:SD S){u:Wt}(hu:u∈S.wants):Iq (r3 (BC u)):=by
 have h:=sd.us u hu;have big2:(10:Int)^41<10^60:=by decide +kernel
 refine⟨by show (_,_)∈Im;unfold Im;simp[r3,BC,Hc],λk hk=>?_⟩;simp only[r3,BC,Zzs,Zzk,or_false] at hk;rcases hk with rfl | rfl | rfl
 ·obtain⟨w',hw',e⟩:=Zzv.mp h.1;have:Bp w'.name=true:=sd.nm w' hw';rw[e] at this;exact this
 ·exact⟨h.2.1.1,by lia⟩
 ·exact⟨h.2.2.1,by lia⟩
noncomputable def Da(S:Sh):List R3:=(S.wares.flatMap Gz).flatten++S.wants.map BC
def Rs(S:Sh)(rs:List R3):Prop:=rs=S.wares.map AH++Da S\/rs=Da S++S.wares.map AH
theorem bf{rs:List R3}(h:Rs S rs){φ:R3->Bool}(o:(S.wares.map AH).filter φ=[]\/(Da S).filter φ=[]):rs.filter φ=(S.wares.map AH).filter φ++(Da S).filter φ:=by
 rcases h with rfl | rfl<;>rw[Zyx]
 rcases o with z | z<;>rw[z,Zxk,Zz6]
theorem Gs{α:Type}{φ:R3->Bool}{f:α->R3}{xs:List α}(h:∀x∈xs,φ (f x)=false):(xs.map f).filter φ=[]:=by
 rw[Zvw];intro r hr;obtain⟨x,hx,rfl⟩:=Zzv.mp hr;rw[h x hx];exact Zz8
theorem Qt{α:Type}{φ:R3->Bool}{f:α->R3}{xs:List α}(h:∀x∈xs,φ (f x)=true):(xs.map f).filter φ=xs.map f:=by
 rw[List.filter_eq_self];intro r hr;obtain⟨x,hx,rfl⟩:=Zzv.mp hr;exact h x hx
theorem Sy{φ:R3->Bool}{w:Wr}(h1:∀c,φ (La w.name c)=false)(h2:∀p,φ (Ic w.name p)=false):∀g∈Gz w,g.filter φ=[]:=λg hg=>by
 unfold Gz at hg;rcases Zzs.mp hg with z | z
 ·rw[z];exact Gs λc _=>h1 c
 ·rw[Zzc.mp z];exact Gs λc _=>h2 c
theorem Oq{φ:R3->Bool}{gs:List (List R3)}(h:∀g∈gs,g.filter φ=[]):gs.flatten.filter φ=[]:=by
 rw[Zvw];intro r hr;obtain⟨g,hg,hr⟩:=List.mem_flatten.mp hr;exact Zvw.mp (h g hg) r hr
def yy(s:Str):Prop:=s = "coming" \/ s = "part"
theorem Lk{s n m:Str}(h:m≠n):F0 s n (x,m,ks)=false:=by
 unfold F0;rw[FX h,Bool.and_false]
theorem Lj{s n m:Str}(h:x≠s):F0 s n (x,m,ks)=false:=by
 unfold F0;rw[FX h,Bool.false_and]
theorem V2{s n:Str}:F0 s n (s,n,ks)=true:=by
 unfold F0;rw[FW rfl,FW rfl];rfl
theorem A25{s n:Str}(h:yy s)(w:Wr):F0 s n (AH w)=false:=Lj (by rcases h with rfl | rfl<;>decide +kernel)
theorem A26{s n:Str}(h:yy s)(u:Wt):F0 s n (BC u)=false:=Lj (by rcases h with rfl | rfl<;>decide +kernel)
theorem d8{s n:Str}(h:∀w∈ws,w.name≠n):∀g∈ws.flatMap Gz,g.filter (F0 s n)=[]:=λg hg=>by
 obtain⟨w,hw,hg⟩:=List.mem_flatMap.mp hg;exact Sy (λc=>Lk (h w hw)) (λp=>Lk (h w hw)) g hg
theorem Vj{s:Str}(hs:yy s){w:Wr}:∀{ws:List Wr},(ws.map (·.name)).Nodup->w∈ws->(ws.flatMap Gz).flatten.filter (F0 s w.name)=(Gz w).flatten.filter (F0 s w.name)
 |[],_,h=>nomatch h
 |v::r,nd,h=>by
  have nd:=Zyj.mp (show (v.name::r.map (·.name)).Nodup from nd);rw[List.flatMap_cons,Zw8,Zyx];rcases Zzs.mp h with z | z
  ·subst z;rw[Oq (gs:=r.flatMap Gz) (d8 λw' hw' e=>nd.1 (by rw[<- e];exact Zzv.mpr ⟨w',hw',rfl⟩)),Zz6]
  ·have ne:v.name≠w.name:=λe=>nd.1 (by rw[e];exact Zzv.mpr ⟨w,z,rfl⟩)
   rw[Oq (gs:=Gz v) (Sy (λc=>Lk ne) (λp=>Lk ne)),Zxk,Vj hs nd.2 z]
theorem za(w:Wr):(Gz w).flatten.filter (F0 "coming" w.name)=w.coming.map (La w.name):=by
 unfold Gz;rw[Zxv,Zxv,Zuu,Zz6,Zyx,Qt (f:=La w.name) (λc _=>V2),Gs (f:=Ic w.name) (λp _=>Lj (by decide +kernel)),Zz6]
theorem uz(w:Wr):(Gz w).flatten.filter (F0 "part" w.name)=w.parts.map (Ic w.name):=by
 unfold Gz;rw[Zxv,Zxv,Zuu,Zz6,Zyx,Qt (f:=Ic w.name) (λc _=>V2),Gs (f:=La w.name) (λp _=>Lj (by decide +kernel)),Zxk]
theorem vc{s:Str}(h1:s ≠ "coming")(h2:s ≠ "part")(ws:List Wr):∀g∈ws.flatMap Gz,g.filter (isS s)=[]:=λg hg=>by
 obtain⟨w,hw,hg⟩:=List.mem_flatMap.mp hg;exact Sy (λc=>FX (Zzi h1)) (λp=>FX (Zzi h2)) g hg
theorem A0h(sd:SD S){rs:List R3}(h:Rs S rs):wrD rs=S.d:=by
 have f:=λ{s:Str} (h1:s ≠ "coming") (h2:s ≠ "part")=>Oq (vc h1 h2 S.wares);have ow:(Da S).filter (isS "ware")=[]:=by
  unfold Da;rw[Zyx,f (by decide +kernel) (by decide +kernel),Gs λu _=>FX (show ("want" : Str) ≠ "ware" by decide +kernel)];rfl
 have aw:(S.wares.map AH).filter (isS "want")=[]:=Gs λu _=>FX (show ("ware" : Str) ≠ "want" by decide +kernel);have ew:rs.filter (isS "ware")=S.wares.map AH:=by rw[bf h (.inr ow),ow,Zz6,Qt λw _=>FW rfl]
 have eu:rs.filter (isS "want")=S.wants.map BC:=by
  rw[bf h (.inl aw),aw,Zxk];unfold Da;rw[Zyx,f (by decide +kernel) (by decide +kernel),Zxk,Qt λw _=>FW rfl]
 have ep:∀{s:Str},yy s->∀w∈S.wares,rs.filter (F0 s w.name)=(Gz w).flatten.filter (F0 s w.name):=λhs w hw=>by
  have z:(S.wares.map AH).filter (F0 _ w.name)=[]:=Gs λw _=>A25 hs w;rw[bf h (.inl z),z,Zxk];unfold Da;rw[Zyx,Vj hs sd.nd hw,Gs λu _=>A26 hs u,Zz6]
 unfold wrD Sh.d;rw[ew,eu,Zz1,Zz1];have e1:S.wares.map (Kh rs∘AH)=S.wares.map Wr.d:=by
  refine Zxo λw hw=>?_;show Kh rs (AH w)=w.d;unfold Kh;have n:(AH w).2.1=w.name:=rfl;rw[n,ep (.inl rfl) w hw,ep (.inr rfl) w hw,za,uz,Zz1,Zz1];rfl
 rw[e1];rfl
theorem qg(sd:SD S){rs:List R3}(h:Rs S rs){r:R3}(hr:r∈rs):Iq (r3 r)/\r.2.1∈S.wares.map (·.name):=by
 have own:∀{w:Wr},w∈S.wares->w.name∈S.wares.map (·.name):=λhw=>Zzv.mpr ⟨_,hw,rfl⟩;have hr:r∈S.wares.map AH\/r∈Da S:=by
  rcases h with rfl | rfl
  ·exact Zz4.mp hr
  ·exact(Zz4.mp hr).symm
 rcases hr with h | h
 ·obtain⟨w,hw,rfl⟩:=Zzv.mp h;exact⟨(Wb sd hw).1,own hw⟩
 rcases Zz4.mp h with h | h
 ·obtain⟨g,hg,hr⟩:=List.mem_flatten.mp h;obtain⟨w,hw,hg⟩:=List.mem_flatMap.mp hg;obtain⟨_,okc,okp⟩:=Wb sd hw;unfold Gz at hg;rcases Zzs.mp hg with z | z
  ·rw[z] at hr;obtain⟨c,hc,rfl⟩:=Zzv.mp hr;exact⟨okc c hc,own hw⟩
  ·rw[Zzc.mp z] at hr;obtain⟨c,hc,rfl⟩:=Zzv.mp hr;exact⟨okp c hc,own hw⟩
 ·obtain⟨u,hu,rfl⟩:=Zzv.mp h;exact⟨dz sd hu,(sd.us u hu).1⟩
theorem Os(sd:SD S):∀{ws:List Wr},(∀w∈ws,w∈S.wares)->(ws.flatMap Gz).flatten.length<=18*ws.length
 |[],_=>Zzq _
 |w::r,h=>by
  have ih:=Os sd (ws:=r) λx hx=>h x (Zzl _ hx);obtain⟨_,_,_,_,h5,_,_,h8,_⟩:=sd.wb w (h w Zzm);rw[List.flatMap_cons,Zw8,Zyv,Zys];have:(Gz w).flatten.length=w.coming.length+w.parts.length:=by
   unfold Gz;simp only[Zxv,Zuu,Zz6,Zyv,Zzz]
  lia
theorem V1(sd:SD S){rs:List R3}(h:Rs S rs):O6 rs S:=by
 have hn:=sd.n;have hu:=sd.un;have l2:=Os sd (ws:=S.wares) λ_ h=>h;have hl:S.wares.length<=rs.length/\rs.length<=400:=by
  unfold Rs Da at h;rcases h with rfl | rfl<;>simp only[Zyv,Zzz]<;>lia
 refine⟨λz=>?_,hl.2,λr hr=>(qg sd h hr).1,A0h sd h,sd,λr hr=>(qg sd h hr).2⟩;rw[z] at hl;have:S.wares.length<=0:=hl.1;lia
set_option maxHeartbeats 4000000
section
variable {dk:Dk}
structure BI(p q:Addr)(H0 H:Hp)(rs ts:List R3):Prop where
 hp:H p=some (.lst (rs.map txv))
 hq:H q=some (.lst (ts.map txv))
 ne:p≠q
 np:H0 p=none
 nq:H0 q=none
 s:AA H0 H
theorem BI.same{q:Addr}{H0:Hp}{rs ts:List R3}(h:BI p q H0 H rs ts)(s:AA H H'):BI p q H0 H' rs ts:=⟨s _ _ h.hp,s _ _ h.hq,h.ne,h.np,h.nq,h.s.trans s⟩
theorem BI.put{q:Addr}{H0:Hp}{rs ts:List R3}(h:BI p q H0 H rs ts)(x:R3):BI p q H0 (upd H p (.lst (rs.map txv++[txv x]))) (rs++[x]) ts :=
 ⟨by rw[Zzo];exact A0,by rw[Ab (Zzi h.ne)];exact h.hq,h.ne,h.np,h.nq,λa u e=>by rw[Ab (A5 e h.np)];exact h.s a u e⟩
theorem BI.ext{q:Addr}{H0:Hp}{rs ts:List R3}(h:BI p q H0 H rs ts)(xs:List R3):BI p q H0 (upd H q (.lst (ts.map txv++xs.map txv))) rs (ts++xs) :=
 ⟨by rw[Ab h.ne];exact h.hp,by rw[Zzo];exact A0,h.ne,h.np,h.nq,λa u e=>by rw[Ab (A5 e h.nq)];exact h.s a u e⟩
theorem gt7{i1 i2 i3 i4 i5 i6 i7:Nat}{x1 x2 x3 x4 x5 x6 x7:V}{Q:St->Hp->Prop}(e:H p=some (.tup [x1,x2,x3,x4,x5,x6,x7]))(h:Q (((((((Z.set i1 (some x1)).set i2 (some x2)).set i3 (some x3)).set i4 (some x4)).set i5 (some x5)).set i6 (some x6)).set i7 (some x7)) H) :
  Zy K 7 (Ea (Cv i1) (Ea (Cv i2) (Ea (Cv i3) (Ea (Cv i4) (Ea (Cv i5) (Ea (Cv i6) (Ea (Cv i7) CZ))))))) (.ref p) Z H Q:=⟨p,_,rfl,SqT.of e,rfl,_,_,rfl,_,_,rfl,_,_,rfl,_,_,rfl,_,_,rfl,_,_,rfl,_,_,rfl,rfl,h⟩
inductive A32 (v:V) (S:Sh) (p q:Addr) (H:Hp) (i:Nat) (Z:St) (H':Hp):Prop | mk (o3 o4 o5 o6 o7 o8 o9:Option V) (_:Z=[some v,some (.ref p),some (.ref q),o3,o4,o5,o6,o7,o8,o9]) (_:BI p q H H' ((S.wares.take i).map AH) ((S.wares.take i).flatMap Gz).flatten)
theorem Vk(sd:SD S)(i:Nat):((S.wares.take i).flatMap Gz).flatten.length<=216:=by
 have:=Os sd (ws:=S.wares.take i) λw hw=>Zuh hw;have hn:=sd.n;rw[Zz7] at this;lia
inductive DM (vs:List V) (H:Hp) (Q:VK) (E:XK):Prop | mk (v:V) (S:Sh) (_:vs=[v]) (_:RD H S.d v) (_:SD S) (_:∀(t p q:Addr) H',H' t=some (.tup [.ref p,.ref q])->H' p=some (.lst ((S.wares.map AH).map txv))->H' q=some (.lst ((Da S).map txv))->AA H H'->Q (.ref t) H')
theorem X0(F:Fun K "_law_lines" "_law_lines" Ph f fd)(T:Txt mg):B2 P w K mg base CX0 1 f fd ["_law_shop_here"] DM:=by
 refine F.go ["_law_shop_here", "_law_first", "_law_others", "_law_name", "_law_lag", "_law_gives", "_law_floor", "_law_stock", "_law_coming", "_law_parts"] ?_ ?_ ?_;walk_at "f";obtain⟨v,S,rfl,rS,sd,k⟩:=h;have hu:=Au hr;refine⟨_,(A2 (Af (i:=1) Nd rfl (Zzt rfl) (Bh A1))
 (A2 (Af (i:=2) Nd rfl (Zzt rfl) (Bh A1))
 (A2 (Bk PassesOwn.never rfl (Ca (A8 hu (pv 0) A6 (λ_ _=>rfl))) (Do (n:=7) rfl (An (Ac (i:=3) Nd rfl (Zwd rfl)) (An (Ac (i:=4) Nd rfl (Zzt rfl)) (An (Ac (i:=5) Nd rfl (Zzt rfl)) (An (Ac (i:=6) Nd rfl (Zzt rfl)) (An (Ac (i:=7) Nd rfl (Zzt rfl)) (An (Ac (i:=8) Nd rfl (Zzt rfl)) (An (Ac (i:=9) Nd rfl (Zzt rfl)) Cj))))))))
 (A2 (C5 (Cf Zz5 Zyn Zym Ck (pv 1) (A3 (Cf Zyr Zxx Zxw Hg Am (A3 (Bh (A3 Am (A3 (pv 3) (A3 (As D8 rfl T.Zte Dz (A3 (pv 4) A1)) (A3 (As D8 rfl T.Zte Dz (A3 (pv 5) A1)) (A3 (As D8 rfl T.Zte Dz (A3 (pv 6) A1)) (A3 (As D8 rfl T.Zte Dz (A3 (pv 7) A1)) A1))))))) A1)) A1)))
 (A2 (C5 (Cf Zz5 Zwb Zwa Ll (pv 2) (A3 (Bc (own:=["_law_day", "_law_amount_here"]) (cap:=[3]) rfl (Br rfl) Ex (Ca (pv 8))
 (λ_ _ _ _ _ _=>⟨(Do (n:=2) rfl (An (Ac (i:=0) (FV rfl) rfl (Zzt rfl) (.inr rfl)) (An (Ac (i:=1) (FV rfl) rfl (Zzt rfl) (.inr rfl)) Cj))),Bb,(Cf Zyr Zxx Zxw Hg Am (A3 (Bh (A3 Am (A3 (pv 2) (A3 (As D8 rfl T.Zte Dz (A3 (pv 0) A1)) (A3 (As D8 rfl T.Zte Dz (A3 (pv 1) A1)) A1))))) A1))⟩)) A1)))
 (Aa (C5 (Cf Zz5 Zwb Zwa Ll (pv 2) (A3 (Bc (own:=["_law_part", "_law_amount_here"]) (cap:=[3]) rfl (Br rfl) Ex (Ca (pv 9))
 (λ_ _ _ _ _ _=>⟨(Do (n:=2) rfl (An (Ac (i:=0) (FV rfl) rfl (Zzt rfl) (.inr rfl)) (An (Ac (i:=1) (FV rfl) rfl (Zzt rfl) (.inr rfl)) Cj))),Bb,(Cf Zyr Zxx Zxw Hg Am (A3 (Bh (A3 Am (A3 (pv 2) (A3 (pv 0) (A3 (As D8 rfl T.Zte Dz (A3 (pv 1) A1)) A1))))) A1))⟩)) A1)))))))
 (A2 (C5 (Cf Zz5 Zwb Zwa Ll (pv 2) (A3 (Bc (own:=["_law_name", "_law_day", "_law_amount_here"]) (cap:=[]) rfl (Br rfl) Vf (Ca (A8 hu (pv 0) A6 (λ_ _=>rfl)))
 (λ_ _ _ _ _ _=>⟨(Do (n:=3) rfl (An (Ac (i:=0) (FV rfl) rfl (Zzt rfl) (.inr rfl)) (An (Ac (i:=1) (FV rfl) rfl (Zzt rfl) (.inr rfl)) (An (Ac (i:=2) (FV rfl) rfl (Zzt rfl) (.inr rfl)) Cj)))),Bb,(Cf Zyr Zxx Zxw Hg Am (A3 (Bh (A3 Am (A3 (pv 0) (A3 (As D8 rfl T.Zte Dz (A3 (pv 1) A1)) (A3 (As D8 rfl T.Zte Dz (A3 (pv 2) A1)) A1))))) A1))⟩)) A1)))
 (Aa (Ae (Cz (A3 (pv 1) (A3 (pv 2) A1))))))))),?_⟩
 walk_at "rd";obtain⟨a,b,c,ws,us,rfl,ha,hb,hc,rw3,ru3⟩:=Cb rS;have hwl:=Aw rw3;have hul:=Aw ru3;have hn:=sd.n;refine⟨by decide,λp hp=>⟨by decide,λq hq=>?_⟩⟩;have u1:=A4 (o:=.lst []) hp;have u2:=A4 (o:=.lst []) hq;have u:=u1.trans u2;have pq:p≠q:=λz=>by rw[<- z,A0] at hq;cases hq
 have nq:H q=none:=by rw[Ab (Zzi pq)] at hq;exact hq
 refine⟨_,Ad (j:=0) (u _ _ ha) rfl,b,rfl,ws,u _ _ hb,Cp (D1 b _) (A32 (.ref a) S p q H) ⟨_,_,_,_,_,_,_,rfl,⟨u2 _ _ A0,A0,pq,hp,nq,u⟩⟩ (λi Z H' _ h=>by obtain⟨_,_,_,_,_,_,_,_,o⟩:=h;exact o.s _ _ hb) (λi x Z H4 hi hx h=>?_) (λZ H4 h=>?_)⟩
 ·obtain⟨o3,o4,o5,o6,o7,o8,o9,rfl,tw⟩:=h;obtain⟨w',ew,rw'⟩:=Ax rw3 hx;obtain⟨aw,cv,pv,rfl,haw,rc,rp'⟩:=Bt rw';have hw':=Zzu ew;obtain⟨okw,okc,okp⟩:=Wb sd hw';have et:S.wares.take (i+1)=S.wares.take i++[w']:=by rw[Zzb,ew];rfl
  have pl:=Vk sd i;have c12:=(sd.wb w' hw').2.2.2.2.2.2.2.1;have p6:=(sd.wb w' hw').2.2.2.2.1;obtain⟨ca,cvs,rfl,hca,rcs⟩:=RD.tup_of rc;obtain⟨pa,pvs,rfl,hpa,rps⟩:=RD.tup_of rp';have hcl:=Aw rcs;have hpl:=Aw rps;refine gt7 (tw.s _ _ haw) ?_;refine A1k (λZ' H'=>Z'=[some (.ref a),some (.ref p),some (.ref q),some (.str w'.name),some (.int w'.lag),some (.int w'.gives),some (.int w'.floor),some (.int w'.stock),some (.ref ca),some (.ref pa)]/\BI p q H H' ((S.wares.take (i+1)).map AH) ((S.wares.take i).flatMap Gz).flatten) (λZ' H5 hM=>?_) (λKK hK=>?_);rotate_left
  ·walk_at "rd";have cs:∀z:Int,.inl z∈(r3 (AH w')).2->z.natAbs<10^577:=λz hz=>Ot (okw.cells _ hz);refine⟨Ds tw.hp,rfl,cs _ (by simp[r3,AH]),cs _ (by simp[r3,AH]),cs _ (by simp[r3,AH]),cs _ (by simp[r3,AH]),by decide,λq4 hq4=>⟨(AH w').1::(r3 (AH w')).2.map AG,A0,60,Li okw,by show 6*60+6*1<=16777216;decide,?_⟩⟩;have tw4:=tw.same (A4 (o:=.lst (((AH w').1::(r3 (AH w')).2.map AG).map V.str)) hq4);refine⟨_,tw4.hp,Zz3 (m:=1000) (by simp only[Zzz,Zz7];lia) (Ag (Zzq _)),hK _ _ ⟨rfl,?_⟩⟩;rw[Tn,et,Zzo];exact tw4.put (AH w')
  obtain⟨rfl,tw5⟩:=hM;refine A1k (λZ' H'=>Z'=[some (.ref a),some (.ref p),some (.ref q),some (.str w'.name),some (.int w'.lag),some (.int w'.gives),some (.int w'.floor),some (.int w'.stock),some (.ref ca),some (.ref pa)]/\BI p q H H' ((S.wares.take (i+1)).map AH) (((S.wares.take i).flatMap Gz).flatten++w'.coming.map (La w'.name))) (λZ' H6 hM=>?_) (λKK hK=>?_);rotate_left
  ·walk_at "r0";have hca5:=tw5.s _ _ hca;refine⟨Ds tw5.hq,cvs,hca5,?_⟩;refine Bg (D1 ca _) (Ag (by lia)) (λH' s'=>s' _ _ hca5) ((w'.coming.map (La w'.name)).map txv) (by rw[Zzz,Zzz,hcl]) (λj y H' hj hy s' N M hN=>?_) (λH6 s6 q3 hq3=>?_)
   ·obtain⟨cc,ec,rcc⟩:=Ax rcs hy;obtain⟨cca,rfl,hcca⟩:=Te rcc;refine gt2 (s' _ _ (tw5.s _ _ hcca)) ?_;walk_at "rd";have ok:=okc cc (Zzu ec);refine⟨rfl,Ot (ok.cells (.inl cc.1) (by simp[r3,La])),Ot (ok.cells (.inl cc.2) (by simp[r3,La])),by decide,λq4 hq4=>⟨(La w'.name cc).1::(r3 (La w'.name cc)).2.map AG,A0,60,Li ok,by show 4*60+4*1<=16777216;decide,hN _ _ (s'.trans (A4 hq4)) ?_⟩⟩;rw[Zzy,Zzy,ec,Tn];rfl
   ·have v3:=A4 (o:=.lst ((w'.coming.map (La w'.name)).map txv)) hq3
    exact⟨q3,rfl,_,v3 _ _ (s6 _ _ tw5.hq),_,A0,Ag (by simp only[Zzz];lia),hK _ _ ⟨rfl,((tw5.same s6).same v3).ext (w'.coming.map (La w'.name))⟩⟩
  obtain⟨rfl,tw6⟩:=hM;walk_at "r0";have hpa6:=tw6.s _ _ hpa;refine⟨Ds tw6.hq,pvs,hpa6,?_⟩;refine Bg (D1 pa _) (Ag (by lia)) (λH' s'=>s' _ _ hpa6) ((w'.parts.map (Ic w'.name)).map txv) (by rw[Zzz,Zzz,hpl]) (λj y H' hj hy s' N M hN=>?_) (λH7 s7 q3 hq3=>?_)
  ·obtain⟨cc,ec,rcc⟩:=Ax rps hy;obtain⟨cca,rfl,hcca⟩:=Iv rcc;refine gt2 (s' _ _ (tw6.s _ _ hcca)) ?_;walk_at "rd";have ok:=okp cc (Zzu ec);refine⟨rfl,Ot (ok.cells (.inl cc.2) (by simp[r3,Ic])),by decide,λq4 hq4=>⟨(Ic w'.name cc).1::(r3 (Ic w'.name cc)).2.map AG,A0,60,Li ok,by show 4*60+4*1<=16777216;decide,hN _ _ (s'.trans (A4 hq4)) ?_⟩⟩;rw[Zzy,Zzy,ec,Tn];rfl
  ·have v3:=A4 (o:=.lst ((w'.parts.map (Ic w'.name)).map txv)) hq3
   have ef:((S.wares.take (i+1)).flatMap Gz).flatten=(((S.wares.take i).flatMap Gz).flatten++w'.coming.map (La w'.name))++w'.parts.map (Ic w'.name):=by
    rw[et,List.flatMap_append,Zw8,Zwk];unfold Gz;simp only[List.flatMap_cons,List.flatMap_nil,Zxv,Zuu,Zz6]
   exact⟨q3,rfl,_,v3 _ _ (s7 _ _ tw6.hq),_,A0,Ag (by simp only[Zzz,Zyv];lia),_,_,_,_,_,_,_,rfl,ef▸((tw6.same s7).same v3).ext (w'.parts.map (Ic w'.name))⟩
 ·obtain⟨o3,o4,o5,o6,o7,o8,o9,rfl,tw⟩:=h;walk_at "r0";rw[show S.wares.take ws.length=S.wares by rw[hwl,Zzf]] at tw;have u20:=sd.un;have pl:=Vk sd S.wares.length;rw[Zzf] at pl;refine⟨Ds tw.hq,_,Ad (j:=1) (tw.s _ _ ha) rfl,c,rfl,us,tw.s _ _ hc,?_⟩;refine Bg (D1 c _) (Ag (by lia)) (λH' s'=>s' _ _ (tw.s _ _ hc)) ((S.wants.map BC).map txv) (by rw[Zzz,Zzz,hul]) (λj y H' hj hy s' N M hN=>?_) (λH7 s7 q3 hq3=>?_)
  ·obtain⟨cc,ec,rcc⟩:=Ax ru3 hy;obtain⟨cca,rfl,hcca⟩:=G3 rcc;refine gt3 (s' _ _ (tw.s _ _ hcca)) ?_;walk_at "rd";have ok:=dz sd (Zzu ec);refine⟨rfl,Ot (ok.cells (.inl cc.2.1) (by simp[r3,BC])),Ot (ok.cells (.inl cc.2.2) (by simp[r3,BC])),by decide,λq4 hq4=>⟨(BC cc).1::(r3 (BC cc)).2.map AG,A0,60,Li ok,by show 4*60+4*1<=16777216;decide,hN _ _ (s'.trans (A4 hq4)) ?_⟩⟩;rw[Zzy,Zzy,ec,Tn];rfl
  ·have v3:=A4 (o:=.lst ((S.wants.map BC).map txv)) hq3
   have tw8:=((tw.same s7).same v3).ext (S.wants.map BC);refine⟨q3,rfl,_,v3 _ _ (s7 _ _ tw.hq),_,A0,Ag (by simp only[Zzz];lia),by decide,λt ht=>?_⟩;have v9:=A4 (o:=.tup [.ref p,.ref q]) ht;have tw9:=tw8.same v9;exact k t p q _ A0 tw9.hp tw9.hq tw9.s
end
set_option maxHeartbeats 4000000
section
variable {dk:Dk}
abbrev E9(n:Int):Str:=Str.ofString (toString n)
def wg:Key->Prop
 |.inl i=>0<=i/\i<10^577
 |.inr x=>x.length<=1200
theorem nab{n:Int}{B:Nat}(h0:0<=n)(h1:n<(B:Int)):n.natAbs<B:=by lia
theorem Ol{n:Int}(h:0<=n/\n<10^577):n.natAbs<10^577:=nab h.1 (by exact_mod_cast h.2)
theorem J9{n:Int}(h:0<=n/\n<10^577):(∀c∈(E9 n).cps.toList,48<=c/\c<=57)/\Zv8 (E9 n)=some n/\1<=(E9 n).length/\(E9 n).length<=577:=ik (k:=576) (by decide) h.1 h.2
theorem Rj{k:Key}(h:wg k):(AG k).length<=1200:=by
 cases k with
 |inl n=>exact Zzd (J9 h).2.2.2 (by decide)
 |inr x=>exact h
inductive BQ (vs:List V) (H:Hp) (Q:VK) (E:XK):Prop | mk (a:Addr) (ks:List Key) (_:vs=[.ref a]) (_:H a=some (.lst (ks.map kV))) (_:ks.length<=1000) (_:(∀k∈ks,wg k)) (_:∀H',AA H H'->Q (.str (Str.join (one 32) (ks.map AG))) H')
theorem Sb(F:Fun K "shown_words" "shown_words" M3 f fd)(T:Txt mg):B2 P w K mg base CX0 1 f fd ["words"] BQ:=by
 refine F.go ["words"] ?_ ?_ ?_;walk_at "f";obtain⟨a,ks,rfl,ha,hl,ok,k⟩:=h;have hu:=Au hr;refine⟨_,(Aa (Ae (Cf Zyr Zxx Zxw Hg Am (A3 (Bc (own:=["word"]) (cap:=[]) rfl (Br rfl) (Aq (by decide)) (Cq (pv 0))
 (λ_ _ _ _ _ _=>⟨(Ac (i:=0) (FV rfl) rfl (Zzt rfl) (.inr rfl)),Bb,(As Vt rfl T.Zte Dz (A3 (pv 0) A1))⟩)) A1)))),?_⟩
 walk_at "rd";refine⟨rfl,_,ha,?_⟩;refine Bg (Dw a _) (Ag (by rw[Zzz];exact hl)) (λH' s'=>s' _ _ ha) ((ks.map AG).map V.str) (by simp) (λi x H' hi hx s' N M hN=>?_) (λH' s' p hp=>?_)
 ·rw[Zzy] at hx;cases e:ks[i]? with
  |none=>rw[e] at hx;cases hx
  |some kk =>
  rw[e] at hx;have hx:kV kk=x:=Zzh hx;subst hx;walk_at "rd";have hN:=hN (.str (AG kk)) H' s' (by rw[Zzy,Zzy,e];rfl);have okk:=ok _ (Zzu e);cases kk with
  |inl n=>exact .inl ⟨n,rfl,Ol okk,hN⟩
  |inr x=>exact .inr ⟨x,rfl,hN⟩
 ·refine⟨p,rfl,_,A0,1200,λy hy=>?_,?_,?_⟩
  ·obtain⟨kk,hk,rfl⟩:=Zzv.mp hy;exact Rj (ok kk hk)
  ·rw[Tn,Zzz];show _*1200+_*1<=_;lia
  ·rw[Tn];exact k _ (s'.trans (A4 hp))
noncomputable def Xq(d:Nat)(n:Int):Str:=Str.join (one 58) [E9 d,E9 n]
noncomputable def J5(row:List Int):Nat->List Str
 |0=>[]
 |i+1=>J5 row i++if 0<row.getD i 0 then [Xq i (row.getD i 0)] else []
theorem Lq(row:List Int):∀i,(J5 row i).length<=i
 |0=>Zzq _
 |i+1=>by
  rw[J5,Zyv];have:=Lq row i;split<;>simp<;>lia
def P0(row:List Int):Prop:=row.length<=30/\∀i,0<=row.getD i 0/\row.getD i 0<10^577
theorem A1i(d:Nat)(n:Int):Str.empty++E9 d ++ ":" ++ E9 n=Xq d n:=by
 rw[Str.empty_append];rfl
theorem L8{d:Nat}(h:d<=30):0<=(d:Int)/\(d:Int)<10^577:=⟨Int.natCast_nonneg d,Zxs (b:=30) (by lia) (by decide +kernel)⟩
theorem Xp{d:Nat}{n:Int}(hd:d<=30)(h:0<=n/\n<10^577):(Xq d n).length<=1200:=by
 have h1:=(J9 (L8 hd)).2.2.2;have h2:=(J9 h).2.2.2;show (E9 d++one 58++E9 n).length<=1200;rw[strLen_append,strLen_append];have:(one 58).length=1:=rfl;lia
inductive DN (vs:List V) (H:Hp) (Q:VK) (E:XK):Prop | mk (a:Addr) (row:List Int) (_:vs=[.ref a]) (_:H a=some (.lst (row.map V.int))) (_:P0 row) (_:∀p H',H p=none->H' p=some (.lst ((J5 row row.length).map V.str))->AA H H'->Q (.ref p) H')
theorem X6(F:Fun K "days_with" "days_with" Pm f fd)(T:Txt mg):B2 P w K mg base CX0 1 f fd ["row"] DN:=by
 refine F.go ["row"] ?_ ?_ ?_;walk_at "f";obtain⟨a,row,rfl,ha,hrow,k⟩:=h;have hu:=Au hr;refine⟨_,(Aa (Ae (Bc (own:=["day", "amount"]) (cap:=[]) rfl (Br rfl) Ex (gj rfl T.Zr5 (A3 (pv 0) A1))
 (λ_ _ _ _ _ _=>⟨(Do (n:=2) rfl (An (Ac (i:=0) (FV rfl) rfl (Zzt rfl) (.inr rfl)) (An (Ac (i:=1) (FV rfl) rfl (Zzt rfl) (.inr rfl)) Cj))),(G4 (Ah S9 (pv 1) A6 (Aj _))),(A0z (gk (pv 0) (xy (gk (pv 1) xx))))⟩)))),?_⟩
 walk_at "rd";have hl:=hrow.1;refine⟨_,ha,?_⟩;refine vp (A08 a _) (Ag (by rw[Zzz];lia)) (λi acc H'=>acc=(J5 row i).map V.str/\AA H H') ⟨rfl,AA.refl _⟩ (λi acc H' _ h=>h.2 _ _ ha) (λi acc H' h=>by rw[h.1,Zzz];exact Lq row i) (λi us p acc H' hi hy h hp=>?_) (λacc H' h p hp=>?_)
 ·obtain⟨rfl,s'⟩:=h;obtain⟨y,ey,rfl⟩:=hy;rw[Jv ey];rw[Zzz] at hi;refine gT2 ?_;have s2:=s'.trans (A4 (o:=.tup [.int i,.int (row.getD i 0)]) hp);generalize upd H' p (.tup [.int i,.int (row.getD i 0)])=H2 at s2;walk_at "rd";have hn:=hrow.2 i;refine Dq (λc=>?_) (λc=>?_)
  ·have c:=FV c
   have hi30:i<=30:=by lia
   have l1:(Str.ofString (toString (i:Int))).length<=577:=(J9 (L8 hi30)).2.2.2;have l3:=Xp hi30 hn;rw[A1i,Str.empty_append,strLen_append];refine⟨Ol (L8 hi30),by lia,by show _+1<=_;lia,Ol hn,by lia,by lia,?_,s2⟩;rw[J5,FZ c,Zzo];rfl
  ·have c:¬ 0<row.getD i 0:=λz=>c (FW z)
   exact⟨by rw[J5,FY c,Zz6],s2⟩
 ·obtain⟨rfl,s'⟩:=h;rw[Zzz] at *;exact k p _ (AA.free s' hp) A0 (s'.trans (A4 hp))
end
set_option maxHeartbeats 4000000
section
variable {dk:Dk}
def Eg(S:Sh)(nm:Str):List Str:=J5 (LR S nm) (LR S nm).length
noncomputable def Ei(S:Sh)(nm:Str):Bool:=!(Eg S nm).isEmpty
def Kz(S:Sh)(nm:Str):Str:=Str.join (one 32) (nm::Eg S nm)
def C3(S:Sh)(ys:List Str):List Str:=(ys.filter (Ei S)).map (Kz S)
noncomputable def bd(S:Sh)(w:Wr)(d:Nat):Str:=Str.join (one 32) ["short",w.name,E9 d,E9 ((LR S w.name).getD d 0)]
inductive Ti (S:Sh) (y:Str):Prop | mk (ys:List Str) (i:Nat) (_:Jo (lv S) (Be S) ys) (_:(∀w∈S.wares,w.name∈ys.take i->C8 (LR S w.name) w.lag=none)) (_:((i=ys.length/\y=Str.join (one 10) (C3 S ys))\/∃(w:Wr) (d:Nat),w∈S.wares/\ys[i]?=some w.name/\C8 (LR S w.name) w.lag=some d/\y=bd S w d))
theorem Lb{sz:Int}(g:AF sz S)(z0:0<sz)(z1:sz<=30){w:Wr}(hw:w∈S.wares):P0 (LR S w.name):=by
 refine⟨?_,λi=>?_⟩
 ·rw[Eu (Db g).toLev hw];unfold AB;have:=Xi (ns:=S.wants.map λu=>u.2.1) z0 λx hx=>by obtain⟨u,hu,rfl⟩:=Zzv.mp hx;exact(g.wants.2 u hu).2.1.2
  lia
 rw[Zzp];cases e:(LR S w.name)[i]? with
 |none=>exact⟨Zz9 _,by decide +kernel⟩
 |some x =>
  have h1:=Y4 (Ee g) S.wares.length w.name x (Zzu e);have h2:(10:Nat)^(45*S.wares.length)<10^577:=Nat.pow_lt_pow_right (by decide) (by have:=g.len.2;lia);have h3:(10:Int)^(45*S.wares.length)<10^577:=by exact_mod_cast h2
  exact⟨h1.1,Zxs h1.2 h3⟩
theorem Jw(h:P0 row):∀i,i<=row.length->∀x∈J5 row i,∃(d:Nat) (n:Int),d<=30/\(0<=n/\n<10^577)/\x=Xq d n
 |0,_,x,hx=>by cases hx
 |i+1,hi,x,hx=>by
  rw[J5] at hx;rcases Zz4.mp hx with z | z
  ·exact Jw h i (by lia) x z
  ·have:=h.1
   split at z
   ·exact⟨i,_,by lia,h.2 i,Zzc.mp z⟩
   ·cases z
theorem Vn(h:P0 row)(hx:x∈J5 row row.length):x.length<=1200:=by
 obtain⟨d,n,h1,h2,rfl⟩:=Jw h _ (Zzq _) x hx;exact Xp h1 h2
theorem Kx(h:Bp x=true):x.length<=8:=by
 unfold Bp at h;simp only[Zyy,decide_eq_true_eq] at h;exact h.1.2
theorem Nn{sz:Int}(g:AF sz S)(z0:0<sz)(z1:sz<=30){w:Wr}(hw:w∈S.wares):(Kz S w.name).length<=40000:=by
 have r:=Lb g z0 z1 hw;have h1:=Lq (LR S w.name) (LR S w.name).length;have h2:=r.1;have:=Ij (sep:=one 32) (B:=1200) (xs:=w.name::Eg S w.name) λy hy=>by
  rcases Zzs.mp hy with rfl | hy
  ·exact Zzd (Kx (g.ws.txt w hw).1) (by decide)
  ·exact Vn r hy
 rw[Zys,show (one 32).length=1 from rfl] at this;have h3:(Eg S w.name).length<=30:=Zzd h1 h2;show (Str.join (one 32) (w.name::Eg S w.name)).length<=40000;lia
noncomputable def Gw(S:Sh)(w:Wr)(d:Nat):List Key:=[.inr "short",.inr w.name,.inl d,.inl ((LR S w.name).getD d 0)]
theorem Rk{sz:Int}(g:AF sz S)(z0:0<sz)(z1:sz<=30){w:Wr}(hw:w∈S.wares){d:Nat}(hed:C8 (LR S w.name) w.lag=some d):∀k∈Gw S w d,wg k:=λk hk=>by
 have r:=Lb g z0 z1 hw;have h1:=(Ey (show Cr (LR S w.name) w.lag (LR S w.name).length=some d from hed)).1;have h2:=r.1;simp only[Gw,Zzs,Zzk,or_false] at hk;rcases hk with rfl | rfl | rfl | rfl
 ·show _<=1200
  decide
 ·exact Zzd (Kx (g.ws.txt w hw).1) (by decide)
 ·exact L8 (by lia)
 ·exact r.2 d
inductive A2w (v:V) (t q:Addr) (S:Sh) (ys:List Str) (H:Hp) (i:Nat) (Z:St) (H':Hp):Prop | mk (o3 o4:Option V) (_:Z=[some v,some (.ref t),some (.ref q),o3,o4]) (_:H' q=some (.lst ((C3 S (ys.take i)).map V.str))) (_:∀b o,b≠q->H b=some o->H' b=some o)
inductive M0 (Pt:Addr) (vs:List V) (H:Hp) (Q:VK) (E:XK):Prop | mk (v:V) (S:Sh) (sz:Int) (_:vs=[v]) (_:RD H S.d v) (_:AF sz S) (_:0<sz) (_:sz<=30) (_:Tb H Pt) (_:∀y H',Ti S y->Tb H' Pt->But Pt H H'->Q (.str y) H')
theorem Tq(F:Fun K "shown_plan" "shown_plan" Mq f fd)(T:Txt mg)(Ztl:Has P w K mg base "planned" 7 ["shop"] (Ia Pt))(Ztg:Has P w K mg base "shown_words" 1 ["words"] BQ)(Zt2:Has P w K mg base "worked" 6 ["shop"] (Lg Pt))(Zrj:Has P w K mg base "days_with" 1 ["row"] DN):B2 P w K mg base CX0 8 f fd ["shop"] (M0 Pt):=by
 refine F.go ["shop", "found", "rows", "name", "days"] ?_ ?_ ?_;walk_at "f";obtain⟨v,S,sz,rfl,rs,g,z0,z1,tb,k⟩:=h;have hu:=Au hr;refine⟨_,(A2 (Af (i:=1) Nd rfl (Zzt rfl) (A7 Ztl hr.z rfl (A3 (pv 0) A1)))
 (A2 (Ay (Ah (Bl hu) (A8 hu (pv 1) A6 (λ_ _=>rfl)) Am (Aj _)) (Aa (Ae (A7 Ztg hr.z rfl (A3 (At Ig (Bh (A3 Am A1)) (As Tc rfl T.Zqw Xv (A3 (Co fh (pv 1) (Dh A6) Di) A1))) A1)))) Ak)
 (A2 (Af (i:=2) Nd rfl (Zzt rfl) (Bh A1))
 (A2 (Bk PassesOwn.never rfl (Cq (A7 Zt2 hr.z rfl (A3 (pv 0) A1))) (Ac (i:=3) Nd rfl (Zzt rfl))
 (A2 (Af (i:=4) Nd rfl (Zzt rfl) (A7 Zrj hr.z rfl (A3 (A8 hu (A8 hu (pv 1) A6 (λ_ _=>rfl)) (pv 3) (λ_ _=>rfl)) A1)))
 (Aa (Ay (ge (pv 4)) (Aa (C5 (Cf Zz5 Zyn Zym Ck (pv 2) (A3 (A7 Ztg hr.z rfl (A3 (At Ig (Bh (A3 (pv 3) A1)) (pv 4)) A1)) A1)))) Ak))))
 (Aa (Ae (Cf Zyr Zxx Zxw Hg Am (A3 (pv 2) A1)))))))),?_⟩
 walk_at "rd";have L:=Db g;refine⟨v,S,sz,rfl,rs,g,z0,by lia,tb,λt p ys i H1 ht hp tp sb ra hne tb1 bt1 hcase=>?_⟩;rcases hcase with ⟨hi,h2⟩ | ⟨wr,d,hwr,hi,hed,h2⟩
 rotate_left
 ·refine⟨_,Ad (j:=0) h2 rfl,rfl,?_⟩;rw[FZ (by decide)];refine⟨by decide,λq hq=>⟨t,rfl,_,A4 hq _ _ h2,λq2 H2 hq2 s2 f2=>⟨_,.inr hq2,λq3 hq3=>⟨_,A4 hq3 _ _ (s2 _ _ A0),_,A0,(by show 4<=sizeLine;decide),λq4 hq4=>?_⟩⟩⟩⟩;have s12:=(A4 (o:=.lst [.str "short"]) hq).trans s2;exact⟨q4,Gw S wr d,rfl,A0,(by show 4<=1000;decide),Rk g z0 z1 hwr hed,λH5 s5=>k _ _ ⟨ys,i,sb,hne,.inr ⟨wr,d,hwr,hi,hed,rfl⟩⟩ (tb1.same (s12.trans ((A4 hq3).trans ((A4 hq4).trans s5)))) (bt1.trans (E8 (s12.trans ((A4 hq3).trans ((A4 hq4).trans s5)))))⟩
 refine⟨_,Ad (j:=0) h2 rfl,rfl,?_⟩;rw[FY (by decide)];refine⟨Zyz _,λq hq=>?_⟩;have u1:=A4 (o:=.lst []) hq;refine⟨v,S,rfl,RD.same u1 _ _ (RD.ku (Kk tb bt1) _ _ (E2 S) rs),L,tb1.same u1,λp2 ys2 H2 fp2 hp2 _ sb2 tb2 bt2=>⟨p2,rfl,_,hp2,?_⟩⟩;rw[Od sb2 sb] at hp2 ⊢;subst hi;rw[Zzf] at ra hne;obtain⟨kvs,hkv,hk,rows,ap⟩:=ra;have qPt:q≠Pt:=λz=>by obtain⟨u,e⟩:=tb1.at;rw[<- z,hq] at e;cases e
 have tPt:t≠Pt:=Ly tb1 h2 λu z=>by cases z
 have pPt:p≠Pt:=Ly tb1 hkv λu z=>by cases z
 have k12:∀b o,b≠Pt->H1 b=some o->H2 b=some o:=λb o nb e=>bt2 b o nb (u1 b o e);have q1:∀{b o},H1 b=some o->b≠q:=λe=>A5 e hq;have q2p:p2≠q:=λz=>by rw[z,A0] at fp2;cases fp2
 have mem:∀y∈ys,∃w∈S.wares,w.name=y:=λy hy=>Zzv.mp ((Ci sb).1.mem_iff.mp hy);have len:ys.length<=12:=by rw[(Ci sb).1.length_eq,Cn];exact g.len.2
 have lines:∀j,(C3 S (ys.take j)).length<=12:=λj=>by
  unfold C3;rw[Zzz];exact Zzd (Zyh _ _) (by rw[Zz7];lia)
 refine Cp (Dw p2 _) (A2w v t q S ys H2) ⟨_,_,rfl,bt2 _ _ qPt A0,λ_ _ _ e=>e⟩ (λj Z H' _ h=>by obtain⟨_,_,_,_,e⟩:=h;exact e _ _ q2p hp2) (λj x Z H3 hj hx h=>?_) (λZ H3 h=>?_)
 ·obtain⟨o3,o4,rfl,hq3,k3⟩:=h;rw[Zzy] at hx;cases en:ys[j]? with
  |none=>rw[en] at hx;cases hx
  |some nm =>
  rw[en] at hx;have hx:V.str nm=x:=Zzh hx;subst hx;have hm:=Zzu en;obtain⟨w',hw',rfl⟩:=mem nm hm;obtain⟨la,_,_,e1,e2⟩:=rows w'.name hm;have laPt:la≠Pt:=Ly tb1 e2 λu z=>by cases z
  have k13:∀b o,b≠Pt->H1 b=some o->H3 b=some o:=λb o nb e=>k3 b o (q1 e) (k12 b o nb e);have r:=Lb g z0 z1 hw';have et:ys.take (j+1)=ys.take j++[w'.name]:=by rw[Zzb,en];rfl
  have dl:(Eg S w'.name).length<=30:=Zzd (Lq _ _) r.1;walk_at "rd";refine⟨_,Ad (j:=1) (k13 _ _ tPt h2) rfl,_,Ik (.inl (k13 _ _ pPt hkv)) e1,la,LR S w'.name,rfl,k13 _ _ laPt e2,r,λp4 H4 fp4 hp4 s4=>⟨p4,rfl,_,hp4,?_⟩⟩;have q4:p4≠q:=λz=>by rw[z,hq3] at fp4;cases fp4
  have k24:∀b o,b≠q->H2 b=some o->H4 b=some o:=λb o nb e=>s4 b o (k3 b o nb e);have emp:(!((Eg S w'.name).map V.str).isEmpty)=Ei S w'.name:=by unfold Ei;cases Eg S w'.name<;>rfl
  rw[show (!(Zyo V.str (J5 (LR S w'.name) (LR S w'.name).length)).isEmpty)=Ei S w'.name from emp];refine Dq (λc=>?_) (λc=>?_)
  ·refine⟨Ds (s4 _ _ hq3),by decide,λp5 hp5=>?_⟩;have u5:=A4 (o:=.lst [.str w'.name]) hp5;refine⟨p4,rfl,_,A0,_,u5 _ _ hp4,Ag (by rw[Zzz];show 1+(Eg S w'.name).length<=1000;lia),λp6 hp6=>?_⟩;have u6:=u5.trans (A4 (o:=.lst ([.str w'.name]++(Eg S w'.name).map V.str)) hp6);refine⟨p6,.inr w'.name::(Eg S w'.name).map .inr,rfl,by rw[Zza,Zz1];exact A0,by rw[Zys,Zzz];lia,λkk hkk=>?_,λH7 s7=>?_⟩
   ·rcases Zzs.mp hkk with rfl | hkk
    ·exact Zzd (Kx (g.ws.txt w' hw').1) (by decide)
    ·obtain⟨x,hx,rfl⟩:=Zzv.mp hkk;exact Vn r hx
   have s47:=u6.trans s7;refine⟨_,s47 _ _ (s4 _ _ hq3),Zz0 (m:=12) (by rw[Zzz];exact lines j) (by decide),_,_,rfl,?_,λb o nb e=>by rw[Ab nb];exact s47 _ _ (k24 b o nb e)⟩;rw[A0,et];unfold C3;rw[Zyx,Zyk,FZ c,List.filter_nil,Zzo,Zzo,Zza,Zz1 (f:=Zy4)];show some (HO.lst (_++[V.str (Str.join (one 32) (w'.name::(Eg S w'.name).map id))]))=_;rw[List.map_id];rfl
  ·refine⟨_,_,rfl,?_,k24⟩;rw[s4 _ _ hq3,et];unfold C3;rw[Zyx,Zyk,FY c,List.filter_nil,Zz6]
 ·obtain⟨o3,o4,rfl,hq3,k3⟩:=h;rw[Zzz,Zzf] at hq3;walk_at "rd";have ll:=lines ys.length;rw[Zzf] at ll;have n10:Str.ofString "\n" = one 10:=by decide +kernel
  rw[n10];refine⟨rfl,_,hq3,40000,λy hy=>?_,?_,k _ _ ⟨ys,ys.length,sb,by rw[Zzf];exact hne,.inl ⟨rfl,rfl⟩⟩ ?_ λb o nb e=>?_⟩
  ·obtain⟨nm,hnm,rfl⟩:=Zzv.mp hy;obtain⟨w',hw',rfl⟩:=mem nm (Zyf.mp hnm).1;exact Nn g z0 z1 hw'
  ·show _*40000+_*1<=_
   lia
  ·rcases tb2 with e | ⟨c,e,e2⟩
   ·exact .inl (k3 _ _ (Zzi qPt) e)
   ·exact .inr ⟨c,k3 _ _ (Zzi qPt) e,k3 _ _ (λz=>by rw[z,bt2 _ _ qPt A0] at e2;cases e2) e2⟩
  ·have e1:=bt1 b o nb e
   exact k3 b o (q1 e1) (k12 b o nb e1)
end
set_option maxHeartbeats 4000000
section
variable {dk:Dk}
theorem ng{f g:Nat->Int}:∀d,(∀i,f i<=g i)->upS f d<=upS g d
 |0,_=>Zz9 _
 |d+1,h=>Zu7 (ng d h) (h d)
theorem A1h{u:Wt}(hu:u∈S.wants):u.2.1<((AB S:Nat):Int):=by
 unfold AB;have:=Nl (ns:=S.wants.map λu=>u.2.1) (Zzv.mpr ⟨u,hu,rfl⟩);lia
theorem sh(L:Lev S){d:Nat}(hd:AB S<=d):Bj S (LR S) nm d=0:=by
 unfold Bj;rw[Ev λu hu=>?_,Ev λt ht=>?_]
 ·rfl
 ·unfold pAt;refine Ev λp hp=>?_;rw[Jz,G1 (by rw[Eu L ht];lia)];split
  ·exact Int.mul_zero _
  ·rfl
 ·have hu1:=A1h hu
  unfold wAt;rw[FY λe=>by have:=e.2;lia]
theorem S1{us:List Wt}(L:Lev S)(E:Lx S)(E':Lx ⟨S.wares,us⟩)(h1:1<=AB S)(hw:∀nm d,upS (λi=>Ba (wAt nm i) us) d<=upS (λi=>Ba (wAt nm i) S.wants) d)(h:Cc S):Cc ⟨S.wares,us⟩:=by
 generalize eS:(⟨S.wares,us⟩:Sh)=S' at E' ⊢;have ew:S'.wares=S.wares:=by rw[<- eS]
 have L':Lev S':=Lo L ew;have nn:∀nm i,0<=(LR S nm).getD i 0:=λnm i=>(Nt (B:=10^600) (by decide) (λx hx=>⟨(Kd E _ x hx).1,Int.le_of_lt (Kd E _ x hx).2⟩) i).1;have cut:∀nm i,(Ap (AB S') λj=>(LR S nm).getD j 0).getD i 0=if i<AB S' then (LR S nm).getD i 0 else 0:=λnm i=>by
  by_cases z:i<AB S'
  ·rw[FZ z,Bn z]
  ·rw[FY z,G1 (by rw[Al];lia)]
 have low:∀nm i,(Ap (AB S') λj=>(LR S nm).getD j 0).getD i 0<=(LR S nm).getD i 0:=λnm i=>by
  rw[cut];split
  ·exact Zz9 _
  ·exact nn nm i
 refine λw hw'=>Zo L' E' (plan:=λnm=>Ap (AB S') λj=>(LR S nm).getD j 0) ⟨λw _=>Al _ _,λw hw' i=>?_,λw hw' i hi=>?_,λw hw' i hi=>?_⟩ hw'
 ·show 0<=(Ap _ _).getD i 0
  rw[cut];split
  ·exact nn _ i
  ·exact Zz9 _
 ·rw[ew] at hw';show (Ap _ _).getD i 0=0;rw[cut];split
  ·by_cases z:i<(LR S w.name).length
   ·have:=Gu (show Cr (LR S w.name) w.lag (LR S w.name).length=none from h w hw') i z
    have:=nn w.name i;lia
   ·exact G1 (by lia)
  ·rfl
 rw[ew] at hw';have fl:∀d,w.floor<=upS (Gv S (LR S) w) (d+1):=λd=>by
  induction d with
  |zero =>
   have:=Km L E hw' (i:=0) (by lia);unfold Ar at this;rwa [Bn (by lia)] at this
  |succ d ih =>
   by_cases z:d+1<AB S
   ·have:=Km L E hw' (i:=d+1) z
    unfold Ar at this;rwa [Bn z] at this
   ·refine Zxm ih ?_;show _<=upS (Gv S (LR S) w) (d+1)+Gv S (LR S) w (d+1);have:0<=Gv S (LR S) w (d+1):=by
     unfold Gv;rw[sh L (by lia),G1 (by rw[Eu L hw'];lia),Int.mul_zero];have:=Tf E hw' (d+1);lia
    lia
 refine Zxm (fl i) ?_;rw[Lf,Lf];have e1:G2 (Ap (AB S') λj=>(LR S w.name).getD j 0) (i+1)=G2 (LR S w.name) (i+1):=Ld _ λj hj=>by rw[cut,FZ (by lia)]
 have e2:upS (Bj S' (λnm=>Ap (AB S') λj=>(LR S nm).getD j 0) w.name) (i+1)<=upS (Bj S (LR S) w.name) (i+1):=by
  rw[Ny,Ny,ew,<- eS];refine Zu7 (hw _ _) (Jc λt ht=>Jc λp hp=>?_);split
  ·refine Zws (ng _ λj=>?_) (by have:=((E.wb t ht).2.2.2.2 p hp).1;lia);rw[Jz,Jz,eS];exact low _ _
  ·exact Zz9 _
 show _<=_+w.gives*G2 (Ap (AB S') λj=>(LR S w.name).getD j 0) (i+1) - _;rw[e1];lia
theorem W5(nm:Str)(u:Wt)(h0:0<=u.2.1):∀d:Nat,upS (λi=>wAt nm i u) d=if u.1=nm/\u.2.1<d then u.2.2 else 0
 |0=>by rw[FY λc=>by have:=c.2;lia];rfl
 |d+1=>by
  show upS (λi=>wAt nm i u) d+wAt nm d u=_;rw[W5 nm u h0 d];unfold wAt;by_cases e:u.1=nm
  ·by_cases a:u.2.1<d
   ·rw[FZ ⟨e,a⟩,FY λc=>by have:=c.2;lia,FZ ⟨e,by lia⟩,Zxy]
   ·by_cases b:u.2.1=d
    ·rw[FY λc=>a c.2,FZ ⟨e,b⟩,FZ ⟨e,by lia⟩,Zuk]
    ·rw[FY λc=>a c.2,FY λc=>b c.2,FY λc=>by have:=c.2;lia];rfl
  ·rw[FY λc=>e c.1,FY λc=>e c.1,FY λc=>e c.1];rfl
theorem j9{us:List Wt}(h:∀u∈us,0<=u.2.1/\0<=u.2.2){n:Int}(hn:0<=n)(nm:Str)(d:Nat):upS (λi=>Ba (wAt nm i) (us.map (Nc n))) d<=upS (λi=>Ba (wAt nm i) us) d:=by
 rw[Kj (λi u=>wAt nm i u),Kj (λi u=>wAt nm i u)];induction us with
 |nil=>exact Zz9 _
 |cons u r ih =>
  rw[Zza,Ch,Ch];refine Zu7 ?_ (ih λx hx=>h x (Zzl _ hx));obtain⟨h1,h2⟩:=h u Zzm;rw[W5 nm u h1,W5 nm (Nc n u) (by show 0<=u.2.1+n;lia)];show (if u.1=nm/\u.2.1+n<d then u.2.2 else 0)<=_;split
  ·rename_i c;rw[FZ ⟨c.1,by lia⟩];exact Zz9 _
  ·split
   ·exact h2
   ·exact Zz9 _
def ak(S:Sh)(v:V):Prop:=(Cc S->v=.int 0)/\(v=.int 0->Cc S)/\(v=.non\/∃n:Int,v=.int n/\0<=n/\n<10^577)
theorem yq{sz:Int}(g:AF sz S)(z0:0<sz)(z1:sz<=30)(h:¬ Cc (noS S)):ak S .non:=by
 refine⟨λz=>absurd ?_ h,λz=>(by cases z),.inl rfl⟩;refine S1 (us:=[]) (Db g).toLev (Ee g) (Ee g.none) (g.days z0 (by lia)).1 (λnm d=>?_) z;rw[Ki (f:=λi=>Ba (wAt nm i) []) d λ_ _=>rfl];refine W6 d λi _=>Ml λu hu=>?_;unfold wAt;split
 ·exact(g.wants.2 u hu).2.2.1
 ·exact Zz9 _
theorem ue{sz:Int}(g:AF sz S)(z0:0<sz)(z1:sz<=30){n:Int}(h:wq S n):ak S (.int n):=by
 obtain⟨n0,_,h2,h3,w,hw,h4⟩:=h;have off:∀{m:Int},0<=m->Cc S->Cc (Dg m S):=λ{m} hm z=>S1 (Db g).toLev (Ee g) (Ee (g.off hm)) (g.days z0 (by lia)).1 (j9 (λu hu=>⟨(g.wants.2 u hu).2.1.1,(g.wants.2 u hu).2.2.1⟩) hm) z;refine⟨λz=>?_,λz=>?_,.inr ⟨n,rfl,n0,?_⟩⟩
 ·rcases h3 with e | e
  ·rw[e]
  ·by_cases c:n=0
   ·rw[c]
   ·exact absurd (off (by lia) z) e
 ·obtain rfl:n=0:=by cases z;rfl
  have e:Dg 0 S=S:=by
   unfold Dg;rw[show Nc 0=id from funext λu=>by unfold Nc;rw[Zxy];rfl,List.map_id]
  rwa [e] at h2
 ·have:=ax (λw hw=>(g.ws.wb w hw).lag) S.wares.length w.name
  have l:=g.len.2;unfold tm at h4;exact Zxs (b:=360) (by lia) (by decide +kernel)
end
set_option maxHeartbeats 4000000
section
variable {dk:Dk}
inductive Qn
 |plan
 |late
 |stock (w:Wr)
def Qn.first:Qn->Str
 |.plan => "plan"
 |.late => "late"
 |.stock _ => "stock"
def Qn.keys:Qn->List Key
 |.stock w=>[.inr w.name]
 |_=>[]
def Qn.own(S:Sh):Qn->Prop
 |.stock w=>w∈S.wares
 |_=>True
def Qn.ok(S:Sh):Qn->Prop
 |.stock _=>Cc S
 |_=>True
def W8(S:Sh)(w:Wr):Str:=Str.join (one 32) ((Ar S (LR S) w).map E9)
def Qn.ans(S:Sh)(y:Str):Qn->Prop
 |.plan=>Ti S y
 |.late=>y = "0" ↔ Cc S
 |.stock w=>y=W8 S w
def Qn.text(q:Qn):Str:=Str.join (one 32) (q.first::q.keys.map AG)
theorem e8{f:Nat->Int}{c:Int}:∀d:Nat,(∀i,f i<=c)->upS f d<=d*c
 |0,_=>by rw[Int.natCast_zero,Int.zero_mul];exact Zz9 _
 |d+1,h=>by
  have:=e8 d h;have:=h d;show upS f d+f d<=_;rw[Int.natCast_succ,Int.add_mul,Int.one_mul];lia
theorem Ys{sz:Int}(g:AF sz S)(z0:0<sz)(z1:sz<=30){w:Wr}(hw:w∈S.wares):∀x∈Ar S (LR S) w,0<=x/\x<10^577:=λx hx=>by
 have L:=(Db g).toLev;have E:=Ee g;obtain⟨i,hi⟩:=Zwi hx;have il:i<AB S:=by
  have:=(Zze.mp hi).1;unfold Ar at this;rwa [Al] at this
 have e:(Ar S (LR S) w).getD i 0=x:=by rw[Zzp,hi];rfl
 have h1:=Km L E hw il;rw[e] at h1;have wb:=g.ws.wb w hw;have f0:=wb.floor.1;refine⟨by lia,?_⟩;unfold Ar at e;rw[Bn il] at e;have d30:AB S<=30:=by rw[<- Eu L hw];exact(Lb g z0 z1 hw).1
 have hB:(10:Int)^(45*S.wares.length)<=10^540:=by
  have:(10:Nat)^(45*S.wares.length)<=10^540:=Zun (by decide) (by have:=g.len.2;lia);exact_mod_cast this
 have inn:∀nm,∀x∈LR S nm,0<=x/\x<=10^540:=λnm x hx=>by
  have:=Y4 E S.wares.length nm x hx;exact⟨this.1,Zxm this.2 hB⟩
 have ch:∀j,Gv S (LR S) w j<=100+12*10^32+100*10^540:=λj=>by
  unfold Gv Cg;have n0:=(V7 E (by decide +kernel) inn w.name j).1;have c:=g.com w hw;have h2:Ba (cAt j) w.coming<=(12:Nat)*10^32:=Qf (by decide) c.1 λp hp=>by
   unfold cAt;have:=(c.2 p hp).2;split<;>lia
  have h3:w.gives*(LR S w.name).getD j 0<=100*10^540:=by
   have b:=Nt (B:=10^540) (by decide +kernel) (inn w.name) j;exact Int.mul_le_mul wb.gives.2 b.2 b.1 (by decide)
  have h4:(if j=0 then w.stock else 0)<=100:=by
   have:=wb.stock;split<;>lia
  generalize w.gives*(LR S w.name).getD j 0=a at h3;generalize (10:Int)^540=b at h3;have h2:Ba (cAt j) w.coming<=12*10^32:=h2;lia
 have:=e8 (i+1) ch;rw[e] at this;refine Zxs this (Zxs (b:=30*(100+12*10^32+100*10^540)) (Int.mul_le_mul_of_nonneg_right (by lia) (by decide +kernel)) (by decide +kernel))
inductive Rh (Pt:Addr) (vs:List V) (H:Hp) (Q:VK) (E:XK):Prop | mk (v:V) (S:Sh) (sz:Int) (_:vs=[v]) (_:RD H S.d v) (_:AF sz S) (_:0<sz) (_:sz<=1000) (_:Tb H Pt) (_:Cc S) (_:∀(p:Addr) H',AQ H' p S (LR S)->Tb H' Pt->But Pt H H'->Q (.ref p) H')
theorem bu(F:Fun K "plan_of" "plan_of" Ut f fd)(T:Txt mg)(Ztl:Has P w K mg base "planned" 7 ["shop"] (Ia Pt)):B2 P w K mg base CX0 8 f fd ["shop"] (Rh Pt):=by
 refine F.go ["shop", "found", "name"] ?_ ?_ ?_;walk_at "f";obtain⟨v,S,sz,rfl,rs,g,z0,z1,tb,ok,k⟩:=h;have hu:=Au hr;refine⟨_,(A2 (Af (i:=1) Nd rfl (Zzt rfl) (A7 Ztl hr.z rfl (A3 (pv 0) A1)))
 (A2 (Ay (Ah (Bl hu) (A8 hu (pv 1) A6 (λ_ _=>rfl)) Am (Aj _)) C0 Ak)
 (Aa (Ae (A8 hu (pv 1) A6 (λ_ _=>rfl)))))),?_⟩
 walk_at "rd";refine⟨v,S,sz,rfl,rs,g,z0,z1,tb,λt p ys i H1 ht hp tp sb ra hne tb1 bt1 hcase=>?_⟩;rcases hcase with ⟨hi,h1⟩ | ⟨wr,d,hwr,hi,hed,h1⟩
 rotate_left
 ·rw[ok wr hwr] at hed;cases hed
 refine⟨_,Ad (j:=0) h1 rfl,rfl,?_⟩;rw[FY (by decide)];obtain⟨kvs,hkv,hk,rows,_⟩:=ra;refine⟨_,Ad (j:=1) h1 rfl,k p H1 ⟨kvs,.inl hkv,λnm hn=>?_⟩ tb1 bt1⟩;obtain⟨q,_,_,e1,e2⟩:=rows nm (by rw[hi,Zzf];exact(Ci sb).1.mem_iff.mpr hn);obtain⟨wr,hwr,rfl⟩:=Zzv.mp hn;exact⟨q,e1,e2,Eu (Db g).toLev hwr,λx hx=>⟨(Kd (Ee g) _ x hx).1,Int.lt_trans (Kd (Ee g) _ x hx).2 (by decide +kernel)⟩⟩
inductive CD (vs:List V) (H:Hp) (Q:VK) (E:XK):Prop | mk (rs:List R3) (S:Sh) (_:vs=[.str (Ob rs)]) (_:O6 rs S) (_:Th S) (_:K4 S) (_:∀t H',RD H' S.d (.ref t)->AA H H'->Q (.ref t) H')
theorem Of(F:Fun K "read_ringless" "read_ringless" K6 f fd)(T:Txt mg)(Zsx:Has P w K mg base "read_shop" 9 ["text"] BZ)(Ztx:Has P w K mg base "check_rings" 4 ["shop"] AW):B2 P w K mg base CX0 10 f fd ["text"] CD:=by
 refine F.go ["text", "shop"] ?_ ?_ ?_;walk_at "f";obtain⟨rs,S,rfl,sr,so,nr,k⟩:=h;have hu:=Au hr;refine⟨_,(A2 (Af (i:=1) Nd rfl (Zzt rfl) (A7 Zsx hr.z rfl (A3 (pv 0) A1)))
 (A2 (C5 (A7 Ztx hr.z rfl (A3 (pv 1) A1)))
 (Aa (Ae (pv 1))))),?_⟩
 walk_at "rd";exact⟨rs,S,rfl,sr,λt H1 rt s1=>⟨.ref t,S,rfl,rt,so,nr,λH2 s2=>k t H2 (RD.same s2 _ _ rt) (s1.trans s2)⟩⟩
inductive CW (vs:List V) (H:Hp) (Q:VK) (E:XK):Prop | mk (v:V) (S:Sh) (q:Qn) (a:Addr) (_:vs=[v,.str q.first,.ref a]) (_:RD H S.d v) (_:Th S) (_:q.own S) (_:H a=some (.lst (q.keys.map kV))) (_:∀H',AA H H'->Q .non H')
inductive A35 (v:V) (q:Qn) (a:Addr) (H:Hp) (i:Nat) (Z:St) (H':Hp):Prop | mk (o3 o4:Option V) (_:Z=[some v,some (.str q.first),some (.ref a),o3,o4]) (_:AA H H')
theorem ql:∀q:Qn,¬ decide (q.first=Str.ofString "want")=true/\¬ decide (q.first=Str.ofString "drop")=true
 |.plan=>by decide +kernel
 |.late=>by decide +kernel
 |.stock _=>by show ¬ decide (("stock" : Str)=Str.ofString "want")=true/\¬ decide (("stock" : Str)=Str.ofString "drop")=true;decide +kernel
theorem qm(h1:Ke K l "plan" [])(h2:Ke K l "late" [])(h3:Ke K l "stock" ["name"]):∀q:Qn,∃fa,Le l q.first=.ref fa/\∀H,SqT K H fa ((q.keys.map Hc).map V.str):=λq=>by
 have fm:Ke K l q.first (q.keys.map Hc):=by
  cases q
  ·exact h1
  ·exact h2
  ·exact h3
 obtain⟨fa,tl,q1,q2,q3⟩:=fm;refine⟨fa,q1,λH=>?_⟩;rw[<- q3];refine q2.sq ?_ H;have:=congrArg Zxa q3;rw[Zzz,Zzz] at this;have:q.keys.length<=1:=by cases q<;>simp[Qn.keys]
 lia
theorem U2(F:Fun K "check_told" "check_told" N5 f fd)(T:Txt mg)(Fo:Fms w K mg)(Ztm:Has P w K mg base "ware_of" 1 ["shop", "name"] BL):B2 P w K mg base CX0 2 f fd ["shop", "first", "members"] CW:=by
 refine F.go ["shop", "first", "members", "member", "sort"] ?_ ?_ ?_;walk_at "f";obtain⟨v,S,q,a,rfl,rs,so,own,ha,k⟩:=h;have hu:=Au hr;obtain⟨F_a,F_l,F_m,F_t,f1,f2,f3⟩:=Fo;refine⟨_,(A2 (Ay (Ah Wp (pv 0) Fz (Aj _)) C0 Ak)
 (A2 (Bk PassesOwn.never rfl (gg rfl T.Zqz (A3 (pv 2) (A3 (A0w F_t (Nb (v:=.ref F_a) rfl F_m rfl) (pv 1) (λ_ _=>rfl)) A1))) (Do (n:=2) rfl (An (Ac (i:=3) Nd rfl (Zzt rfl)) (An (Ac (i:=4) Nd rfl (Zzt rfl)) Cj)))
 (A2 (Ay (Ah (Bl hu) (pv 4) Am (Aj _)) (Aa (C5 (A7 Ztm hr.z rfl (A3 (pv 0) (A3 (pv 3) A1))))) Ak)
 (A2 (Ay (PW.pt (J7 (Ah (Bl hu) (pv 4) Am (Aj _)) (He (Ah S9 (pv 3) (Ao rfl T.Zt4) (Aj _))))) C0 Ak)
 (Aa (Ay (PW.pt (J7 (Ah (Bl hu) (pv 4) Am (Aj _)) (He (Ah gq (pv 3) (Ai Bs rfl T.Zts Ct (A3 (A8 hu (pv 0) A6 (λ_ _=>rfl)) A1)) (Aj _))))) C0 Ak)))))
 (Aa (Ay (PW.pt (J7 (Ah (Bl hu) (pv 1) Am (Aj _)) (He (Ah gq (Ai Bs rfl T.Zts Ct (A3 (A8 hu (pv 0) A6 (λ_ _=>rfl)) A1)) (Ao rfl T.Zt9) (Aj _))))) C0 Ak)))),?_⟩
 walk_at "rd";obtain⟨fa,q1,q2⟩:=qm f1 f2 f3 q;have ev:v≠.non:=by
  obtain⟨_,_,_,_,_,e,_⟩:=Cb rs;rw[e];intro z;cases z
 rw[FY (λz=>ev (FV z))];refine⟨fa,q1,_,ha,_,q2 H,?_⟩;refine Zz (v4 _ a fa _ _) (A35 v q a H) ⟨_,_,rfl,AA.refl _⟩ (λi Z H' _ h=>?_) (λi ys t Z H' hi hy h ht=>?_) (λZ H' h=>?_)
 ·obtain⟨_,_,_,s'⟩:=h;exact⟨s' _ _ ha,q2 H'⟩
 ·obtain⟨o1,o2,rfl,s1⟩:=h;obtain⟨y,z,ey,ez,rfl⟩:=hy;rw[Zzy] at ey ez;rw[Zzy] at ez;cases ek:q.keys[i]? with
  |none=>rw[ek] at ey;cases ey
  |some kk =>
  rw[ek] at ey ez;obtain⟨wr,hwr,rfl⟩:∃wr∈S.wares,kk=.inr wr.name:=by
   have hm:=Zzu ek;cases q with
   |stock wr=>exact⟨wr,own,Zzc.mp hm⟩
   |_=>cases hm
  have ey:V.str wr.name=y:=Zzh ey;have ez:V.str "name" = z:=Zzh ez;subst ey ez;have s2:=s1.trans (A4 (o:=.tup [V.str wr.name,V.str "name"]) ht);refine gT2 ?_;generalize upd H' t (.tup [V.str wr.name,V.str "name"])=H2 at s2;walk_at "rd";refine⟨rfl,?_⟩;rw[FZ (by decide +kernel)];refine⟨v,S,wr.name,rfl,RD.same s2 _ _ rs,so,Zzv.mpr ⟨wr,hwr,rfl⟩,λ_ _ _ _ _=>⟨rfl,?_⟩⟩;rw[FY (by decide +kernel)];refine⟨rfl,?_⟩;rw[FY (by decide +kernel)];exact⟨_,_,rfl,s2⟩
 ·obtain⟨o1,o2,rfl,s1⟩:=h;walk_at "rd";refine⟨rfl,?_⟩;rw[FY (ql q).1];exact k H' s1
end
set_option maxHeartbeats 4000000
section
variable {dk:Dk}
theorem Y6{n:Int}(h:0<=n/\n<10^577):E9 n = "0" ↔ n=0:=by
 refine⟨λe=>?_,λe=>by rw[e];rfl⟩;have h1:=(J9 h).2.1;have h0:=(J9 (n:=0) ⟨Zz9 _,by decide +kernel⟩).2.1;rw[e] at h1;exact Zzh (h1.symm.trans h0)
inductive Uo (Pt:Addr) (vs:List V) (H:Hp) (Q:VK) (E:XK):Prop | mk (v:V) (S:Sh) (sz:Int) (q:Qn) (a:Addr) (_:vs=[v,.str q.first,.ref a]) (_:RD H S.d v) (_:AF sz S) (_:0<sz) (_:sz<=30) (_:Tb H Pt) (_:q.own S) (_:q.ok S) (_:H a=some (.lst (q.keys.map kV))) (_:∀y H',q.ans S y->Tb H' Pt->But Pt H H'->Q (.str y) H')
theorem jz(F:Fun K "answer" "answer" Yz f fd)(T:Txt mg)(Zrz:Has P w K mg base "shown_plan" 8 ["shop"] (M0 Pt))(Zqu:Has P w K mg base "late" 9 ["shop"] (ff Pt))(Ztg:Has P w K mg base "shown_words" 1 ["words"] BQ)(Zr2:Has P w K mg base "stocks" 5 ["shop", "plan", "name"] EF)(Zr7:Has P w K mg base "plan_of" 8 ["shop"] (Rh Pt)):B2 P w K mg base CX0 10 f fd ["shop", "first", "members"] (Uo Pt):=by
 refine F.go ["shop", "first", "members", "days"] ?_ ?_ ?_;walk_at "f";obtain⟨v,S,sz,q,a,rfl,rs,g,z0,z1,tb,own,ok,ha,k⟩:=h;have hu:=Au hr;refine⟨_,(A2 (Ay (Ah (Bl hu) (pv 1) Am (Aj _)) (Aa (Ae (A7 Zrz hr.z rfl (A3 (pv 0) A1)))) Ak)
 (A2 (Ay (Ah (Bl hu) (pv 1) Am (Aj _)) (A2 (Af (i:=3) Nd rfl (Zzt rfl) (A7 Zqu hr.z rfl (A3 (pv 0) A1)))
 (Aa (Ae (Z4 (Ah Wp (pv 3) Fz (Aj _)) Am (As D8 rfl T.Zte Dz (A3 (pv 3) A1)))))) Ak)
 (A2 (Ay (Ah (Bl hu) (pv 1) Am (Aj _)) C0 Ak)
 (A2 (Ay (Ah (Bl hu) (pv 1) Am (Aj _)) (Aa (Ae (A7 Ztg hr.z rfl (A3 (A7 Zr2 hr.z rfl (A3 (pv 0) (A3 (A7 Zr7 hr.z rfl (A3 (pv 0) A1)) (A3 (A8 hu (pv 2) A6 (λ_ _=>rfl)) A1)))) A1)))) Ak)
 (A2 (Ay (Ah (Bl hu) (pv 1) Am (Aj _)) C0 Ak)
 C0))))),?_⟩
 walk_at "rd";cases q with
 |plan =>
  refine⟨rfl,?_⟩;rw[FZ (by decide +kernel)];exact⟨v,S,sz,rfl,rs,g,z0,z1,tb,k⟩
 |late =>
  refine⟨rfl,?_⟩;rw[FY (by decide +kernel)];refine⟨rfl,?_⟩;rw[FZ (by decide +kernel)];refine⟨v,S,sz,rfl,rs,g,z0,by lia,tb,λH1 hno tb1 bt1=>?_,λn H1 hn tb1 bt1=>?_⟩
  ·show (if decide (V.non=V.non)=true then _ else _)
   rw[FZ (by decide)];exact k _ H1 ⟨λe=>absurd e (by decide +kernel),λz=>by cases (yq g z0 z1 hno).1 z⟩ tb1 bt1
  ·show (if decide (V.int n=V.non)=true then _ else _)
   rw[FY λz=>by cases FV z];obtain⟨l1,l2,l3⟩:=ue g z0 z1 hn;rcases l3 with e | ⟨m,e,b⟩
   ·cases e
   cases e;refine⟨n,rfl,Ol b,k _ H1 ⟨λe=>l2 ?_,λz=>?_⟩ tb1 bt1⟩
   ·rw[(Y6 b).mp e]
   ·exact(Y6 b).mpr (V.int.inj (l1 z))
 |stock wr =>
  have n:∀{x:Str},¬ ("stock" : Str)=x->¬ decide ((Qn.stock wr).first=x)=true:=λh z=>h (FV z);refine⟨rfl,?_⟩;rw[FY (n (by decide +kernel))];refine⟨rfl,?_⟩;rw[FY (n (by decide +kernel))];refine⟨rfl,?_⟩;rw[FY (n (by decide +kernel))];refine⟨rfl,?_⟩;rw[FZ (by exact FW rfl)];refine⟨v,S,sz,rfl,rs,g,z0,by lia,tb,ok,λp H1 pl tb1 bt1=>?_⟩;refine⟨_,Bq (j:=0) (bt1 _ _ (Ly tb ha λu z=>by cases z) ha) rfl,v,p,S,LR S,wr,sz,rfl,RD.ku (Kk tb bt1) _ _ (E2 S) rs,pl,own,g,z0,by lia,λp2 H2 _ hp2 s2=>?_⟩;have s577:=Ys g z0 z1 own;have d30:AB S<=30:=by rw[<- Eu (Db g).toLev own];exact(Lb g z0 z1 own).1
  refine⟨p2,(Ar S (LR S) wr).map .inl,rfl,by rw[Zz1];exact hp2,by rw[Zzz];unfold Ar;rw[Al];lia,λkk hk=>?_,λH3 s3=>k _ H3 ?_ (tb1.same (s2.trans s3)) (bt1.trans (E8 (s2.trans s3)))⟩
  ·obtain⟨x,hx,rfl⟩:=Zzv.mp hk;exact s577 x hx
  ·show _=W8 S wr
   unfold W8;rw[Zz1];rfl
def Kp(dk:Dk)(H:Hp)(x:Addr)(v:V):Prop:=∃dx,H x=some (.ins dk.C dx [("kept",v)])
inductive M2 (dk:Dk) (vs:List V) (H:Hp) (Q:VK) (E:XK):Prop | mk (x dx:Addr) (_:vs=[.ref x]) (_:H x=some (.ins dk.C dx [])) (_:Q .non (upd H x (.ins dk.C dx [("kept",.non)])))
theorem U4(F:Fun K "__init__" "Desk.__init__" Ff f fd)(T:Txt mg)(De:Dsk K mg dk):B2 P w K mg base CX0 1 f fd ["self"] (M2 dk):=by
 refine F.go ["self"] ?_ ?_ ?_;walk_at "f";obtain⟨x,dx,rfl,hx,k⟩:=h;refine⟨_,(Aa (qt (pv 0) Fz rfl)),?_⟩;walk_at "rd";exact⟨_,dx,_,hx,De.c,De.nk,by decide,k⟩
def Jq(dk:Dk)(Pt:Addr):Sp:=λvs H Q _=>(∃(x:Addr) (rs:List R3) (S:Sh),vs=[.ref x,.str ("shop\n" ++ Ob rs)]/\Kp dk H x .non/\O6 rs S/\Th S/\K4 S/\∀v H',Kp dk H' x v->RD H' S.d v->(∀b o,b≠x->H b=some o->H' b=some o)->Q (.str "ok") H')\/∃(x:Addr) (v:V) (S:Sh) (sz:Int) (q:Qn),vs=[.ref x,.str q.text]/\Kp dk H x v/\RD H S.d v/\AF sz S/\0<sz/\sz<=30/\Tb H Pt/\q.own S/\q.ok S/\∀y H',q.ans S y->Tb H' Pt->But Pt H H'->Q (.str y) H'
theorem Yt(y:Str):Txt.startswith ("shop\n" ++ y) "shop\n" = true:=by
 rw[PySem.W.KAf.starts_left (Zzq _)];decide +kernel
theorem qk:∀q:Qn,Txt.startswith q.text "shop\n" = false
 |.plan=>by decide +kernel
 |.late=>by decide +kernel
 |.stock w=>by
  show Txt.startswith ("stock" ++ one 32++w.name) "shop\n" = false;rw[PySem.W.KAf.starts_left (by decide +kernel)];decide +kernel
theorem vj(y:Str):Md ("shop\n" ++ y) (some 5) none=y:=by
 have e:(("shop\n" : Str)++y).cps.toList=("shop\n" : Str).cps.toList++y.cps.toList:=Zx8 _ _;have l:(("shop\n" : Str)++y).length=5+y.length:=strLen_append ..;unfold Md;rw[e,l];have s1:HT.sIx (5+y.length) 0 (some 5)=5:=by show min 5 _=5;lia
 rw[s1,HT.pz,show 5+y.length - 5=y.length by lia];have d:(("shop\n" : Str).cps.toList++y.cps.toList).drop 5=y.cps.toList:=rfl;rw[d,Zwq (by rw[Zxq];exact Zzq _)]
theorem xq(hn:∀w∈S.wares,Bp w.name=true):∀{q:Qn},q.own S->Txt.split q.text (one 32)=q.first::q.keys.map AG/\q.text.length<=100/\∀k∈q.keys,Mh k:=λ{q} ho=>by
 have ck:∀k∈q.keys,Mh k:=λk hk=>by
  cases q with
  |stock w=>rw[Zzc.mp hk];exact hn w ho
  |_=>cases hk
 refine⟨Fw (by decide) (by simp) λx hx=>?_,?_,ck⟩
 ·rcases Zzs.mp hx with rfl | hx
  ·cases q<;>simp only[Qn.first]<;>decide +kernel
  ·obtain⟨k,hk,rfl⟩:=Zzv.mp hx;exact(Nz (ck k hk)).1.1
 ·cases q with
  |stock w =>
   show ("stock" ++ one 32++w.name).length<=100;have:=Kx (hn w ho);rw[strLen_append];show 6+_<=_;lia
  |_=>decide +kernel
theorem Xb(F:Fun K "tell" "Desk.tell" Gn f fd)(T:Txt mg)(Fo:Fms w K mg)(De:Dsk K mg dk)(Zsp:Has P w K mg base "read_ringless" 10 ["text"] CD)(Zt7:Has P w K mg base "read_words" 3 ["words", "form"] (J6 K))(Zry:Has P w K mg base "check_told" 2 ["shop", "first", "members"] CW)(Zr1:Has P w K mg base "answer" 10 ["shop", "first", "members"] (Uo Pt)):B2 P w K mg base CX0 11 f fd ["self", "text"] (Jq dk Pt):=by
 refine F.go ["self", "text", "words", "members"] ?_ ?_ ?_;walk_at "f";have hu:=Au hr;obtain⟨F_a,F_l,F_m,F_t,f1,f2,f3⟩:=Fo;refine⟨_,(A2 (Ay (C6 (C9 (Ai Dr rfl T.Zti Cw (A3 (pv 1) (A3 (Iu (v:=.ty "str") rfl T.Zte Dz rfl) A1))))) C0 Ak)
 (A2 (Ay (C9 (Cf Zyr PySem.F.slot_str_startswith PySem.F.type_str_startswith kc (pv 1) (A3 (Na rfl T.Zsu) A1))) (A2 (qt (pv 0) (A7 Zsp hr.z rfl (A3 (Co fj (pv 1) (Dh (Ai dj rfl T.Zts Ct (A3 (Na rfl T.Zsu) A1))) Di) A1)) rfl)
 (Aa (Ae Am))) Ak)
 (A2 (Af (i:=2) Nd rfl (Zzt rfl) (Cf Zyr Zx4 Zx3 Ji (pv 1) (A3 Am A1)))
 (A2 (Af (i:=3) Nd rfl (Zzt rfl) (A7 Zt7 hr.z rfl (A3 (Co Ek (pv 2) (Dh A6) Di) (A3 (gm F_t (Nb (v:=.ref F_a) rfl F_m rfl) (A8 hu (pv 2) A6 (λ_ _=>rfl)) ⟨rfl,rfl,rfl,rfl⟩) A1))))
 (A2 (C5 (A7 Zry hr.z rfl (A3 (qy (pv 0) rfl) (A3 (A8 hu (pv 2) A6 (λ_ _=>rfl)) (A3 (pv 3) A1)))))
 (A2 (Ay (Ah (Bl hu) (A8 hu (pv 2) A6 (λ_ _=>rfl)) Am (Aj _)) C0 Ak)
 (A2 (Ay (Ah (Bl hu) (A8 hu (pv 2) A6 (λ_ _=>rfl)) Am (Aj _)) C0 Ak)
 (Aa (Ae (A7 Zr1 hr.z rfl (A3 (qy (pv 0) rfl) (A3 (A8 hu (pv 2) A6 (λ_ _=>rfl)) (A3 (pv 3) A1))))))))))))),?_⟩
 have Tn:Str.ofString " " = one 32:=by decide +kernel
 rcases h with ⟨x,rs,S,rfl,⟨dx,hx⟩,sr,so,nr,k⟩ | ⟨x,v,S,sz,q,rfl,⟨dx,hx⟩,rs,g,z0,z1,tb,own,ok,k⟩
 ·walk_at "rd";refine⟨_,rfl,?_⟩;rw[FY (by decide)];refine⟨rfl,?_⟩;rw[FZ (Yt _)];have tl:=R9 sr.ok;have l4:=sr.len;refine⟨by decide,by rw[strLen_append];show 5+_<=16777216;lia,?_⟩;rw[show some (((Str.ofString "shop\n").length:Nat):Int)=some 5 from rfl,vj];refine⟨rs,S,rfl,sr,so,nr,λt H1 rt s1=>⟨_,dx,_,s1 _ _ hx,De.c,De.nk,by decide,k (.ref t) _ ⟨dx,?_⟩ (RD.ku (λb xs hb=>?_) _ _ (E2 S) rt) λb o nb hb=>?_⟩⟩
  ·rw[A0,Ku,FZ rfl]
  ·rw[Ab λz=>by rw[z,s1 _ _ hx] at hb;cases hb];exact hb
  ·rw[Ab nb];exact s1 _ _ hb
 ·walk_at "rd";refine⟨_,rfl,?_⟩;rw[FY (by decide)];refine⟨rfl,?_⟩;rw[FY (by rw[show Str.ofString "shop\n" = "shop\n" from rfl,qk];decide)];obtain⟨q1,q2,q3⟩:=xq (λw hw=>(g.ws.txt w hw).1) own;refine⟨rfl,32,by rw[Tn],by lia,λp hp=>⟨_,A0,λp1 hp1=>?_⟩⟩;rw[q1,D7 (by decide)] at *;have u1:=A4 (o:=.lst ((q.first::q.keys.map AG).map V.str)) hp;have u2:=A4 (o:=.lst ((q.keys.map AG).map V.str)) hp1;obtain⟨fa,e1,e2⟩:=qm f1 f2 f3 q;refine⟨_,Bq (j:=0) (u2 _ _ A0) rfl,_,rfl,?_⟩;rw[e1];refine⟨p1,fa,q.keys,rfl,A0,e2 _,by cases q<;>simp[Qn.keys],q3,λp3 H3 _ hp3 s3=>?_⟩;have s03:=(u1.trans u2).trans s3;have hx3:=s03 _ _ hx;have hpp:=s3 _ _ (u2 _ _ A0);have lk:Zxb (Str.ofString "kept") [(Str.ofString "kept",v)]=some v:=by simp
  refine⟨_,dx,_,hx3,De.c,De.nk,v,lk,_,Bq (j:=0) hpp rfl,v,S,q,p3,rfl,RD.same s03 _ _ rs,g.ok,own,hp3,λH4 s4=>⟨_,Bq (j:=0) (s4 _ _ hpp) rfl,rfl,?_⟩⟩;rw[FY (λz=>(ql q).1 (FW (V.str.inj (FV z))))];refine⟨_,Bq (j:=0) (s4 _ _ hpp) rfl,rfl,?_⟩;rw[FY (λz=>(ql q).2 (FW (V.str.inj (FV z))))];have s04:=s03.trans s4;exact⟨_,dx,_,s4 _ _ hx3,De.c,De.nk,v,lk,_,Bq (j:=0) (s4 _ _ hpp) rfl,v,S,sz,q,p3,rfl,RD.same s04 _ _ rs,g,z0,z1,tb.same s04,own,ok,s4 _ _ hp3,λy H5 a t b=>k y H5 a t ((E8 s04).trans b)⟩
end
set_option maxHeartbeats 4000000
section
variable {dk:Dk}
noncomputable def Jl(row:List Int)(n:Nat):List Nat:=(Zyi n).filter λi=>decide (0<row.getD i 0)
theorem T4(row:List Int):∀n,J5 row n=(Jl row n).map λi=>Xq i (row.getD i 0)
 |0=>rfl
 |n+1=>by
  rw[J5,T4 row n];unfold Jl;rw[Zul,Zyx,Zzo];congr 1;by_cases c:0<row.getD n 0
  ·rw[FZ c,Zyk,FZ (FW c)];rfl
  ·rw[FY c,Zyk,FY (λz=>c (FV z))];rfl
theorem A2k(row:List Int)(n:Nat):(Jl row n).Pairwise (·<·):=List.Pairwise.sublist List.filter_sublist List.pairwise_lt_range
theorem EJ{d:Nat}:d∈Jl row n↔d<n/\0<row.getD d 0:=by
 unfold Jl;rw[Zyf,Zx1,decide_eq_true_eq]
noncomputable def We(row:List Int)(j:Nat):List Int:=Ap row.length λd=>if d∈(Jl row row.length).take j then row.getD d 0 else 0
theorem qi{d:Nat}(h:(Jl row row.length)[j]?=some d):(We row j).set d (row.getD d 0)=We row (j+1):=by
 unfold We;rw[Jf];congr 1;funext e;rw[Zzb,h];by_cases z:e=d
 ·rw[FZ z,FZ (Zyu _ (by rw[z];exact Zzm)),z]
 ·rw[FY z];by_cases y:e∈(Jl row row.length).take j
  ·rw[FZ y,FZ (Zx9 _ y)]
  ·rw[FY y,FY (show ¬ e∈_++(some d).toList from λc=>(Zz4.mp c).elim y λc=>z (Zzc.mp c))]
theorem fo(h:∀i,0<=row.getD i 0):We row (Jl row row.length).length=row:=by
 unfold We;rw[Zzf];refine List.ext_getElem (by rw[Al]) λi h1 h2=>?_;have e:(Ap row.length λd=>if d∈Jl row row.length then row.getD d 0 else 0).getD i 0=row.getD i 0:=by
  rw[Bn h2];by_cases c:i∈Jl row row.length
  ·rw[FZ c]
  ·rw[FY c];have:¬ 0<row.getD i 0:=λz=>c (EJ.mpr ⟨h2,z⟩);have:=h i;lia
 rw[Zzp,Zzp,Zzr h1,Zzr h2] at e;exact e
theorem lf{d:Nat}{n:Int}(hd:d<=30)(h:0<=n/\n<10^577):Txt.split (Xq d n) (one 58)=[E9 d,E9 n]:=Fw (by decide) (by simp) λx hx=>by
 have no:∀{m:Int},0<=m/\m<10^577->58∉(E9 m).cps.toList:=λhm z=>by have:=(J9 hm).1 58 z;lia
 rcases Zzs.mp hx with rfl | hx
 ·exact no (L8 hd)
 ·rw[Zzc.mp hx];exact no h
theorem Xy{y:Str}(h1:c∉x.cps.toList)(h2:c∉y.cps.toList):c∉(x++y).cps.toList:=λz=>by
 rw[Zx8] at z;exact(Zz4.mp z).elim h1 h2
theorem vi{d:Nat}{n:Int}(hc:c<48)(hd:d<=30)(h:0<=n/\n<10^577):c∉(Xq d n).cps.toList:=by
 have no:∀{m:Int},0<=m/\m<10^577->c∉(E9 m).cps.toList:=λhm z=>by have:=(J9 hm).1 c z;lia
 show c∉(E9 d++one 58++E9 n).cps.toList;refine Xy (Xy (no (L8 hd)) λz=>?_) (no h);have:c=58:=Zzc.mp z;lia
theorem Xf(h:Bp x=true)(hc:c<97):c∉x.cps.toList:=λz=>by
 unfold Bp at h;simp only[Zyy] at h;have:=FV (Zy5.mp h.2 c z);have k:∀c∈DO,97<=c:=by decide +kernel
 have:=k c this;lia
theorem Su{sz:Int}(g:AF sz S)(z0:0<sz)(z1:sz<=30){w:Wr}(hw:w∈S.wares):Txt.split (Kz S w.name) (one 32)=w.name::Eg S w.name:=Fw (by decide) (by simp) λx hx=>by
 rcases Zzs.mp hx with rfl | hx
 ·exact Xf (g.ws.txt w hw).1 (by decide)
 ·obtain⟨d,n,h1,h2,rfl⟩:=Jw (Lb g z0 z1 hw) _ (Zzq _) x hx;exact vi (by decide) h1 h2
theorem ia{s:Nat}(hs:c≠s):∀ws:List Str,(∀w∈ws,c∉w.cps.toList)->c∉(Str.join (one s) ws).cps.toList
 |[],_=>λz=>by cases z
 |[x],h=>h x Zzm
 |x::y::r,h=>Xy (Xy (h x Zzm) λz=>hs (Zzc.mp z)) (ia hs (y::r) λw hw=>h w (Zzl _ hw))
inductive CY (vs:List V) (H:Hp) (Q:VK) (E:XK):Prop | mk (n:Int) (_:vs=[.str (E9 n)]) (_:(0<=n/\n<10^577)) (_:∀H',AA H H'->Q (.int n) H')
theorem Tv(F:Fun K "_law_number" "_law_number" Mv f fd)(T:Txt mg):B2 P w K mg base CX0 1 f fd ["_law_word"] CY:=by
 refine F.go ["_law_word"] ?_ ?_ ?_;walk_at "f";obtain⟨n,rfl,hn,k⟩:=h;have hu:=Au hr;have hu4:=Qr hr;refine⟨_,(A2 (Ay (PW.pt (Fg (Ah (Bl hu) (pv 0) Am (Aj _)) (En (Ah (Wo hu4) (Bc (own:=["_law_sign"]) (cap:=[]) rfl (Br rfl) (Aq (by decide)) (J8 (pv 0))
 (λ_ _ _ _ _ _=>⟨(Ac (i:=0) (FV rfl) rfl (Zzt rfl) (.inr rfl)),(G4 (Ah (V4 hu) (pv 0) Am rfl)),(pv 0)⟩)) (Bh A1) (Aj _))))) (Aa (Ae (V3 O9 A6))) Ak)
 (Aa (Ae (As Vw rfl T.Zr6 Ow (A3 (pv 0) A1))))),?_⟩
 walk_at "rd";obtain⟨dg,it,l1,l2⟩:=J9 hn;refine⟨rfl,?_⟩;rw[FY λz=>by rw[FV z] at l1;exact absurd l1 (by decide)];refine Et (v6 _) (Ag (Zzd l2 (by decide))) (λ_ acc H'=>acc=[]/\AA H H') ⟨rfl,AA.refl _⟩ (λ_ _ _ _ _=>trivial) (λi acc H' h=>by rw[h.1];exact Zyz _) (λi x acc H' hi hx h=>?_) (λacc H' h p hp=>?_)
 ·obtain⟨rfl,s'⟩:=h;obtain⟨c,hc,rfl⟩:=hx;walk_at "rd";refine⟨_,.inr (.inl ⟨_,_,rfl,rfl,rfl⟩),?_⟩;rw[StrLaws.found_one];have h48:=dg c (Zzu (by rw[Zvs];exact hc));have hf:decide (c∈("0123456789" : Str).cps.toList)=true:=FW (ij h48);rw[FY (by rw[show decide (c∈(Str.ofString "0123456789").cps.toList)=true from hf];decide)];exact s'
 ·obtain⟨rfl,s'⟩:=h;have v1:=s'.trans (A4 (o:=.lst []) hp);refine⟨Zyz _,λp2 hp2=>?_⟩;have v2:=A4 (o:=.lst []) hp2;have rl:∀{H:Hp} {a:Addr},H a=some (.lst [])->RD H (.list []) (.ref a):=λe=>by rw[RD];exact⟨_,[],rfl,e,RDs.nil⟩
  refine⟨.list [],rl (v2 _ _ A0),.list [],rl A0,by decide +kernel,by decide +kernel,?_⟩;rw[FY (by rw[Nv _ (by decide +kernel)];decide)];exact⟨n,it,by lia,k _ (v1.trans v2)⟩
inductive A2x (x y:V) (p q:Addr) (row:List Int) (H:Hp) (j:Nat) (Z:St) (H':Hp):Prop | mk (l:Int) (o5 o6:Option V) (_:Z=[some x,some y,some (.ref p),some (.ref q),some (.int l),o5,o6]) (_:(∀d∈(Jl row row.length).drop j,l<(d:Nat))) (_:H' q=some (.lst ((We row j).map V.int))) (_:∀b o,b≠q->H b=some o->H' b=some o)
inductive CF (vs:List V) (H:Hp) (Q:VK) (E:XK):Prop | mk (S:Sh) (w:Wr) (sz:Int) (_:vs=[.str (Kz S w.name),.int (AB S:Nat)]) (_:AF sz S) (_:0<sz) (_:sz<=30) (_:w∈S.wares) (_:∀t p H',H' t=some (.tup [.str w.name,.ref p])->H p=none->H' p=some (.lst ((LR S w.name).map V.int))->AA H H'->Q (.ref t) H')
theorem Og(F:Fun K "_law_read_line" "_law_read_line" K8 f fd)(T:Txt mg)(Zt5:Has P w K mg base "_law_number" 1 ["_law_word"] CY):B2 P w K mg base CX0 2 f fd ["_law_line", "_law_days_here"] CF:=by
 refine F.go ["_law_line", "_law_days_here", "_law_words", "_law_row", "_law_last", "_law_word", "_law_halves"] ?_ ?_ ?_;walk_at "f";obtain⟨S,w',sz,rfl,g,z0,z1,hw,k⟩:=h;have hu:=Au hr;refine⟨_,(A2 (Af (i:=2) Nd rfl (Zzt rfl) (Cf Zyr Zx4 Zx3 Ji (pv 0) (A3 Am A1)))
 (A2 (Df (own:=["_law_day"]) (cap:=[]) (i:=3) rfl (Br rfl) (Aq (by decide)) Nd rfl rfl (Cl rfl T.Zth (A3 (pv 1) A1))
 (λ_ _ _ _ _ _=>⟨(Ac (i:=0) (FV rfl) rfl (Zzt rfl) (.inr rfl)),Bb,A6⟩))
 (A2 (Af (i:=4) Nd rfl (Zzt rfl) (V3 O9 A6))
 (A2 (Bk PassesOwn.never rfl (Cq (Co Ek (pv 2) (Dh A6) Di)) (Ac (i:=5) Nd rfl (Zzt rfl))
 (A2 (Af (i:=6) Nd rfl (Zzt rfl) (Cf Zyr Zx4 Zx3 Ji (pv 5) (A3 Am A1)))
 (A2 (Ay (PW.pt (Fg (Ah (Kv hu) (Ai Bs rfl T.Zts Ct (A3 (pv 6) A1)) A6 (Aj _)) (Fg (C6 (S0 (Eh hu) (Eh hu) (pv 4) (A7 Zt5 hr.z rfl (A3 (A8 hu (pv 6) A6 (λ_ _=>rfl)) A1)) (pv 1))) (En (Ah (Eh hu) (A7 Zt5 hr.z rfl (A3 (A8 hu (pv 6) A6 (λ_ _=>rfl)) A1)) A6 (Aj _)))))) (Aa (Ae (Cz (A3 Fz (A3 (Bh A1) A1))))) Ak)
 (A2 (Af (i:=4) Nd rfl (Zzt rfl) (A7 Zt5 hr.z rfl (A3 (A8 hu (pv 6) A6 (λ_ _=>rfl)) A1)))
 (Aa (Eo (A7 Zt5 hr.z rfl (A3 (A8 hu (pv 6) A6 (λ_ _=>rfl)) A1)) (Fy (pv 3) (pv 4) Gk)))))))
 (Aa (Ae (Cz (A3 (A8 hu (pv 2) A6 (λ_ _=>rfl)) (A3 (pv 3) A1))))))))),?_⟩
 walk_at "rd";have r:=Lb g z0 z1 hw;have el:(LR S w'.name).length=AB S:=Eu (Db g).toLev hw;have d30:=r.1;have ed:Eg S w'.name=(Jl (LR S w'.name) (LR S w'.name).length).map λi=>Xq i ((LR S w'.name).getD i 0):=T4 _ _;generalize LR S w'.name=row at r el d30 k ed;refine⟨rfl,32,by decide +kernel,Zzd (Nn g z0 z1 hw) (by decide),λp hp=>⟨by lia,by lia,?_⟩⟩;rw[Su g z0 z1 hw,Zvt];have u1:=A4 (o:=.lst ((w'.name::Eg S w'.name).map V.str)) hp;refine Bg (J4 0 _) (Ag (by lia)) (λ_ _=>trivial) ((Ap (AB S) λ_=>0).map V.int) (by rw[Zzz,Al]) (λi x H' hi hx s' N M hN=>?_) (λH2 s2 q hq=>?_)
 ·walk_at "rd";exact hN _ _ s' (by rw[Zzy,Bi hi];rfl)
 have u2:=A4 (o:=.lst ((Ap (AB S) λ_=>0).map V.int)) hq;have fq:H q=none:=AA.free (u1.trans s2) hq;have hp2:=s2 _ _ (show upd H p _ p=_ from A0);have pq:p≠q:=A5 hp2 hq;refine⟨_,u2 _ _ hp2,λp1 hp1=>⟨_,A0,?_⟩⟩;rw[D7 (by decide)];show A00 (ItL p1 ((Eg S w'.name).map V.str)) _ _ _ _ (upd _ p1 (.lst ((Eg S w'.name).map V.str)));have u3:=A4 (o:=.lst ((Eg S w'.name).map V.str)) hp1;have p1q:p1≠q:=λz=>by rw[z,A0] at hp1;cases hp1
 have hq3:=u3 _ _ (show upd H2 q _ q=_ from A0);have hp13:upd (upd H2 q (.lst ((Ap (AB S) λ_=>0).map V.int))) p1 (.lst ((Eg S w'.name).map V.str)) p1=_:=A0;have s03:=((u1.trans s2).trans u2).trans u3;have hp3:=(u2.trans u3) _ _ hp2;generalize upd (upd H2 q (.lst ((Ap (AB S) λ_=>0).map V.int))) p1 (.lst ((Eg S w'.name).map V.str))=H3 at hq3 hp13 s03 hp3;refine Cp (Dw p1 _) (A2x _ _ p q row H3) ⟨-1,_,_,rfl,(λd _=>by lia),?_,λ_ _ _ e=>e⟩ (λj Z H' _ h=>by obtain⟨_,_,_,_,_,_,e⟩:=h;exact e _ _ p1q hp13) (λj x Z H4 hj hx h=>?_) (λZ H4 h=>?_)
 ·rw[hq3];unfold We;rw[el,Zwg];exact congrArg (λz=>some (HO.lst (Zyo V.int z))) (C4 λd _=>by rw[FY (by simp)])
 ·obtain⟨l,o5,o6,rfl,hl,hq4,k4⟩:=h;rw[ed,Zz1,Zzy] at hx;cases en:(Jl row row.length)[j]? with
  |none=>rw[en] at hx;cases hx
  |some d =>
  rw[en] at hx;have hx:V.str (Xq d (row.getD d 0))=x:=Zzh hx;subst hx;obtain⟨m1,m2⟩:=EJ.mp (Zzu en);have hd:d<=30:=by lia
  have hn:=r.2 d;have hdr:(Jl row row.length).drop j=d::(Jl row row.length).drop (j+1):=by
   obtain⟨h1,h2⟩:=Zze.mp en;rw[Zvg h1,h2]
  have hld:=hl d (by rw[hdr];exact Zzm);walk_at "rd";refine⟨rfl,58,by decide +kernel,Zzd (Xp hd hn) (by decide),λp4 hp4=>?_⟩;rw[lf hd hn];have u4:=A4 (o:=.lst [.str (E9 d),.str (E9 (row.getD d 0))]) hp4;have hp5:upd H4 p4 (.lst [.str (E9 d),.str (E9 (row.getD d 0))]) p4=_:=A0;refine⟨_,.inl A0,rfl,?_⟩;rw[FY (by simp)];have i0:∀{H':Hp},AA (upd H4 p4 (.lst [.str (E9 d),.str (E9 (row.getD d 0))])) H'->Jp H' (.ref p4) (.int 0) (.str (E9 d)):=λz=>Bq (j:=0) (z _ _ hp5) rfl;have i1:∀{H':Hp},AA (upd H4 p4 (.lst [.str (E9 d),.str (E9 (row.getD d 0))])) H'->Jp H' (.ref p4) (.int 1) (.str (E9 (row.getD d 0))):=λz=>Bq (j:=1) (z _ _ hp5) rfl;refine⟨_,i0 (AA.refl _),d,rfl,L8 hd,λH5 s5=>⟨_,rfl,?_⟩⟩;rw[FZ (FW hld)];refine⟨_,rfl,?_⟩;rw[FY (by rw[FW (by lia)];decide)];refine⟨_,i1 s5,_,rfl,hn,λH6 s6=>⟨_,rfl,?_⟩⟩;rw[FY (λz=>by have:=FV z;lia)];have s46:=s5.trans s6;refine⟨_,i0 s46,d,rfl,L8 hd,λH7 s7=>⟨_,i1 (s46.trans s7),_,rfl,hn,λH8 s8=>?_⟩⟩;have s48:=u4.trans ((s46.trans s7).trans s8);refine⟨_,d,rfl,s48 _ _ hq4,((d:Nat):Int).toNat,?_,d,_,_,rfl,λe he=>?_,?_,λb o nb e=>by rw[Ab nb];exact s48 _ _ (k4 b o nb e)⟩
  ·unfold We;rw[Zzz,Al];unfold ixN;rw[FZ (by lia),FZ (by lia)]
  ·have pw:=List.Pairwise.sublist (List.drop_sublist j _) (A2k row row.length)
   rw[hdr] at pw;have:=(Zu4.mp pw).1 e he;lia
  ·rw[A0,<- Zv9,Zvt,qi en]
 ·obtain⟨l,o5,o6,rfl,hl,hq4,k4⟩:=h;rw[Zzz,ed,Zzz,fo λi=>(r.2 i).1] at hq4;walk_at "rd";refine⟨_,Bq (j:=0) (k4 _ _ pq hp3) rfl,by decide,λt ht=>?_⟩;have u5:=A4 (o:=.tup [.str w'.name,.ref q]) ht;exact k t q _ A0 fq (u5 _ _ hq4) λb o e=>u5 _ _ (k4 b o (A5 e fq) (s03 _ _ e))
end
set_option maxHeartbeats 4000000
section
variable {dk:Dk}
theorem ud:∀{row:List Int},(∀x∈row,0<=x)->∀x∈row,x<=row.sum
 |[],_,x,h=>by cases h
 |y::r,hn,x,h=>by
  have hr:=ud (row:=r) λz hz=>hn z (Zzl _ hz);have s0:0<=r.sum:=by
   cases r with
   |nil=>exact Zz9 _
   |cons a t=>exact Zxm (hn a (by simp)) (hr a Zzm)
  rw[List.sum_cons];rcases Zzs.mp h with rfl | h
  ·lia
  ·have:=hr x h
   have:=hn y Zzm;lia
theorem EQ:Ei S nm=true↔Jl (LR S nm) (LR S nm).length≠[]:=by
 unfold Ei Eg;rw[T4];cases Jl (LR S nm) (LR S nm).length<;>simp
theorem z8(r:P0 (LR S nm))(h:Ei S nm=true):(LR S nm).sum≠0:=by
 obtain⟨d,hd⟩:=List.exists_mem_of_ne_nil _ (EQ.mp h);obtain⟨d1,d2⟩:=EJ.mp hd;have nn:∀x∈LR S nm,0<=x:=λx hx=>by
  obtain⟨i,hi⟩:=Zwi hx;have:=(r.2 i).1;rw[Zzp,hi] at this;exact this
 have:=ud nn ((LR S nm).getD d 0) (by rw[Zzp,Zzr d1];exact Zwc d1);lia
theorem yi(r:P0 (LR S nm))(h:¬ Ei S nm=true):LR S nm=Ap (LR S nm).length λ_=>0:=by
 have e:Jl (LR S nm) (LR S nm).length=[]:=by
  cases z:Jl (LR S nm) (LR S nm).length with
  |nil=>rfl
  |cons a t=>exact absurd (EQ.mpr (by rw[z];simp)) h
 have:=fo λi=>(r.2 i).1;unfold We at this;rw[e] at this;exact this.symm
theorem N7:∀xs:List Str,RDs H (xs.map PyData.str) (xs.map V.str)
 |[]=>RDs.nil
 |_::r=>RDs.cons RD.str_mk (N7 r)
inductive Po (H:Hp) (p q:Addr) (n:Nat) (l:List Str) (R:Str->List Int):Prop | mk (kvs:List (Key×V)) (_:H p=some (.dK kvs)) (_:kvs.length<=n) (_:∀nm∈l,∃r:Addr,Cy kvs (.inr nm)=some (.ref r)/\r≠p/\r≠q/\H r=some (.lst ((R nm).map V.int)))
theorem Po.same{q:Addr}{l:List Str}{R:Str->List Int}(h:Po H p q n l R)(s:∀b o,b≠q->H b=some o->H' b=some o)(pq:p≠q):Po H' p q n l R:=by
 obtain⟨kvs,h1,h2,h3⟩:=h;exact⟨kvs,s _ _ pq h1,h2,λnm hn=>by obtain⟨r,e1,e2,e3,e4⟩:=h3 nm hn;exact⟨r,e1,e2,e3,s _ _ e3 e4⟩⟩
theorem Po.put{q r:Addr}{l l':List Str}{R R':Str->List Int}(h1:H p=some (.dK kvs))(h2:kvs.length<=n)(h3:∀nm∈l,∃r:Addr,Cy kvs (.inr nm)=some (.ref r)/\r≠p/\r≠q/\H r=some (.lst ((R nm).map V.int)))(rp:r≠p)(rq:r≠q)(hr:H r=some (.lst ((R' nm).map V.int)))(hl:∀x∈l',x=nm\/(x∈l/\R x=R' x)):Po (upd H p (.dK (Gx kvs (.inr nm) (.ref r)))) p q (n+1) l' R':=by
 refine⟨_,A0,Zzd (L4 _ _ _) (by lia),λx hx=>?_⟩;by_cases z:x=nm
 ·exact⟨r,by rw[Hw,FZ (by rw[z])],rp,rq,by rw[Ab rp,z];exact hr⟩
 ·obtain⟨x1,x2⟩:=(hl x hx).resolve_left z;obtain⟨r',e1,e2,e3,e4⟩:=h3 x x1;exact⟨r',by rw[Hw,FY λy=>z (Zwh y)];exact e1,e2,e3,by rw[Ab e2,<- x2];exact e4⟩
inductive Po1 (v y:V) (p q:Addr) (S:Sh) (H:Hp) (i:Nat) (Z:St) (H':Hp):Prop | mk (o4 o5 o6 o7:Option V) (_:Z=[some y,some v,some (.ref p),some (.ref q),o4,o5,o6,o7]) (_:Po H' p q i ((Be S).take i) (λ_=>Ap (AB S) λ_=>0)) (_:H' q=some (.lst [])) (_:AA H H')
inductive Po2 (v y:V) (p q:Addr) (S:Sh) (fs:List Str) (H:Hp) (j:Nat) (Z:St) (H':Hp):Prop | mk (o4 o5 o6 o7:Option V) (_:Z=[some y,some v,some (.ref p),some (.ref q),o4,o5,o6,o7]) (_:Po H' p q (12+j) (Be S) (λnm=>if nm∈fs.take j then LR S nm else Ap (AB S) λ_=>0)) (_:H' q=some (.lst ((fs.take j).map V.str))) (_:∀b o,b≠p->b≠q->H b=some o->H' b=some o)
theorem cw{sz:Int}(g:AF sz S)(z0:0<sz)(z1:sz<=30)(mem:∀y∈ys,∃w∈S.wares,w.name=y):∃k:Int,(0<=k/\k<=1)/\(if (!decide (Str.join (one 10) (C3 S ys)=Str.ofString ""))=true then (1:Int) else 0)=k/\(Zy8 k.toNat ((Txt.split (Str.join (one 10) (C3 S ys)) (one 10)).map V.str)).flatten=(C3 S ys).map V.str:=by
 by_cases e:C3 S ys=[]
 ·rw[e];exact⟨0,by decide,by decide +kernel,rfl⟩
 have ln:∀x∈C3 S ys,∃w∈S.wares,x=Kz S w.name:=λx hx=>by
  obtain⟨nm,hn,rfl⟩:=Zzv.mp hx;obtain⟨w,hw,rfl⟩:=mem nm (Zyf.mp hn).1;exact⟨w,hw,rfl⟩
 have sj:=Fw (c:=10) (by decide) e λx hx=>by
  obtain⟨w,hw,rfl⟩:=ln x hx;refine ia (by decide) _ λy hy=>?_;rcases Zzs.mp hy with rfl | hy
  ·exact Xf (g.ws.txt w hw).1 (by decide)
  ·obtain⟨d,n,h1,h2,rfl⟩:=Jw (Lb g z0 z1 hw) _ (Zzq _) y hy;exact vi (by decide) h1 h2
 have ne:¬ Str.join (one 10) (C3 S ys)=Str.ofString "" := λz=>by
  rw[z] at sj;have s1:Txt.split (Str.ofString "") (one 10)=[Str.ofString ""]:=by decide +kernel
  obtain⟨w,hw,ew⟩:=ln (Str.ofString "") (by rw[<- sj,s1];exact Zzm);have s2:=Su g z0 z1 hw;have s3:Txt.split (Str.ofString "") (one 32)=[Str.ofString ""]:=by decide +kernel
  rw[<- ew,s3] at s2;have s4:=(g.ws.txt w hw).1;rw[<- (Zwt s2).1] at s4;exact absurd s4 (by decide +kernel)
 refine⟨1,by decide,by rw[FX ne];rfl,?_⟩;rw[sj];show _++[]=_;rw[Zz6]
inductive CN (vs:List V) (H:Hp) (Q:VK) (E:XK):Prop | mk (v:V) (S:Sh) (sz:Int) (ys:List Str) (_:vs=[.str (Str.join (one 10) (C3 S ys)),v]) (_:RD H S.d v) (_:AF sz S) (_:0<sz) (_:sz<=30) (_:Jo (lv S) (Be S) ys) (_:∀p H',AQ H' p S (LR S)->AA H H'->Q (.ref p) H')
theorem Sd(F:Fun K "_law_plan_of" "_law_plan_of" M5 f fd)(T:Txt mg)(Ztq:Has P w K mg base "_law_days" 1 ["_law_shop_here"] BT)(Zso:Has P w K mg base "_law_read_line" 2 ["_law_line", "_law_days_here"] CF)(Zsy:Has P w K mg base "_law_order" 14 ["_law_shop_here"] CC):B2 P w K mg base CX0 15 f fd ["_law_text", "_law_shop_here"] CN:=by
 refine F.go ["_law_text", "_law_shop_here", "_law_plan", "_law_names", "_law_ware_here", "_law_line", "_law_name", "_law_row"] ?_ ?_ ?_;walk_at "f";obtain⟨v,S,sz,ys,rfl,rs,g,z0,z1,sb,k⟩:=h;have hu:=Au hr;have hu4:=Qr hr;refine⟨_,(A2 (Af (i:=2) Nd rfl (Zzt rfl) Jh)
 (A2 (Af (i:=3) Nd rfl (Zwd rfl) (Bh A1))
 (A2 (Bk PassesOwn.never rfl (Ca (A8 hu (pv 1) A6 (λ_ _=>rfl))) (Ac (i:=4) Nd rfl (Zzt rfl))
 (Aa (Eo (Bc (own:=["_law_day"]) (cap:=[]) rfl (Br rfl) (Aq (by decide)) (Cl rfl T.Zth (A3 (A7 Ztq hr.z rfl (A3 (pv 1) A1)) A1))
 (λ_ _ _ _ _ _=>⟨(Ac (i:=0) (FV rfl) rfl (Zzt rfl) (.inr rfl)),Bb,A6⟩)) (Fy (pv 2) (A8 hu (pv 4) A6 (λ_ _=>rfl)) (Gm hu)))))
 (A2 (Bk PassesOwn.never rfl (Cq (At Wl (Cf Zyr Zx4 Zx3 Ji (pv 0) (A3 Am A1)) (As Ov rfl T.Zr6 Ow (A3 (Dj (Kv hu) (pv 0) Am (Aj _)) A1)))) (Ac (i:=5) Nd rfl (Zzt rfl))
 (A2 (Eo (A7 Zso hr.z rfl (A3 (pv 5) (A3 (A7 Ztq hr.z rfl (A3 (pv 1) A1)) A1))) (Do (n:=2) rfl (An (Ac (i:=6) Nd rfl (Zzt rfl)) (An (Ac (i:=7) Nd rfl (Zzt rfl)) Cj))))
 (A2 (Ay (PW.pt (Fg (Ah (V4 hu) (pv 6) (pv 2) rfl) (En (Ah (Bl hu) (Ai (Vs rfl) rfl T.Zqs vx (A3 (pv 7) A1)) A6 (Aj _))))) (Aa (Ae Fz)) Ak)
 (A2 (C5 (Cf Zz5 Zyn Zym Ck (pv 3) (A3 (pv 6) A1)))
 (Aa (Eo (pv 7) (Fy (pv 2) (pv 6) (Gm hu))))))))
 (A2 (Ay (Ah (Wo hu4) (pv 3) (Bc (own:=["_law_name"]) (cap:=[3]) rfl (Br rfl) (Aq (by decide)) (Cq (A7 Zsy hr.z rfl (A3 (pv 1) A1)))
 (λ_ _ _ _ _ _=>⟨(Ac (i:=0) (FV rfl) rfl (Zzt rfl) (.inr rfl)),(G4 (Ah (Mb hu) (pv 0) (pv 1) rfl)),(pv 0)⟩)) (Aj _)) (Aa (Ae Fz)) Ak)
 (Aa (Ae (pv 2)))))))),?_⟩
 walk_at "rd";obtain⟨n1,n2,n3,n4⟩:=g.days z0 (by lia);have hfew:=g.len.2;obtain⟨sa,sc,sd,ws,us,rfl,ha,hb,hc,rws,rus⟩:=Cb rs;have hlw:=Aw rws;have nl:=Cn S;intro p hp;refine⟨Zyz _,λq hq=>?_⟩;have u1:=A4 (o:=.dK []) hp;have u2:=A4 (o:=.lst []) hq;have u:=u1.trans u2;have pq:p≠q:=λz=>by rw[<- z,A0] at hq;cases hq
 have nq:H q=none:=AA.free u1 hq;refine⟨_,Ad (j:=0) (u _ _ ha) rfl,sc,rfl,ws,u _ _ hb,?_⟩;refine Cp (D1 sc _) (Po1 (.ref sa) _ p q S H) ⟨_,_,_,_,rfl,⟨[],u2 _ _ A0,Zzq _,λnm hn=>by cases hn⟩,A0,u⟩ (λi Z H' _ h=>by obtain⟨_,_,_,_,_,_,_,s⟩:=h;exact s _ _ hb) (λi x Z H2 hi hx h=>?_) (λZ H2 h=>?_)
 ·obtain⟨o4,o5,o6,o7,rfl,⟨kvs,k1,k2,k3⟩,hq2,s2⟩:=h;obtain⟨w',ew,rw'⟩:=Ax rws hx;obtain⟨te,c1,c2,rfl,hte,_⟩:=Bt rw';walk_at "rd";refine⟨.ref sa,S,sz,rfl,RD.same s2 _ _ rs,g,z0,by lia,λH3 s3=>⟨_,rfl,by lia,by lia,?_⟩⟩;rw[Zvt];refine Bg (J4 0 _) (Ag n2) (λ_ _=>trivial) ((Ap (AB S) λ_=>0).map V.int) (by rw[Zzz,Al]) (λi x H' hi hx s' N M hN=>?_) (λH4 s4 r hr4=>?_)
  ·walk_at "rd";exact hN _ _ s' (by rw[Zzy,Bi hi];rfl)
  have u5:=(s3.trans s4).trans (A4 (o:=.lst ((Ap (AB S) λ_=>0).map V.int)) hr4);have hr5:upd H4 r (.lst ((Ap (AB S) λ_=>0).map V.int)) r=_:=A0;have rp:r≠p:=λz=>by rw[z,s4 _ _ (s3 _ _ k1)] at hr4;cases hr4
  have rq:r≠q:=λz=>by rw[z,s4 _ _ (s3 _ _ hq2)] at hr4;cases hr4
  generalize upd H4 r (.lst ((Ap (AB S) λ_=>0).map V.int))=H5 at u5 hr5;refine⟨_,Ad (j:=0) (u5 _ _ (s2 _ _ hte)) rfl,kvs,.inr w'.name,rfl,u5 _ _ k1,Zz0 (m:=64) (by lia) (by decide),_,_,_,_,rfl,Po.put (u5 _ _ k1) k2 (λnm hn=>by obtain⟨r',e1,e2,e3,e4⟩:=k3 nm hn;exact⟨r',e1,e2,e3,u5 _ _ e4⟩) rp rq hr5 (λx hx=>?_),?_,λb o e=>?_⟩
  ·unfold Be at hx;rw[Zzb,Zzy,ew] at hx;rcases Zz4.mp hx with z | z
   ·exact .inr ⟨z,rfl⟩
   ·exact .inl (Zzc.mp z)
  ·rw[Ab (Zzi pq)];exact u5 _ _ hq2
  ·rw[Ab (A5 e hp)];exact u5 _ _ (s2 _ _ e)
 obtain⟨o4,o5,o6,o7,rfl,po,hq2,s2⟩:=h;rw[hlw,show S.wares.length=(Be S).length by lia,Zzf] at po;have mem:∀y∈ys,∃w∈S.wares,w.name=y:=λy hy=>Zzv.mp ((Ci sb).1.mem_iff.mp hy);have len:ys.length<=12:=by rw[(Ci sb).1.length_eq,Cn];exact hfew
 have fl:(ys.filter (Ei S)).length<=12:=Zzd (Zyh _ _) len;walk_at "rd";obtain⟨kk,k01,ek,er⟩:=cw g z0 z1 mem;have tl:=Ij (sep:=one 10) (B:=40000) (xs:=C3 S ys) λy hy=>by
  obtain⟨nm,hnm,rfl⟩:=Zzv.mp hy;obtain⟨w,hw,rfl⟩:=mem nm (Zyf.mp hnm).1;exact Nn g z0 z1 hw
 have ll:(C3 S ys).length<=12:=by unfold C3;rw[Zzz];exact fl
 rw[show (one 10).length=1 from rfl] at tl;rw[ek];have le:=congrArg Zxa er;rw[i8,Zzz (as:=C3 S ys)] at le;refine⟨rfl,10,by decide +kernel,by lia,λp1 hp1=>⟨rfl,_,A0,by lia,by lia,by rw[Nat.mul_comm,le];exact Zzd ll (by decide),λp2 hp2=>⟨_,A0,?_⟩⟩⟩;rw[er];have u4:=(A4 (o:=.lst ((Txt.split (Str.join (one 10) (C3 S ys)) (one 10)).map V.str)) hp1).trans (A4 (o:=.lst ((C3 S ys).map V.str)) hp2);have hp24:upd (upd H2 p1 (.lst ((Txt.split (Str.join (one 10) (C3 S ys)) (one 10)).map V.str))) p2 (.lst ((C3 S ys).map V.str)) p2=_:=A0;have f2:H2 p2=none:=AA.free (A4 hp1) hp2;generalize upd (upd H2 p1 (.lst ((Txt.split (Str.join (one 10) (C3 S ys)) (one 10)).map V.str))) p2 (.lst ((C3 S ys).map V.str))=H4 at u4 hp24;have p2q:p2≠q:=λz=>by rw[z,hq2] at f2;cases f2
 have p2p:p2≠p:=λz=>by obtain⟨_,e,_⟩:=po;rw[z,e] at f2;cases f2
 have s4:=s2.trans u4;refine Cp (Dw p2 _) (Po2 (.ref sa) _ p q S (ys.filter (Ei S)) H4) ⟨_,_,_,_,rfl,?_,u4 _ _ hq2,λ_ _ _ _ e=>e⟩ (λi Z H' _ h=>by obtain⟨_,_,_,_,_,_,_,e⟩:=h;exact e _ _ p2p p2q hp24) (λj x Z H5 hj hx h=>?_) (λZ H5 h=>?_)
 ·have po4:=po.same (λb o _ e=>u4 b o e) pq
  obtain⟨kvs,k1,k2,k3⟩:=po4;exact⟨kvs,k1,by lia,λnm hn=>by obtain⟨r,e1,e2,e3,e4⟩:=k3 nm hn;exact⟨r,e1,e2,e3,by rw[e4];exact congrArg (λz=>some (HO.lst (Zyo V.int z))) (FY (by rw[Zwg];simp)).symm⟩⟩
 ·obtain⟨o4,o5,o6,o7,rfl,⟨kvs,k1,k2,k3⟩,hq5,kp⟩:=h;unfold C3 at hx hj;rw[Zz1,Zzy] at hx;rw[Zzz,Zzz] at hj;cases en:(ys.filter (Ei S))[j]? with
  |none=>rw[en] at hx;cases hx
  |some nm =>
  rw[en] at hx;have hx:V.str (Kz S nm)=x:=Zzh hx;subst hx;obtain⟨m1,m2⟩:=Zyf.mp (Zzu en);obtain⟨w',hw',rfl⟩:=mem nm m1;have s5:AA H H5:=λb o e=>kp b o (A5 e hp) (A5 e nq) (s4 b o e);have r5:=Lb g z0 z1 hw';walk_at "rd";refine⟨.ref sa,S,sz,rfl,RD.same s5 _ _ rs,g,z0,by lia,λH6 s6=>⟨S,w',sz,rfl,g,z0,z1,hw',λt r H7 ht hr0 hr7 s7=>gt2 ht ?_⟩⟩;have s57:=s6.trans s7;have rp:r≠p:=λz=>by rw[z,s6 _ _ k1] at hr0;cases hr0
  have rq:r≠q:=λz=>by rw[z,s6 _ _ hq5] at hr0;cases hr0
  walk_at "rd";obtain⟨r1,v1,_⟩:=k3 w'.name (Zzv.mpr ⟨w',hw',rfl⟩);refine⟨_,.inr (.inr ⟨p,kvs,.inr w'.name,rfl,rfl,.inl (s57 _ _ k1),rfl⟩),?_⟩;rw[v1,FY (by simp)];refine⟨_,hr7,rfl,?_⟩;rw[FY λz=>z8 r5 m2 (FV z)];have tk:(ys.filter (Ei S)).take (j+1)=(ys.filter (Ei S)).take j++[w'.name]:=by rw[Zzb,en];rfl
  have k1':upd H7 q (.lst ((((ys.filter (Ei S)).take j).map V.str)++[.str w'.name])) p=some (.dK kvs):=by rw[Ab pq];exact s57 _ _ k1
  refine⟨Ds (s57 _ _ hq5),_,s57 _ _ hq5,Zz0 (m:=12) (by rw[Zzz,Zz7];lia) (by decide),kvs,.inr w'.name,rfl,k1',Zz0 (m:=64) (by lia) (by decide),_,_,_,_,rfl,Po.put (l:=Be S) (R:=λnm=>if nm∈(ys.filter (Ei S)).take j then LR S nm else Ap (AB S) λ_=>0) k1' k2 (λnm hn=>?_) rp rq ?_ (λx hx=>?_),?_,λb o nb nb2 e=>by rw[Ab nb,Ab nb2];exact s57 _ _ (kp b o nb nb2 e)⟩
  ·obtain⟨r',e1,e2,e3,e4⟩:=k3 nm hn;exact⟨r',e1,e2,e3,by rw[Ab e3];exact s57 _ _ e4⟩
  ·rw[Ab rq,hr7];exact congrArg (λz=>some (HO.lst (Zyo V.int z))) (FZ (by rw[tk];exact Zyu _ Zzm)).symm
  ·by_cases z:x=w'.name
   ·exact .inl z
   ·refine .inr ⟨hx,?_⟩;show (if x∈_ then _ else _)=if x∈_ then _ else _
    rw[tk];by_cases y:x∈(ys.filter (Ei S)).take j
    ·rw[FZ y,FZ (Zx9 _ y)]
    ·rw[FY y,FY λc=>(Zz4.mp c).elim y λc=>z (Zzc.mp c)]
  ·rw[Ab (Zzi pq),A0,tk,Zzo];rfl
 ·obtain⟨o4,o5,o6,o7,rfl,po5,hq5,kp⟩:=h;walk_at "rd";unfold C3 at hq5 po5;rw[Zzz,Zzz,Zzf] at hq5 po5;have s5:AA H H5:=λb o e=>kp b o (A5 e hp) (A5 e nq) (s4 b o e);refine⟨.ref sa,S,rfl,RD.same s5 _ _ rs,Db g,hfew,λp6 ys6 H6 fp6 hp6 sb6 s6=>⟨p6,rfl,_,hp6,?_⟩⟩;rw[Od sb6 sb] at hp6 ⊢;refine Et (Dw p6 _) (Ag (by rw[Zzz];lia)) (λi acc H'=>acc=((ys.take i).filter (Ei S)).map V.str/\AA H6 H') ⟨rfl,AA.refl _⟩ (λi acc H' _ h=>h.2 _ _ hp6) (λi acc H' h=>by rw[h.1,Zzz];exact Zzd (Zyh _ _) (by rw[Zz7];lia)) (λi x acc H' hi hx h=>?_) (λacc H7 h p8 hp8=>?_)
  ·obtain⟨rfl,s'⟩:=h;rw[Zzy] at hx;cases en:ys[i]? with
   |none=>rw[en] at hx;cases hx
   |some nm =>
   rw[en] at hx;have hx:V.str nm=x:=Zzh hx;subst hx;have et:(ys.take (i+1)).filter (Ei S)=(ys.take i).filter (Ei S)++[nm].filter (Ei S):=by rw[Zzb,en,Zyx];rfl
   walk_at "rd";refine⟨_,.inl ⟨q,_,rfl,.inl (s' _ _ (s6 _ _ hq5)),rfl,Jn _,rfl⟩,?_⟩;rw[L6,et];refine Dq (λc=>?_) (λc=>?_)
   ·have c:=(Zyf.mp (FV c)).2
    refine⟨?_,s'⟩;rw[Zyk,FZ c,Zzo];rfl
   ·have c:¬ Ei S nm=true:=λz=>c (FW (Zyf.mpr ⟨Zzu en,z⟩))
    refine⟨?_,s'⟩;rw[Zyk,FY c];show _=((_++[]):List Str).map V.str;rw[Zz6]
  ·obtain⟨rfl,s'⟩:=h;rw[Zzz,Zzf];have u8:=A4 (o:=.lst ((ys.filter (Ei S)).map V.str)) hp8;have s8:=(s6.trans s').trans u8;have ly:PyData.canLay0 (.list ((ys.filter (Ei S)).map PyData.str))=true:=by
    rw[PyData.canLay0];exact i9 PyData.str _ λx hx=>by rw[PyData.canLay0];exact g.txt _ ((Ci sb).1.mem_iff.mp (Zyf.mp hx).1)
   have oky:okD (.list ((ys.filter (Ei S)).map PyData.str))=true:=by
    have dp:=Vm PyData.str 0 (ys.filter (Ei S)) λx _=>by rw[PyData.depth];exact Zzq _
    unfold okD;rw[Zyy];refine⟨ly,FW ?_⟩;rw[PyData.depth];lia
   have rl:∀{H:Hp} {a:Addr},H a=some (.lst ((ys.filter (Ei S)).map V.str))->RD H (.list ((ys.filter (Ei S)).map PyData.str)) (.ref a):=λe=>by rw[RD];exact⟨_,_,rfl,e,N7 _⟩
   refine⟨_,rl (s8 _ _ hq5),_,rl A0,oky,oky,?_⟩;rw[FY (by rw[Nv _ ly];decide)];obtain⟨kvs,k1,k2,k3⟩:=po5;refine k p _ ⟨kvs,.inl (s8 _ _ k1),λnm hn=>?_⟩ (s5.trans s8);obtain⟨r',e1,_,_,e4⟩:=k3 nm hn;obtain⟨w',hw',rfl⟩:=Zzv.mp hn;have ll:=Eu (Db g).toLev hw';refine⟨r',e1,?_,ll,λx hx=>⟨(Kd (Ee g) _ x hx).1,Int.lt_trans (Kd (Ee g) _ x hx).2 (by decide +kernel)⟩⟩;rw[s8 _ _ e4];refine congrArg (λz=>some (HO.lst (Zyo V.int z))) ?_;show (if w'.name∈ys.filter (Ei S) then _ else _)=_;by_cases c:Ei S w'.name=true
   ·exact FZ (Zyf.mpr ⟨(Ci sb).1.mem_iff.mpr hn,c⟩)
   ·rw[FY λz=>c (Zyf.mp z).2,<- ll];exact(yi (Lb g z0 z1 hw') c).symm
end
set_option maxHeartbeats 4000000
section
variable {dk:Dk}
theorem AQ.tb(h:AQ H a S plan)(tb:Tb H Pt)(bt:But Pt H H'):AQ H' a S plan:=by
 obtain⟨kvs,h1,h2⟩:=h;refine⟨kvs,?_,λnm hn=>by obtain⟨l,e1,e2,e3⟩:=h2 nm hn;exact⟨l,e1,bt _ _ (Ly tb e2 λu z=>by cases z) e2,e3⟩⟩;rcases h1 with e | ⟨o,e⟩
 ·exact .inl (bt _ _ (Ly tb e λu z=>by cases z) e)
 ·exact .inr ⟨o,bt _ _ (Ly tb e λu z=>by cases z) e⟩
theorem fu(h:H a=some (.tup [.str "good"])):RD H (.tuple [.str "good"]) (.ref a):=by
 rw[RD];exact⟨a,_,rfl,h,by rw[RDs];exact⟨_,_,rfl,by rw[RD],by rw[RDs]⟩⟩
theorem gt:okD (.tuple [.str "good"])=true:=by decide +kernel
theorem ve:PyData.eqv (.tuple [.str "good"]) (.tuple [.str "good"])=true:=Nv _ (by decide +kernel)
theorem Kp.tb{dk:Dk}{x:Addr}(h:Kp dk H x v)(tb:Tb H Pt)(bt:But Pt H H'):Kp dk H' x v:=by
 obtain⟨dx,e⟩:=h;exact⟨dx,bt _ _ (Ly tb e λu z=>by cases z) e⟩
inductive A36 (x p Pt:Addr) (v y:V) (H:Hp) (i:Nat) (Z:St) (H':Hp):Prop | mk (o4 o5:Option V) (_:Z=[some (.ref x),some v,some y,some (.ref p),o4,o5]) (_:Tb H' Pt) (_:But Pt H H')
inductive Jd (dk:Dk) (Pt:Addr) (vs:List V) (H:Hp) (Q:VK) (E:XK):Prop | mk (x:Addr) (v v':V) (S:Sh) (sz:Int) (ys:List Str) (_:vs=[.ref x,v,.str (Str.join (one 10) (C3 S ys))]) (_:Kp dk H x v') (_:RD H S.d v') (_:RD H S.d v) (_:AF sz S) (_:0<sz) (_:sz<=30) (_:Jo (lv S) (Be S) ys) (_:Cc S) (_:Tb H Pt) (_:∀H',Q (.bl true) H')
theorem Oh(F:Fun K "_law_all_right" "_law_all_right" Ka f fd)(T:Txt mg)(De:Dsk K mg dk)(Zs9:Has P w K mg base "_law_plan_of" 15 ["_law_text", "_law_shop_here"] CN)(Ztj:ml P w K mg base dk.ft 11 ["self", "text"] (Jq dk Pt))(Zrx:Has P w K mg base "_law_judged" 15 ["_law_shop_here", "_law_plan"] CV)(Ztp:Has P w K mg base "_law_stocks" 4 ["_law_shop_here", "_law_plan", "_law_name"] BH)(Zri:Has P w K mg base "_law_least" 5 ["_law_shop_here", "_law_plan", "_law_name"] DL):B2 P w K mg base CX0 16 f fd ["_law_desk", "_law_shop_here", "_law_text"] (Jd dk Pt):=by
 refine F.go ["_law_desk", "_law_shop_here", "_law_text", "_law_plan", "_law_ware_here", "_law_due"] ?_ ?_ ?_;walk_at "f";obtain⟨x,v,v',S,sz,ys,rfl,kp,rs',rs,g,z0,z1,sb,ok,tb,k⟩:=h;have hu:=Au hr;have hu4:=Qr hr;have L:=Db g;have E:=Ee g;refine⟨_,(A2 (Af (i:=3) Nd rfl (Zzt rfl) (A7 Zs9 hr.z rfl (A3 (pv 2) (A3 (pv 1) A1))))
 (A2 (Ay (PW.pt (Fg (Ah Wp (pv 3) Fz (Aj _)) (Fg (Ah (Wo hu4) (A7 Zrx hr.z rfl (A3 (pv 1) (A3 (pv 3) A1))) (Cz (A3 Am A1)) (Aj _)) (En (Ah (Kv hu) (S5 Ztj (pv 0) De.c De.mt hr.z (A3 Am A1)) Am (Aj _)))))) (Aa (Ae Ft)) Ak)
 (A2 (Bk PassesOwn.never rfl (Ca (A8 hu (pv 1) A6 (λ_ _=>rfl))) (Ac (i:=4) Nd rfl (Zzt rfl))
 (A2 (Af (i:=5) Nd rfl (Zzt rfl) (Cf Zyr Zxx Zxw Hg Am (A3 (Bc (own:=["_law_left"]) (cap:=[]) rfl (Br rfl) (Aq (by decide)) (Cq (A7 Ztp hr.z rfl (A3 (pv 1) (A3 (pv 3) (A3 (A8 hu (pv 4) A6 (λ_ _=>rfl)) A1)))))
 (λ_ _ _ _ _ _=>⟨(Ac (i:=0) (FV rfl) rfl (Zzt rfl) (.inr rfl)),Bb,(As D8 rfl T.Zte Dz (A3 (pv 0) A1))⟩)) A1)))
 (Aa (Ay (PW.pt (Fg (C6 (C9 (A7 Zri hr.z rfl (A3 (pv 1) (A3 (pv 3) (A3 (A8 hu (pv 4) A6 (λ_ _=>rfl)) A1)))))) (En (Ah (Kv hu) (S5 Ztj (pv 0) De.c De.mt hr.z (A3 (At Sa Am (A8 hu (pv 4) A6 (λ_ _=>rfl))) A1)) (pv 5) (Aj _))))) (Aa (Ae Ft)) Ak))))
 (Aa (Ae Ft))))),?_⟩
 walk_at "rd";obtain⟨sa,sc,sd,ws,us,rfl,ha,hb,hc,rws,rus⟩:=Cb rs;obtain⟨dx,hx⟩:=kp;refine⟨.ref sa,S,sz,ys,rfl,rs,g,z0,z1,sb,λp H1 pl s1=>?_⟩;show if decide (V.ref p=V.non)=true then _ else _
 rw[FY (λz=>by cases FV z)];refine⟨.ref sa,p,S,LR S,sz,rfl,RD.same s1 _ _ rs,pl,g,z0,by lia,λt ys2 H2 ht sb2 ht2 s2=>?_⟩;rw[show Zr S (LR S) ys2=none from uj L.toLev E (λy hy=>Zzv.mp ((Ci sb2).1.mem_iff.mp hy)) ok ys2.length (Zzq _)] at ht2;refine⟨by decide,λq hq=>?_⟩;have u3:=A4 (o:=.tup [.str "good"]) hq;refine⟨_,fu (u3 _ _ ht2),_,fu A0,gt,gt,?_⟩;rw[ve,FY (by decide)];have s03:=(s1.trans s2).trans u3;have pl3:=pl.same (s2.trans u3);generalize upd H2 q (.tup [V.str "good"])=H3 at s03 pl3;have tb3:=tb.same s03;have lk:∀u:V,Zxb (Str.ofString "tell") [(Str.ofString "kept",u)]=none:=λu=>rfl;refine⟨dx,_,s03 _ _ hx,lk _,.inr ⟨x,v',S,sz,.late,rfl,⟨dx,s03 _ _ hx⟩,RD.same s03 _ _ rs',g,z0,z1,tb3,trivial,trivial,λy H4 an tb4 bt4=>?_⟩⟩;obtain rfl:y = "0" := an.mpr ok;refine⟨rfl,?_⟩;rw[FY (by decide +kernel)];have bt:=(E8 s03).trans bt4;have tp:∀{b:Addr} {xs:List V},H b=some (.tup xs)->∀{H':Hp},But Pt H H'->H' b=some (.tup xs):=λe _ z=>z _ _ (Ly tb e λu z=>by cases z) e;have hb4:=tp hb bt;refine⟨_,Ad (j:=0) (tp ha bt) rfl,sc,rfl,ws,hb4,?_⟩;refine Cp (D1 sc _) (A36 x p Pt (.ref sa) _ H4) ⟨_,_,rfl,tb4,λ_ _ _ e=>e⟩ (λi Z H' _ h=>by obtain⟨_,_,_,_,b⟩:=h;exact tp hb (bt.trans b)) (λi y Z H5 hi hy h=>?_) (λZ H5 h=>?_)
 ·obtain⟨o4,o5,rfl,tb5,bt5⟩:=h;obtain⟨w',ew,rw'⟩:=Ax rws hy;obtain⟨te,c1,c2,rfl,hte,_⟩:=Bt rw';have hw':=Zzu ew;have b05:=bt.trans bt5;have rs5:=RD.ku (Kk tb b05) _ _ (E2 S) rs;have pl5:=(pl3.tb tb3 bt4).tb tb4 bt5;have hte5:=tp hte b05;have s577:=Ys g z0 z1 hw';have d30:AB S<=30:=by rw[<- Eu L.toLev hw'];exact(Lb g z0 z1 hw').1
  have sl:(Ar S (LR S) w').length<=30:=by unfold Ar;rw[Al];exact d30
  walk_at "rd";refine⟨rfl,_,Ad (j:=0) hte5 rfl,.ref sa,p,S,LR S,w',sz,rfl,rs5,pl5,hw',g,z0,by lia,λa6 H6 _ ha6 s6=>⟨a6,rfl,_,ha6,?_⟩⟩;refine Bg (Dw a6 _) (Ag (by rw[Zzz];lia)) (λH' s'=>s' _ _ ha6) (((Ar S (LR S) w').map E9).map V.str) (by simp) (λj y H' hj hy s' N M hN=>?_) (λH7 s7 q7 hq7=>?_)
  ·rw[Zzy] at hy;cases en:(Ar S (LR S) w')[j]? with
   |none=>rw[en] at hy;cases hy
   |some n =>
   rw[en] at hy;have hy:V.int n=y:=Zzh hy;subst hy;walk_at "rd";exact⟨Ol (s577 n (Zzu en)),hN _ _ s' (by rw[Zzy,Zzy,en];rfl)⟩
  have u8:=(s6.trans s7).trans (A4 (o:=.lst (((Ar S (LR S) w').map E9).map V.str)) hq7);refine⟨q7,rfl,_,A0,577,λy hy=>?_,?_,_,Ad (j:=0) (u8 _ _ hte5) rfl,.ref sa,p,S,LR S,w',sz,rfl,RD.same u8 _ _ rs5,pl5.same u8,hw',g,z0,by lia,λi hi=>Km L.toLev E hw' hi,λi hi hp=>Kl L.toLev E hw' hi hp,λH9 s9=>⟨true,rfl,?_⟩⟩
  ·obtain⟨n,hn,rfl⟩:=Zzv.mp hy;exact(J9 (s577 n hn)).2.2.2
  ·rw[Zzz];show _*577+_*1<=_;lia
  rw[FY (by decide)];have s59:=u8.trans s9;have hx9:=s59 _ _ (b05 _ _ (Ly tb hx λu z=>by cases z) hx);refine⟨dx,_,hx9,lk _,_,Ad (j:=0) (s59 _ _ hte5) rfl,_,rfl,Zzd (Nat.add_le_add_left (Kx (g.ws.txt w' hw').1) _) (by decide),.inr ⟨x,v',S,sz,.stock w',rfl,⟨dx,hx9⟩,RD.same s59 _ _ (RD.ku (Kk tb b05) _ _ (E2 S) rs'),g,z0,z1,tb5.same s59,hw',ok,λy H10 an tb10 bt10=>?_⟩⟩;obtain rfl:y=W8 S w':=an;refine⟨rfl,?_⟩;rw[FY (by rw[FW (by rw[Tn];rfl)];decide)];exact⟨_,_,rfl,tb10,bt5.trans ((E8 s59).trans bt10)⟩
 ·obtain⟨o4,o5,rfl,_⟩:=h;walk_at "rd";exact k H5
end
set_option maxHeartbeats 4000000
section
variable {dk:Dk}
theorem A0q(g:AF 9 S){n:Int}(h0:0<=n)(h1:n<13):SD ⟨S.wares,S.wants.map (Nc n)⟩:=by
 have big:(10:Int)^32<10^41:=by decide +kernel
 have big2:(100:Int)<=10^42:=by decide +kernel
 refine⟨g.len,λw hw=>(g.ws.txt w hw).1,g.ws.nd,λw hw=>?_,g.ws.own,by rw[Zzz];exact g.wants.1,λu hu=>?_⟩
 ·have wb:=g.ws.wb w hw
  have c:=g.com w hw;exact⟨wb.lag,wb.gives,wb.floor,⟨wb.stock.1,by have:=wb.stock.2;lia⟩,wb.parts,wb.amts,wb.nds,c.1,λp hp=>⟨(c.2 p hp).1,(c.2 p hp).2.1,by have:=(c.2 p hp).2.2;lia⟩⟩
 ·obtain⟨y,hy,rfl⟩:=Zzv.mp hu;have q:=g.wants.2 y hy;exact⟨q.1,⟨by show 0<=y.2.1+n;lia,by show y.2.1+n<=400;lia⟩,q.2.2.1,by show y.2.2<_;lia⟩
theorem iz{r t:List Nat}:∀{l s:List Nat},c∉l->c∉s->l++c::r=s++c::t->l=s
 |[],[],_,_,_=>rfl
 |[],y::s,_,h,e=>absurd (by rw[(Zwt e).1];exact Zzm) h
 |x::l,[],h,_,e=>absurd (by rw[<- (Zwt e).1];exact Zzm) h
 |x::l,y::s,h1,h2,e=>by rw[(Zwt e).1,iz (λz=>h1 (Zzl _ z)) (λz=>h2 (Zzl _ z)) (Zwt e).2]
theorem A2o(y:Str):(Md y none (some 6)).cps.toList=y.cps.toList.take 6:=by
 have l:y.cps.toList.length=y.length:=Zxq;unfold Md;show (y.cps.toList.drop 0).take (min 6 y.length - 0)=_;rw[List.drop_zero,<- l];rcases Nat.le_total 6 y.cps.toList.length with h | h
 ·rw[Nat.min_eq_left h]
 ·rw[Nat.min_eq_right h,Nat.sub_zero,Zzf,Zwq h]
theorem li(S:Sh)(w:Wr)(d:Nat):Md (bd S w d) none (some 6) = "short " := by
 have e:(Md (bd S w d) none (some 6)).cps.toList=("short " : Str).cps.toList:=by
  rw[A2o];show (("short" ++ one 32++Str.join (one 32) [w.name,E9 d,E9 ((LR S w.name).getD d 0)]:Str).cps.toList).take 6=_;rw[Zx8];rfl
 have e2:=congrArg Zy9 e;rw[Zwu,Zwu] at e2;exact congrArg Str.mk e2
theorem vk(hn:∀w∈S.wares,Bp w.name=true/\w.name ≠ "short")(hy:∀y∈ys,∃w∈S.wares,w.name=y):Md (Str.join (one 10) (C3 S ys)) none (some 6) ≠ "short " := λz=>by
 have z:=congrArg (λx:Str=>x.cps.toList) z;rw[A2o] at z;unfold C3 at z;cases e:ys.filter (Ei S) with
 |nil =>
  rw[e] at z;have z:[]=("short " : Str).cps.toList:=z;exact absurd z (by decide +kernel)
 |cons nm r =>
  rw[e] at z;have hm:nm∈ys.filter (Ei S):=by rw[e];exact Zzm
  obtain⟨h1,h2⟩:=Zyf.mp hm;obtain⟨w,hw,rfl⟩:=hy nm h1;obtain⟨t,et⟩:∃t,(Str.join (one 10) ((w.name::r).map (Kz S))).cps.toList=w.name.cps.toList++32::t:=by
   have l1:∃t,(Kz S w.name).cps.toList=w.name.cps.toList++32::t:=by
    unfold Kz;unfold Ei at h2;cases e2:Eg S w.name with
    |nil=>rw[e2] at h2;cases h2
    |cons a b =>
     show ∃t,(w.name++one 32++Str.join (one 32) (a::b)).cps.toList=_;rw[Zx8,Zx8,Zwk];exact⟨_,rfl⟩
   obtain⟨t,et⟩:=l1;cases r with
   |nil=>exact⟨t,et⟩
   |cons a b =>
    show ∃t,(Kz S w.name++one 10++Str.join (one 10) ((a::b).map (Kz S))).cps.toList=_;rw[Zx8,Zx8,et,Zwk,Zwk];exact⟨_,rfl⟩
  rw[et] at z;have z:(w.name.cps.toList++32::t).take 6=("short " : Str).cps.toList:=z;have s2:=Zwm 6 (w.name.cps.toList++32::t);rw[z] at s2;have s3:w.name.cps.toList=("short" : Str).cps.toList:=iz (Xf (hn w hw).1 (by decide)) (by decide +kernel) (s2.symm.trans (show _=("short" : Str).cps.toList++32::_ from rfl));have s4:=congrArg Zy9 s3;rw[Zwu,Zwu] at s4;exact(hn w hw).2 (congrArg Str.mk s4)
theorem pk{sz:Int}(g:AF sz S)(z0:0<sz)(z1:sz<=30){y:Str}(h:Ti S y):y.length<=1000000:=by
 obtain⟨ys,i,sb,_,⟨_,rfl⟩ | ⟨w,d,hw,_,hed,rfl⟩⟩:=h
 ·have ll:(C3 S ys).length<=12:=by
   unfold C3;rw[Zzz];refine Zzd (Zyh _ _) ?_;rw[(Ci sb).1.length_eq,Cn];exact g.len.2
  have:=Ij (sep:=one 10) (B:=40000) (xs:=C3 S ys) λy hy=>by
   obtain⟨nm,hnm,rfl⟩:=Zzv.mp hy;obtain⟨w,hw,rfl⟩:=Zzv.mp ((Ci sb).1.mem_iff.mp (Zyf.mp hnm).1);exact Nn g z0 z1 hw
  rw[show (one 10).length=1 from rfl] at this;lia
 ·have:=Ij (sep:=one 32) (B:=1200) (xs:=(Gw S w d).map AG) λy hy=>by
   obtain⟨kk,hk,rfl⟩:=Zzv.mp hy;exact Rj (Rk g z0 z1 hw hed kk hk)
  exact Zzd this (by show 4*1200+4*1<=1000000;decide)
theorem tb_x{x:Addr}{C:Addr}{fs:List (Str×V)}(t:Tb H Pt)(e:H x=some (.ins C dx fs))(k:∀b o,b≠x->H b=some o->H' b=some o):Tb H' Pt:=by
 rcases t with e1 | ⟨c,e1,e2⟩
 ·exact .inl (k _ _ (λz=>by rw[z,e] at e1;cases e1) e1)
 ·exact .inr ⟨c,k _ _ (λz=>by rw[z,e] at e1;cases e1) e1,k _ _ (λz=>by rw[z,e] at e2;cases e2) e2⟩
inductive W9 (K:Zzw) (Pt:Addr) (vs:List V) (H:Hp) (Q:VK) (E:XK):Prop | mk (a:Addr) (ns:List Int) (_:vs=[.ref a]) (_:SqL K H a (ns.map V.int)) (_:ns.length<=63) (_:Tb H Pt) (_:∀H',Q (.bl true) H')
theorem A12(F:Fun K "law" "law" Uu f fd)(T:Txt mg)(De:Dsk K mg dk)(Zrd:Has P w K mg base "_law_shop" 4 ["_law_script", "_law_last"] (P8 K))(Ztn:Has P w K mg base "_law_cell_at" 1 ["_law_script", "_law_k"] (Ib K))(Zrh:Has P w K mg base "_law_lines" 1 ["_law_shop_here"] DM)(Zrw:ml P w K mg base dk.fi 1 ["self"] (M2 dk))(Ztj:ml P w K mg base dk.ft 11 ["self", "text"] (Jq dk Pt))(Ztl:Has P w K mg base "planned" 7 ["shop"] (Ia Pt))(Zsx:Has P w K mg base "read_shop" 9 ["text"] BZ)(Zsn:Has P w K mg base "_law_all_right" 16 ["_law_desk", "_law_shop_here", "_law_text"] (Jd dk Pt)):B2 P w K mg base CX0 17 f fd ["_law_script"] (W9 K Pt):=by
 refine F.go ["_law_script", "_law_shop_here", "_law_off", "_law_first", "_law_others", "_law_lines_here", "_law_text", "_law_desk", "_law_found", "_law_told", "_law_due"] ?_ ?_ ?_;walk_at "f";obtain⟨a,ns,rfl,hS,hlen,tb,k⟩:=h;have hu:=Au hr;refine⟨_,(A2 (Af (i:=1) Nd rfl (Zzt rfl) (A7 Zrd hr.z rfl (A3 (pv 0) (A3 A6 A1))))
 (A2 (Af (i:=2) Nd rfl (Zwd rfl) (At Kw (At Ie (A7 Ztn hr.z rfl (A3 (pv 0) (A3 A6 A1))) A6) A6))
 (A2 (Af (i:=1) Nd rfl (Zzt rfl) (Cz (A3 (A8 hu (pv 1) A6 (λ_ _=>rfl)) (A3 (As Bv rfl T.Ztk D2 (A3 (Bc (own:=["_law_name", "_law_day", "_law_amount_here"]) (cap:=[2]) rfl (Br rfl) Vf (Ca (A8 hu (pv 1) A6 (λ_ _=>rfl)))
 (λ_ _ _ _ _ _=>⟨(Do (n:=3) rfl (An (Ac (i:=0) (FV rfl) rfl (Zzt rfl) (.inr rfl)) (An (Ac (i:=1) (FV rfl) rfl (Zzt rfl) (.inr rfl)) (An (Ac (i:=2) (FV rfl) rfl (Zzt rfl) (.inr rfl)) Cj)))),Bb,(Cz (A3 (pv 0) (A3 (At C7 (pv 1) (pv 3)) (A3 (pv 2) A1))))⟩)) A1)) A1))))
 (A2 (Eo (A7 Zrh hr.z rfl (A3 (pv 1) A1)) (Do (n:=2) rfl (An (Ac (i:=3) Nd rfl (Zzt rfl)) (An (Ac (i:=4) Nd rfl (Zzt rfl)) Cj))))
 (A2 (Af (i:=5) Nd rfl (Zzt rfl) (A8 hu (Bh (A3 (At Ig (pv 3) (pv 4)) (A3 (At Ig (pv 4) (pv 3)) A1))) (At Kw (At Ie (A7 Ztn hr.z rfl (A3 (pv 0) (A3 A6 A1))) A6) A6) (λ_ _=>rfl)))
 (A2 (Af (i:=6) Nd rfl (Zzt rfl) (Cf Zyr Zxx Zxw Hg Am (A3 (pv 5) A1)))
 (A2 (Af (i:=7) Nd rfl (Zzt rfl) (A0y Zrw De.me hr.z rfl De.md))
 (A2 (Ay (Ah (Kv hu) (S5 Ztj (pv 7) De.c De.mt hr.z (A3 (At Sa Am (pv 6)) A1)) Am (Aj _)) (Aa (Ae Ft)) Ak)
 (A2 (Af (i:=8) Nd rfl (Zzt rfl) (S5 Ztj (pv 7) De.c De.mt hr.z (A3 Am A1)))
 (A2 (Ay (C6 (C9 (Ai Dr rfl T.Zti Cw (A3 (pv 8) (A3 (Iu (v:=.ty "str") rfl T.Zte Dz rfl) A1))))) (Aa (Ae Ft)) Ak)
 (A2 (Ay (Ah (Bl hu) (Co fj (pv 8) Di (Dh A6)) Am (Aj _)) (A2 (Af (i:=9) Nd rfl (Zzt rfl) (A7 Ztl hr.z rfl (A3 (A7 Zsx hr.z rfl (A3 (pv 6) A1)) A1)))
 (A2 (Af (i:=10) Nd rfl (Zzt rfl) (Cf Zyr Zxx Zxw Hg Am (A3 (Bc (own:=["_law_word"]) (cap:=[]) rfl (Br rfl) (Aq (by decide)) (Cq (At Ig (Bh (A3 (A8 hu (pv 9) A6 (λ_ _=>rfl)) A1)) (As Tc rfl T.Zqw Xv (A3 (Co fh (pv 9) (Dh A6) Di) A1))))
 (λ_ _ _ _ _ _=>⟨(Ac (i:=0) (FV rfl) rfl (Zzt rfl) (.inr rfl)),Bb,(As Vt rfl T.Zte Dz (A3 (pv 0) A1))⟩)) A1)))
 (Aa (Ae (Ep (Dj (Bl hu) (A8 hu (pv 9) A6 (λ_ _=>rfl)) Am (Aj _)) (Ep (Dj (Bl hu) (pv 8) (pv 10) (Aj _)) (Gy (Dj (Kv hu) (S5 Ztj (pv 7) De.c De.mt hr.z (A3 Am A1)) Am (Aj _))))))))) Ak)
 (Aa (Ae (A7 Zsn hr.z rfl (A3 (pv 7) (A3 (pv 1) (A3 (pv 8) A1))))))))))))))))),?_⟩
 walk_at "rd";refine⟨a,ns,63,rfl,hS,hlen,by decide,by decide,λv S H1 rs g sm1=>?_⟩;refine⟨a,ns,0,rfl,sm1.seq hS,hlen,by decide,λc c0 c1=>⟨c,rfl,by decide,by decide +kernel,by decide,?_⟩⟩;have o0:0<=c / 2 % 13:=by lia
 have o1:c / 2 % 13<13:=by lia
 generalize c / 2 % 13=off at o0 o1;have tb1:=tb.same sm1;obtain⟨sa,sb,sc,ws,us,ev,ha,hb,hc,rws,rus⟩:=Cb rs;have hlu:=Aw rus;have hwn:=g.wants.1;refine⟨_,by rw[ev];exact Ad (j:=0) ha rfl,?_⟩;refine⟨_,by rw[ev];exact Ad (j:=1) ha rfl,sc,rfl,us,hc,?_⟩;refine Et (D1 sc _) (Ag (by lia)) (A1v S off H1) ⟨rfl,RDs.nil,AA.refl _⟩ (λi acc H' _ h=>h.2.2 _ _ hc) (λi acc H' h=>Zwo h.1) (λi x acc H' hi hx h=>?_) (λacc H3 h p hp=>?_)
 ·obtain⟨h1,h2,h3⟩:=h;obtain⟨y,hy,ry⟩:=Ax rus hx;obtain⟨e,rfl,he⟩:=G3 ry;refine gt3 (h3 _ _ he) ?_;walk_at "rd";refine⟨by decide,λt ht=>?_⟩;have s1:=A4 (o:=.tup [.str y.1,.int (y.2.1+off),.int y.2.2]) ht;refine⟨by simp[h1],?_,h3.trans s1⟩;rw[Zzb,hy,Zzo];refine RDs.app (RDs.same s1 _ _ h2) (RDs.one ?_);exact RD.tup_mk A0 (RDs.cons RD.str_mk (RDs.cons RD.int_mk (RDs.one RD.int_mk)))
 obtain⟨h1,h2,h3⟩:=h;rw[hlu,Zzf] at h2;have u1:=A4 (o:=.lst acc) hp;refine⟨p,rfl,acc,.inl ⟨A0,λl hl=>⟨by decide,λq hq=>?_⟩⟩⟩;have u2:=u1.trans (A4 (o:=.tup acc) hl);have hl3:upd (upd H3 p (.lst acc)) l (.tup acc) l=some (.tup acc):=A0;have u3:=A4 (o:=.tup [.ref sb,.ref l]) hq;have sm4:=(h3.trans u2).trans u3;have rs4:RD (upd (upd (upd H3 p (.lst acc)) l (.tup acc)) q (.tup [.ref sb,.ref l])) (Sh.d ⟨S.wares,S.wants.map (Nc off)⟩) (.ref q):=by
  unfold Sh.d;refine RD.tup_mk A0 (RDs.cons (RD.tup_mk (sm4 _ _ hb) (RDs.same sm4 _ _ rws)) (RDs.one (RD.tup_mk (xs:=acc) (u3 _ _ hl3) ?_)));rw[Zz1];exact RDs.same (u2.trans u3) _ _ h2
 generalize upd (upd (upd H3 p (.lst acc)) l (.tup acc)) q (.tup [.ref sb,.ref l])=H4 at sm4 rs4;have g2:=g.off (n:=off) o0;have sd:=A0q g o0 o1;have hS4:=(sm1.trans sm4).seq hS;have tb4:=tb1.same sm4;generalize (⟨S.wares,S.wants.map (Nc off)⟩:Sh)=S2 at rs4 g2 sd;generalize ez:9+off=sz at g2;have z0:0<sz:=by lia
 have z1:sz<=30:=by lia
 refine⟨.ref q,S2,rfl,rs4,sd,λt5 p5 q5 H5 ht5 hp5 hq5 s5=>gt2 ht5 ?_⟩;have sl1:=(V1 sd (.inl rfl)).len;rw[Zyv,Zzz] at sl1;have rs5:=RD.same s5 _ _ rs4;walk_at "rd";refine⟨_,hp5,_,hq5,Ag (by simp only[Zzz];lia),λp6 hp6=>?_⟩;have u6:=A4 (o:=.lst ((S2.wares.map AH).map txv++(Da S2).map txv)) hp6;refine⟨_,u6 _ _ hq5,_,u6 _ _ hp5,Ag (by simp only[Zzz];lia),λp7 hp7=>⟨by decide,λp8 hp8=>?_⟩⟩;have u7:=A4 (o:=.lst ((Da S2).map txv++(S2.wares.map AH).map txv)) hp7;have u8:=A4 (o:=.lst [.ref p6,.ref p7]) hp8;have s58:=(u6.trans u7).trans u8;have h68:=(u7.trans u8) _ _ (show upd H5 p6 _ p6=_ from A0);have h78:=u8 _ _ (show upd _ p7 _ p7=_ from A0);have h88:upd (upd (upd H5 p6 (.lst ((S2.wares.map AH).map txv++(Da S2).map txv))) p7 (.lst ((Da S2).map txv++(S2.wares.map AH).map txv))) p8 (.lst [.ref p6,.ref p7]) p8=_:=A0;generalize upd (upd (upd H5 p6 (.lst ((S2.wares.map AH).map txv++(Da S2).map txv))) p7 (.lst ((Da S2).map txv++(S2.wares.map AH).map txv))) p8 (.lst [.ref p6,.ref p7])=H8 at s58 h68 h78 h88;rw[<- Zzo] at h68 h78;refine⟨a,ns,0,rfl,(s5.trans s58).seq hS4,hlen,by decide,λc2 d0 d1=>⟨c2,rfl,by decide,by decide +kernel,by decide,?_⟩⟩;obtain⟨rr,pr,mm,it,hpr⟩:∃rr pr,Rs S2 rr/\Jp H8 (.ref p8) (.int (c2 / 26 % 2)) (.ref pr)/\H8 pr=some (.lst (rr.map txv)):=by
  rcases(show c2 / 26 % 2=0\/c2 / 26 % 2=1 by lia) with z | z<;>rw[z]
  ·exact⟨_,p6,.inl rfl,Bq (j:=0) h88 rfl,h68⟩
  ·exact⟨_,p7,.inr rfl,Bq (j:=1) h88 rfl,h78⟩
 have sr:=V1 sd mm;have sl:=sr.len;have n10:Str.ofString "\n" = one 10:=by decide +kernel
 have rs8:=RD.same s58 _ _ rs5;have tb8:=tb4.same (s5.trans s58);refine⟨_,it,rfl,pr,rfl,rr.map (λr=>Lu (r3 r)),by rw[Zz1];exact hpr,400,λy hy=>?_,?_,?_⟩
 ·obtain⟨r,hr',rfl⟩:=Zzv.mp hy;exact Wc (sr.ok r hr')
 ·rw[n10,Zzz];show _*400+_*1<=16777216;lia
 rw[n10,show Str.join (one 10) (rr.map λr=>Lu (r3 r))=Ob rr from rfl];intro x dx nx ndx nxd;refine⟨x,dx,rfl,A0,rfl,?_⟩;have s89:AA H8 (upd (upd (upd H8 dx (.own x)) x (.ins dk.C dx [])) x (.ins dk.C dx [("kept",.non)])):=λb o e=>by
  rw[Ab (A5 e nx),Ab (A5 e nx),Ab (A5 e ndx)];exact e
 have hx9:upd (upd (upd H8 dx (.own x)) x (.ins dk.C dx [])) x (.ins dk.C dx [("kept",.non)]) x=_:=A0;generalize upd (upd (upd H8 dx (.own x)) x (.ins dk.C dx [])) x (.ins dk.C dx [("kept",.non)])=H9 at s89 hx9;have lk:∀u:V,Zxb (Str.ofString "tell") [(Str.ofString "kept",u)]=none:=λu=>rfl;have tl:=R9 sr.ok;refine⟨dx,_,hx9,lk _,by show 5+_<=16777216;lia,.inl ⟨x,rr,S2,rfl,⟨dx,hx9⟩,sr,g2.ok,g2.no,λv9 H10 kp10 rv10 fr=>⟨rfl,?_⟩⟩⟩;rw[FY (by decide +kernel)];have tb10:=tb_x (tb8.same s89) hx9 fr;have rs10:RD H10 S2.d (.ref q):=RD.ku (λb xs hb=>fr _ _ (λz=>by rw[z,hx9] at hb;cases hb) hb) _ _ (E2 S2) (RD.same s89 _ _ rs8);obtain⟨dx2,hx10⟩:=kp10;refine⟨dx2,_,hx10,lk _,.inr ⟨x,v9,S2,sz,.plan,rfl,⟨dx2,hx10⟩,rv10,g2,z0,z1,tb10,trivial,trivial,λy H11 said tb11 bt11=>⟨_,rfl,?_⟩⟩⟩;rw[FY (by decide)];have kp11:Kp dk H11 x v9:=Kp.tb ⟨dx2,hx10⟩ tb10 bt11;have rv11:=RD.ku (Kk tb10 bt11) _ _ (E2 S2) rv10;refine⟨y,rfl,Zzd (pk g2 z0 z1 said) (by decide),rfl,?_⟩;obtain⟨ys,i,sy,hne,hcase⟩:=said;have so:=(Ci sy).1;rcases hcase with ⟨hi,rfl⟩ | ⟨wr,d,hwr,hi,hed,rfl⟩
 ·rw[FY λz=>vk g2.ws.txt (λy hy=>Zzv.mp (so.mem_iff.mp hy)) (FV z)];exact⟨x,.ref q,v9,S2,sz,ys,rfl,kp11,rv11,RD.ku (Kk tb10 bt11) _ _ (E2 S2) rs10,g2,z0,z1,sy,λw hw=>hne w hw (by rw[hi,Zzf];exact so.mem_iff.mpr (Zzv.mpr ⟨w,hw,rfl⟩)),tb11,k⟩
 rw[FZ (FW (li S2 wr d))];refine⟨rr,S2,rfl,sr,λt12 H12 rt s12=>?_⟩;refine⟨.ref t12,S2,sz,rfl,rt,g2,z0,by lia,tb11.same s12,λt p13 ys2 i2 H13 _ _ _ sy2 _ hne2 tb13 bt13 hcase2=>?_⟩;obtain rfl:=Od sy2 sy;rcases hcase2 with ⟨hi2,_⟩ | ⟨wr2,d2,hwr2,hi2,hed2,h13⟩
 ·rw[hne2 wr hwr (by rw[hi2,Zzf];exact Zzu hi)] at hed;cases hed
 obtain rfl:i2=i:=by
  rcases Zv2 i2 i with z | z | z
  ·rw[hne wr2 hwr2 (Zzu (i:=i2) (by rw[Zxd,FZ z];exact hi2))] at hed2;cases hed2
  ·exact z
  ·rw[hne2 wr hwr (Zzu (i:=i) (by rw[Zxd,FZ z];exact hi))] at hed;cases hed
 obtain rfl:=Y7 g2.ws.nd hwr2 hwr (Zzh (hi2.symm.trans hi));obtain rfl:d2=d:=Zzh (hed2.symm.trans hed);refine⟨rfl,_,Ad (j:=0) h13 rfl,by decide,λp14 hp14=>⟨t,rfl,_,A4 hp14 _ _ h13,λp15 H15 hp15 s15 f15=>?_⟩⟩;have s13:=(A4 (o:=.lst [.str "short"]) hp14).trans s15;have h14:=s15 _ _ (show upd H13 p14 (.lst [.str "short"]) p14=_ from A0);refine⟨_,.inr hp15,λp16 hp16=>⟨_,A4 hp16 _ _ h14,_,A0,(by show 4<=sizeLine;decide),λp17 hp17=>⟨_,A0,?_⟩⟩⟩;show W4 (ItL p17 ((Gw S2 wr2 d2).map kV)) _ _ _ _ _ _ (upd _ p17 (.lst ((Gw S2 wr2 d2).map kV))) _;have s17:=s13.trans ((A4 (o:=.lst (E7 [.str "short",.ref p13,.str wr2.name,.int d2,.int ((LR S2 wr2.name).getD d2 0)] (some 2) none)) hp16).trans (A4 (o:=.lst ((Gw S2 wr2 d2).map kV)) hp17));have h17:upd (upd H15 p16 (.lst (E7 [.str "short",.ref p13,.str wr2.name,.int d2,.int ((LR S2 wr2.name).getD d2 0)] (some 2) none))) p17 (.lst ((Gw S2 wr2 d2).map kV)) p17=_:=A0;generalize upd (upd H15 p16 (.lst (E7 [.str "short",.ref p13,.str wr2.name,.int d2,.int ((LR S2 wr2.name).getD d2 0)] (some 2) none))) p17 (.lst ((Gw S2 wr2 d2).map kV))=H17 at s17 h17;have sok:=Rk g2 z0 z1 hwr hed;refine Bg (Dw p17 _) (by show 4<=sizeLine;decide) (λH' s'=>s' _ _ h17) (((Gw S2 wr2 d2).map AG).map V.str) rfl (λj y H' hj hy s' N M hN=>?_) (λH18 s18 q18 hq18=>?_)
 ·rw[Zzy] at hy;cases en:(Gw S2 wr2 d2)[j]? with
  |none=>rw[en] at hy;cases hy
  |some kk =>
  rw[en] at hy;have hy:kV kk=y:=Zzh hy;subst hy;walk_at "rd";have hN:=hN (.str (AG kk)) H' s' (by rw[Zzy,Zzy,en];rfl);have okk:=sok _ (Zzu en);cases kk with
  |inl n=>exact .inl ⟨n,rfl,Ol okk,hN⟩
  |inr x=>exact .inr ⟨x,rfl,hN⟩
 have s19:=(s17.trans s18).trans (A4 (o:=.lst (((Gw S2 wr2 d2).map AG).map V.str)) hq18);refine⟨q18,rfl,_,A0,1200,λy hy=>?_,by show 4*1200+4*1<=_;decide,_,Ad (j:=0) (s19 _ _ h13) rfl,rfl,?_⟩
 ·obtain⟨kk,hk,rfl⟩:=Zzv.mp hy;exact Rj (sok kk hk)
 rw[FZ (by decide)];refine⟨rfl,?_⟩;rw[FZ (by rw[Tn];exact FW rfl)];have bt:=(E8 (st:=Pt) s12).trans (bt13.trans (E8 s19));obtain⟨dx3,hx3⟩:=Kp.tb kp11 tb11 bt;refine⟨dx3,_,hx3,lk _,.inr ⟨x,v9,S2,sz,.late,rfl,⟨dx3,hx3⟩,RD.ku (Kk tb11 bt) _ _ (E2 S2) rv11,g2,z0,z1,tb13.same s19,trivial,trivial,λy H20 an _ _=>⟨rfl,?_⟩⟩⟩;rw[FX λz=>by have e:=an.mp (V.str.inj z) wr2 hwr;rw[e] at hed;cases hed];exact k H20
end
abbrev aI(K:Zzw)(x:Str)(f:Addr):Prop:=Zyl K mainGlobals x=some (some (.ref f))
abbrev lI(K:Zzw)(x:Str)(s:Stmt)(f:Addr)(o:Value)(d:Option Addr)(k c p:Value)(n:Option Addr)(v t:Value)(l:Array (Option Value)):Prop:=K.lookup f=some ⟨o,d,.func (Zxh x x (Fp s) (E6 s) (C2 s) .none k c p n v t),l⟩
abbrev cI(K:Zzw)(v:Value)(x:Str):Prop:=Zua K v x=true
abbrev kI(K:Zzw)(f:Addr):Prop:=Zx0 K (.ref f)=true
abbrev zI(K:Zzw)(x:Str):Prop:=Zyl K mainGlobals x=some none
inductive Dm (P:Program) (w:World) (base:Heap) (K:Zzw) (mg:Str->Option Value):Prop | mk (h:Heap) (_:K.In h) (_:h.Ns mainGlobals mg)
theorem A2g{k:Nat}{st:Stmt}(D:Dm P w base K mg)(a:aI K x f)(F:Fun K x x st f fd)(o:B2 P w K mg base CX0 k f fd ps sp)
  (h:∀(kV doc pm:Value) (an:Option Addr) (cdv ct:Value) (us:List Value),us.length=ps.length->bindArgs (Zxh x x (Fp st) (E6 st) (C2 st) .none kV doc pm an cdv ct) ⟨us,[]⟩=pure (ps.zip us)):Has P w K mg base x k ps sp:=by obtain⟨_,X,G⟩:=D;exact⟨f,fd,Zyw X G a,F.2,F.binds h,o⟩
theorem A2f{k:Nat}{st:Stmt}(F:Fun K x q st f fd)(o:B2 P w K mg base CX0 k f fd ps sp)(h:∀(kV doc pm:Value) (an:Option Addr) (cdv ct:Value) (us:List Value),us.length=ps.length->bindArgs (Zxh x q (Fp st) (E6 st) (C2 st) .none kV doc pm an cdv ct) ⟨us,[]⟩=pure (ps.zip us)):ml P w K mg base f k ps sp:=⟨fd,F.binds h,o⟩
inductive QI (K:Zzw) (x:Str) (s:Stmt):Prop | mk (f:Addr) (fd:FuncData) (_:aI K x f) (_:Fun K x x s f fd)
theorem q_mk{s:Stmt}{o:Value}{d:Option Addr}{k c p:Value}{n:Option Addr}{v t:Value}{l:Array (Option Value)}(a:aI K x f)(b:lI K x s f o d k c p n v t l)(e:cI K v x)(g:kI K f):QI K x s:=⟨f,_,a,Oo b e g⟩
theorem Bo{k:Nat}{st:Stmt}(D:Dm P w base K mg)(q:QI K x st)(o:∀{f:Addr} {fd:FuncData},Fun K x x st f fd->B2 P w K mg base CX0 k f fd ps sp)(h:∀(kV doc pm:Value) (an:Option Addr) (cdv ct:Value) (us:List Value),us.length=ps.length->bindArgs (Zxh x x (Fp st) (E6 st) (C2 st) .none kV doc pm an cdv ct) ⟨us,[]⟩=pure (ps.zip us)):Has P w K mg base x k ps sp:=by
 obtain⟨f,fd,a,F⟩:=q;exact A2g D a F (o F) h
theorem EB(h:∀(a:Value) (r:List Value),r.length=n->C (a::r)):∀us:List Value,us.length=n+1->C us:=λus e=>by
 cases us with
 |nil=>cases e
 |cons a r=>exact h a r (Nat.succ.inj e)
theorem AE(h:∀a:Value,C [a]):∀us:List Value,us.length=1->C us:=EB λa r e=>by
 cases r with
 |nil=>exact h a
 |cons=>cases e
theorem AR(h:∀a b:Value,C [a,b]):∀us:List Value,us.length=2->C us:=EB λa r e=>AE (C:=λr=>C (a::r)) (h a) r e
theorem AY(h:∀a b c:Value,C [a,b,c]):∀us:List Value,us.length=3->C us:=EB λa r e=>AR (C:=λr=>C (a::r)) (h a) r e
theorem len4(h:∀a b c d:Value,C [a,b,c,d]):∀us:List Value,us.length=4->C us:=EB λa r e=>AY (C:=λr=>C (a::r)) (h a) r e
theorem all_mk{l:PySem.W.OpenLaw}{fa:Addr}(X:K.In h)(G:h.Ns mainGlobals mg)(hfa:mg "law" = some (.ref fa))
  {f9 f44 f66 f70 f80:Addr} {d9 n9 d44 n44 d66 n66 d70 n70 d80 n80:Option Addr} {s9 s44 s66 s70 s80:Array (Option Value)} {o9 v9 e9 p9 g9 t9 o44 v44 e44 p44 g44 t44 o66 v66 e66 p66 g66 t66 o70 v70 e70 p70 g70 t70 o80 v80 e80 p80 g80 t80:Value} {t_COMING:Tok} {t_FIGURES:Tok} {t_FLOOR:Tok} {t_GIVES:Tok} {t_LAG:Tok} {t_LAST_DAY:Tok} {t_LETTERS:Tok} {t_MEMBERS:Tok} {t_MOST_COMING:Tok} {t_MOST_FIGURES:Tok} {t_MOST_LAG:Tok} {t_MOST_LETTERS:Tok} {t_MOST_PARTS:Tok} {t_MOST_WANTS:Tok} {t_MOST_WARES:Tok} {t_NAME:Tok} {t_PARTS:Tok} {t_SHOP_ROW:Tok} {t_STOCK:Tok} {t_WANT_AMOUNT:Tok} {t_WANT_DAY:Tok} {t_WANT_NAME:Tok} {Ra R1 R2 R3 R4:Addr} {Re Rn1 Rn2 Rn3 Rn4:Nat} {Rt1 Rt2 Rt3 Rt4 Rt1_0 Rt1_1 Rt1_2 Rt1_3 Rt1_4 Rt2_0 Rt2_1 Rt2_2 Rt3_0 Rt3_1 Rt3_2 Rt4_0 Rt4_1 Rt4_2:Tok} {Fa F1 F2 F3 F4 F5 F6 F7 F8:Addr} {Fe Fn3 Fn4 Fn6:Nat} {Ft1 Ft2 Ft3 Ft4 Ft5 Ft6 Ft7 Ft8 Ft6_0:Tok} {Dc:Addr} {ct Pt:Addr} {odc:Option Addr} {vsc:Array Value} {slc:Array (Option Value)}
  (q1:QI K "_law_cell_at" M6)
  (q2:QI K "_law_drawn" Pj)
  (q3:QI K "_law_next" Rq)
  (q4:QI K "_law_wares" Pe)
  (q5:QI K "_law_amount" My)
  (q6:QI K "_law_filled" Mx)
  (q7:QI K "_law_shop" Rp)
  (q8:QI K "_law_lines" Ph)
  (A9:Zy0 K (.ref Dc) "__init__" = some (some (.ref f9))) (I9:Zuq K (.ref f9)=true) (L9:K.lookup f9=some ⟨o9,d9,.func (Zxh "__init__" "Desk.__init__" (Fp Ff) (E6 Ff) (C2 Ff) .none v9 e9 p9 n9 g9 t9),s9⟩) (c9:cI K g9 "Desk.__init__") (k9:kI K f9)
  (q10:QI K "is_name" Uz)
  (q11:QI K "read_name" Pb)
  (q12:QI K "is_number" Pl)
  (q13:QI K "read_number" M4)
  (q14:QI K "read_words" Mr)
  (q15:QI K "read_row" Rl)
  (q16:QI K "rows_of" Uq)
  (q17:QI K "written_shop" Kn)
  (q18:QI K "names_of" Rm)
  (q19:QI K "is_tuple" Ru)
  (q20:QI K "is_whole" Rt)
  (q21:QI K "is_from" V0)
  (q22:QI K "is_between" Mz)
  (q23:QI K "is_want" Uw)
  (q24:QI K "are_wants" Pr)
  (q25:QI K "is_part" Uy)
  (q26:QI K "are_unlike" N6)
  (q27:QI K "are_parts" Ps)
  (q28:QI K "is_arrival" N0)
  (q29:QI K "are_arrivals" Kt)
  (q30:QI K "is_ware" Uv)
  (q31:QI K "are_wares" Pq)
  (q32:QI K "part_names" Ms)
  (q33:QI K "needed_names" Kq)
  (q34:QI K "is_shop" Ux)
  (q35:QI K "read_shop" Pa)
  (q36:QI K "without_ends" Ko)
  (q37:QI K "endless_parts" Kb)
  (q38:QI K "ring" px)
  (q39:QI K "check_rings" M8)
  (q40:QI K "read_ringless" K6)
  (q41:QI K "ware_of" Up)
  (q42:QI K "check_told" N5)
  (q43:QI K "levels" Yy)
  (a44:aI K "worked" f44) (l44:lI K "worked" Mo f44 o44 d44 v44 e44 p44 n44 g44 t44 s44) (c44:cI K g44 "worked") (k44:kI K f44)
  (q45:QI K "lots_for" Rn)
  (q46:QI K "least_lots" Mt)
  (q47:QI K "count_days" N1)
  (q48:QI K "wants_row" P9)
  (q49:QI K "begun_row" Pp)
  (q50:QI K "needs_row" Pc)
  (q51:QI K "arrivals_row" Ks)
  (q52:QI K "first_early" M7)
  (q53:QI K "planned" Us)
  (q54:QI K "shown_words" M3)
  (q55:QI K "days_with" Pm)
  (q56:QI K "shown_plan" Mq)
  (q57:QI K "lets_plan" Pd)
  (q58:QI K "times" fk)
  (q59:QI K "put_off" Ur)
  (q60:QI K "late" py)
  (q61:QI K "so_far" Yx)
  (q62:QI K "stocks_row" Mp)
  (q63:QI K "stocks" Yw)
  (q64:QI K "plan_of" Ut)
  (q65:QI K "answer" Yz)
  (A66:Zy0 K (.ref Dc) "tell" = some (some (.ref f66))) (I66:Zuq K (.ref f66)=true) (L66:K.lookup f66=some ⟨o66,d66,.func (Zxh "tell" "Desk.tell" (Fp Gn) (E6 Gn) (C2 Gn) .none v66 e66 p66 n66 g66 t66),s66⟩) (c66:cI K g66 "Desk.tell") (k66:kI K f66)
  (q67:QI K "_law_days" Rr)
  (q68:QI K "_law_number" Mv)
  (q69:QI K "_law_read_line" K8)
  (a70:aI K "_law_level" f70) (l70:lI K "_law_level" Kr f70 o70 d70 v70 e70 p70 n70 g70 t70 s70) (c70:cI K g70 "_law_level") (k70:kI K f70)
  (q71:QI K "_law_order" Pf)
  (q72:QI K "_law_plan_of" M5)
  (q73:QI K "_law_ware" Ro)
  (q74:QI K "_law_begun" Pk)
  (q75:QI K "_law_needs" Pg)
  (q76:QI K "_law_stocks" Mu)
  (q77:QI K "_law_judged" Mw)
  (q78:QI K "_law_least" Pi)
  (q79:QI K "_law_all_right" Ka)
  (a80:aI K "law" f80) (l80:lI K "law" Uu f80 o80 d80 v80 e80 p80 n80 g80 t80 s80) (c80:cI K g80 "law") (k80:kI K f80)
  (z_len:zI K "len")
  (z_isinstance:zI K "isinstance")
  (z_str:zI K "str")
  (z_all:zI K "all")
  (z_bool:zI K "bool")
  (z_int:zI K "int")
  (z_tuple:zI K "tuple")
  (z_range:zI K "range")
  (z_max:zI K "max")
  (z_sorted:zI K "sorted")
  (z_reversed:zI K "reversed")
  (z_zip:zI K "zip")
  (z_min:zI K "min")
  (z_enumerate:zI K "enumerate")
  (z_list:zI K "list")
  (z_sum:zI K "sum")
  (Zsm:Zyl K mainGlobals "COMING" = some (some (.int 5 t_COMING)))
  (Zsd:Zyl K mainGlobals "FIGURES" = some (some (.str "0123456789" t_FIGURES)))
  (Zs6:Zyl K mainGlobals "FLOOR" = some (some (.int 3 t_FLOOR)))
  (Zsl:Zyl K mainGlobals "GIVES" = some (some (.int 2 t_GIVES)))
  (Zs7:Zyl K mainGlobals "LAG" = some (some (.int 1 t_LAG)))
  (Zt4:Zyl K mainGlobals "LAST_DAY" = some (some (.int 400 t_LAST_DAY)))
  (Zsc:Zyl K mainGlobals "LETTERS" = some (some (.str "abcdefghijklmnopqrstuvwxyz" t_LETTERS)))
  (Zss:Zyl K mainGlobals "MEMBERS" = some (some (.int 7 t_MEMBERS)))
  (Zt1:Zyl K mainGlobals "MOST_COMING" = some (some (.int 12 t_MOST_COMING)))
  (Ztb:Zyl K mainGlobals "MOST_FIGURES" = some (some (.int 60 t_MOST_FIGURES)))
  (Zsr:Zyl K mainGlobals "MOST_LAG" = some (some (.int 30 t_MOST_LAG)))
  (Zta:Zyl K mainGlobals "MOST_LETTERS" = some (some (.int 8 t_MOST_LETTERS)))
  (Zsw:Zyl K mainGlobals "MOST_PARTS" = some (some (.int 6 t_MOST_PARTS)))
  (Zt9:Zyl K mainGlobals "MOST_WANTS" = some (some (.int 20 t_MOST_WANTS)))
  (Zsv:Zyl K mainGlobals "MOST_WARES" = some (some (.int 12 t_MOST_WARES)))
  (Ztc:Zyl K mainGlobals "NAME" = some (some (.int 0 t_NAME)))
  (Zsk:Zyl K mainGlobals "PARTS" = some (some (.int 6 t_PARTS)))
  (Zsu:Zyl K mainGlobals "SHOP_ROW" = some (some (.str "shop\n" t_SHOP_ROW)))
  (Zs5:Zyl K mainGlobals "STOCK" = some (some (.int 4 t_STOCK)))
  (Ztd:Zyl K mainGlobals "WANT_AMOUNT" = some (some (.int 2 t_WANT_AMOUNT)))
  (Zt3:Zyl K mainGlobals "WANT_DAY" = some (some (.int 1 t_WANT_DAY)))
  (Zt0:Zyl K mainGlobals "WANT_NAME" = some (some (.int 0 t_WANT_NAME)))
  (r_g:Zyl K mainGlobals "ROWS" = some (some (.ref Ra))) (r_l:K.lookup Ra=some {cls:=.type "dict",data:=.dict #[{hash:=PyData.keyHash w.params "ware",key:=.str "ware" Rt1,val:=.ref R1},{hash:=PyData.keyHash w.params "coming",key:=.str "coming" Rt2,val:=.ref R2},{hash:=PyData.keyHash w.params "part",key:=.str "part" Rt3,val:=.ref R3},{hash:=PyData.keyHash w.params "want",key:=.str "want" Rt4,val:=.ref R4}] Re}) (r_n:(Ra == sysModules)=false)
  (r_1:K.lookup R1=some {cls:=.type "tuple",data:=.seq #[Value.str "name" Rt1_0,Value.str "number" Rt1_1,Value.str "number" Rt1_2,Value.str "number" Rt1_3,Value.str "number" Rt1_4] Rn1})
  (r_2:K.lookup R2=some {cls:=.type "tuple",data:=.seq #[Value.str "name" Rt2_0,Value.str "number" Rt2_1,Value.str "number" Rt2_2] Rn2})
  (r_3:K.lookup R3=some {cls:=.type "tuple",data:=.seq #[Value.str "name" Rt3_0,Value.str "name" Rt3_1,Value.str "number" Rt3_2] Rn3})
  (r_4:K.lookup R4=some {cls:=.type "tuple",data:=.seq #[Value.str "name" Rt4_0,Value.str "number" Rt4_1,Value.str "number" Rt4_2] Rn4})
  (o_g:Zyl K mainGlobals "FORMS" = some (some (.ref Fa))) (o_l:K.lookup Fa=some {cls:=.type "dict",data:=.dict #[{hash:=PyData.keyHash w.params "want",key:=.str "want" Ft1,val:=.ref F1},{hash:=PyData.keyHash w.params "drop",key:=.str "drop" Ft2,val:=.ref F2},{hash:=PyData.keyHash w.params "plan",key:=.str "plan" Ft3,val:=.ref F3},{hash:=PyData.keyHash w.params "late",key:=.str "late" Ft4,val:=.ref F4},{hash:=PyData.keyHash w.params "most",key:=.str "most" Ft5,val:=.ref F5},{hash:=PyData.keyHash w.params "stock",key:=.str "stock" Ft6,val:=.ref F6},{hash:=PyData.keyHash w.params "serves",key:=.str "serves" Ft7,val:=.ref F7},{hash:=PyData.keyHash w.params "buy",key:=.str "buy" Ft8,val:=.ref F8}] Fe}) (o_n:(Fa == sysModules)=false)
  (o_3:K.lookup F3=some {cls:=.type "tuple",data:=.seq #[] Fn3})
  (o_4:K.lookup F4=some {cls:=.type "tuple",data:=.seq #[] Fn4})
  (o_6:K.lookup F6=some {cls:=.type "tuple",data:=.seq #[Value.str "name" Ft6_0] Fn6})
  (d_g:Zyl K mainGlobals "Desk" = some (some (.ref Dc))) (d_1:Zvr K Dc Str.empty=true) (d_2:Zv5 K Dc=true) (d_3:PySem.W.plainOver K Dc=true) (d_4:Zy0 K (.ref Dc) "__setattr__" = some (some (.builtin "object.__setattr__"))) (d_5:PySem.W.makesIn K Dc=true) (d_6:Zx0 K (.ref Dc)=true) (d_7:Zy0 K (.ref Dc) "kept" = some none)
  (tq:g44=.ref ct) (tl:K.lookup ct=some ⟨.type "code",odc,.fields vsc,slc⟩) (tv:vsc[11]?=some (.ref Pt)) (tw:vq vsc ct Pt=true) (tp:K.lookup Pt=none) :
  ∃(fd:FuncData) (ct Pt:Addr),(∀(s:Shared) (v:Value),BindsTo s fd ⟨[v],[]⟩ [("_law_script",v)])/\PySem.W.tabIn K "worked" = some (ct,Pt)/\K.lookup Pt=none/\∀base:Heap,K.In base->base.Ns mainGlobals mg->Ma mg base->B2 l.prog w K mg base CX0 17 fa fd ["_law_script"] (W9 K Pt):=by
 have e:=hfa.symm.trans (Zyw X G a80);cases e;have T:Txt mg:=⟨Zyg X G z_len,Zyg X G z_isinstance,Zyg X G z_str,Zyg X G z_all,Zyg X G z_bool,Zyg X G z_int,Zyg X G z_tuple,Zyg X G z_range,Zyg X G z_max,Zyg X G z_sorted,Zyg X G z_reversed,Zyg X G z_zip,Zyg X G z_min,Zyg X G z_enumerate,Zyg X G z_list,Zyg X G z_sum,⟨_,Zyw X G Zsm⟩,⟨_,Zyw X G Zsd⟩,⟨_,Zyw X G Zs6⟩,⟨_,Zyw X G Zsl⟩,⟨_,Zyw X G Zs7⟩,⟨_,Zyw X G Zt4⟩,⟨_,Zyw X G Zsc⟩,⟨_,Zyw X G Zss⟩,⟨_,Zyw X G Zt1⟩,⟨_,Zyw X G Ztb⟩,⟨_,Zyw X G Zsr⟩,⟨_,Zyw X G Zta⟩,⟨_,Zyw X G Zsw⟩,⟨_,Zyw X G Zt9⟩,⟨_,Zyw X G Zsv⟩,⟨_,Zyw X G Ztc⟩,⟨_,Zyw X G Zsk⟩,⟨_,Zyw X G Zsu⟩,⟨_,Zyw X G Zs5⟩,⟨_,Zyw X G Ztd⟩,⟨_,Zyw X G Zt3⟩,⟨_,Zyw X G Zt0⟩⟩;refine⟨Zxh "law" "law" (Fp Uu) (E6 Uu) (C2 Uu) .none v80 e80 p80 n80 g80 t80,ct,Pt,λs v=>.of_eq rfl,nu a44 l44 tq tl tv,tp,λbase _ _ hB=>?_⟩;have D:Dm l.prog w base K mg:=⟨_,X,G⟩;have tb:=nu a44 l44 tq tl tv;have tc:=lq tl tv tw;have R:Rws w K mg:=⟨Ra,[("ware",Rt1,R1),("coming",Rt2,R2),("part",Rt3,R3),("want",Rt4,R4)],Zyw X G r_g,⟨⟨Re,r_l⟩,by show (["ware", "coming", "part", "want"]:List Str).Nodup;decide +kernel,r_n⟩,⟨R1,[("name",Rt1_0),("number",Rt1_1),("number",Rt1_2),("number",Rt1_3),("number",Rt1_4)],rfl,⟨Rn1,r_1⟩,rfl⟩,⟨R2,[("name",Rt2_0),("number",Rt2_1),("number",Rt2_2)],rfl,⟨Rn2,r_2⟩,rfl⟩,⟨R3,[("name",Rt3_0),("name",Rt3_1),("number",Rt3_2)],rfl,⟨Rn3,r_3⟩,rfl⟩,⟨R4,[("name",Rt4_0),("number",Rt4_1),("number",Rt4_2)],rfl,⟨Rn4,r_4⟩,rfl⟩,rfl⟩;have Fo:Fms w K mg:=⟨Fa,[("want",Ft1,F1),("drop",Ft2,F2),("plan",Ft3,F3),("late",Ft4,F4),("most",Ft5,F5),("stock",Ft6,F6),("serves",Ft7,F7),("buy",Ft8,F8)],Zyw X G o_g,⟨⟨Fe,o_l⟩,by show (["want", "drop", "plan", "late", "most", "stock", "serves", "buy"]:List Str).Nodup;decide +kernel,o_n⟩,⟨F3,[],rfl,⟨Fn3,o_3⟩,rfl⟩,⟨F4,[],rfl,⟨Fn4,o_4⟩,rfl⟩,⟨F6,[("name",Ft6_0)],rfl,⟨Fn6,o_6⟩,rfl⟩⟩;have Dd:Dsk K mg ⟨Dc,f9,f66⟩:=⟨⟨d_1,d_2,d_3,d_4⟩,d_7,⟨A66,I66,k66⟩,⟨d_5,A9,I9,d_6⟩,Zyw X G d_g⟩;have Ztn:=Bo D q1 (Se · T) λ_ _ _ _ _ _=>AR λ_ _=>rfl;have Zsf:=Bo D q2 (X3 · T Ztn) λ_ _ _ _ _ _=>AY λ_ _ _=>rfl;have Zty:=Bo D q3 (Zd · T) λ_ _ _ _ _ _=>AR λ_ _=>rfl;have Zro:=Bo D q4 (Wx · T Zty) λ_ _ _ _ _ _=>AR λ_ _=>rfl;have Zs3:=Bo D q5 (Ty · T Zty) λ_ _ _ _ _ _=>AE λ_=>rfl;have Zs2:=Bo D q6 (Tx · T Zty Zs3) λ_ _ _ _ _ _=>AY λ_ _ _=>rfl;have Zrd:=Bo D q7 (Zc · T Zsf Zty Zro Zs2) λ_ _ _ _ _ _=>AR λ_ _=>rfl;have Zrh:=Bo D q8 (X0 · T) λ_ _ _ _ _ _=>AE λ_=>rfl;have F9:=Oo (st:=Ff) L9 c9 k9;have Zrw:=A2f (P:=l.prog) (w:=w) (base:=base) F9 (U4 F9 T Dd) λ_ _ _ _ _ _=>AE λ_=>rfl;have Zto:=Bo D q10 (c8 · T) λ_ _ _ _ _ _=>AE λ_=>rfl;have Zrp:=Bo D q11 (Wu · T Zto) λ_ _ _ _ _ _=>AE λ_=>rfl;have Zrq:=Bo D q12 (X5 · T) λ_ _ _ _ _ _=>AE λ_=>rfl;have Zsb:=Bo D q13 (Sc · T Zrq) λ_ _ _ _ _ _=>AE λ_=>rfl;have Zt7:=Bo D q14 (Tr · T Zrp Zsb) λ_ _ _ _ _ _=>AR λ_ _=>rfl;have Zrf:=Bo D q15 (Z8 · T R Zt7) λ_ _ _ _ _ _=>AE λ_=>rfl;have Zru:=Bo D q16 (bp · T) λ_ _ _ _ _ _=>AY λ_ _ _=>rfl;have Zsg:=Bo D q17 (Q5 · T Zru) λ_ _ _ _ _ _=>AE λ_=>rfl;have Ztu:=Bo D q18 (Z9 · T) λ_ _ _ _ _ _=>AE λ_=>rfl;have Ztz:=Bo D q19 (Zg · T) λ_ _ _ _ _ _=>AY λ_ _ _=>rfl;have Zrg:=Bo D q20 (Zf · T) λ_ _ _ _ _ _=>AE λ_=>rfl;have Ztw:=Bo D q21 (ce · T Zrg) λ_ _ _ _ _ _=>AR λ_ _=>rfl;have Ztr:=Bo D q22 (Tz · T Ztw) λ_ _ _ _ _ _=>AY λ_ _ _=>rfl;have Zra:=Bo D q23 (bw · T Ztz Ztw Ztr Zto) λ_ _ _ _ _ _=>AE λ_=>rfl;have Zrs:=Bo D q24 (X9 · T Zra Ztz) λ_ _ _ _ _ _=>AE λ_=>rfl;have Zrc:=Bo D q25 (c6 · T Ztw Zto Ztz) λ_ _ _ _ _ _=>AE λ_=>rfl;have Zt8:=Bo D q26 (U3 · T) λ_ _ _ _ _ _=>AE λ_=>rfl;have Zrt:=Bo D q27 (Xa · T Zrc Ztz Zt8) λ_ _ _ _ _ _=>AE λ_=>rfl;have Zs4:=Bo D q28 (U0 · T Ztw Ztr Ztz) λ_ _ _ _ _ _=>AE λ_=>rfl;have Zsj:=Bo D q29 (Q9 · T Zs4 Ztz) λ_ _ _ _ _ _=>AE λ_=>rfl;have Zrb:=Bo D q30 (bv · T Ztz Ztw Ztr Zto Zrt Zsj) λ_ _ _ _ _ _=>AE λ_=>rfl;have Zrr:=Bo D q31 (X8 · T Zrb Ztz Zt8) λ_ _ _ _ _ _=>AE λ_=>rfl;have Ztv:=Bo D q32 (Ts · T) λ_ _ _ _ _ _=>AE λ_=>rfl;have Zsh:=Bo D q33 (Q7 · T Ztv) λ_ _ _ _ _ _=>AE λ_=>rfl;have Zr9:=Bo D q34 (bx · T Zrs Zrr Ztz Ztu Zsh) λ_ _ _ _ _ _=>AE λ_=>rfl;have Zsx:=Bo D q35 (Ws · T Zrf Zsg Ztu Zr9) λ_ _ _ _ _ _=>AE λ_=>rfl;have Zsi:=Bo D q36 (Q6 · T) λ_ _ _ _ _ _=>AE λ_=>rfl;have Zsq:=Bo D q37 (Oi · T Ztv Zsi) λ_ _ _ _ _ _=>AE λ_=>rfl;have Zqv:=Bo D q38 (yf · T Zsq) λ_ _ _ _ _ _=>AE λ_=>rfl;have Ztx:=Bo D q39 (Sg · T Zqv) λ_ _ _ _ _ _=>AE λ_=>rfl;have Zsp:=Bo D q40 (Of · T Zsx Ztx) λ_ _ _ _ _ _=>AE λ_=>rfl;have Ztm:=Bo D q41 (bo · T) λ_ _ _ _ _ _=>AR λ_ _=>rfl;have Zry:=Bo D q42 (U2 · T Fo Ztm) λ_ _ _ _ _ _=>AY λ_ _ _=>rfl;have Zr4:=Bo D q43 (jy · T Ztx Ztu Ztv) λ_ _ _ _ _ _=>AE λ_=>rfl;have F44:=Oo (st:=Mo) l44 c44 k44;have Zt2:=A2g D a44 F44 (jv F44 T Zr4 Ztu ⟨λ_ _ _ _ e=>af tb a44 e,tc⟩ hB) λ_ _ _ _ _ _=>AE λ_=>rfl;have Zre:=Bo D q45 (Za · T) λ_ _ _ _ _ _=>AR λ_ _=>rfl;have Zs0:=Bo D q46 (Tt · T Zre) λ_ _ _ _ _ _=>len4 λ_ _ _ _=>rfl;have Zt6:=Bo D q47 (U1 · T) λ_ _ _ _ _ _=>AE λ_=>rfl;have Zrn:=Bo D q48 (Wq · T Zt6) λ_ _ _ _ _ _=>AR λ_ _=>rfl;have Zrm:=Bo D q49 (X7 · T) λ_ _ _ _ _ _=>AR λ_ _=>rfl;have Zsz:=Bo D q50 (Wv · T Zrn Zrm) λ_ _ _ _ _ _=>AY λ_ _ _=>rfl;have Ztf:=Bo D q51 (Q8 · T Zt6) λ_ _ _ _ _ _=>AR λ_ _=>rfl;have Zsa:=Bo D q52 (Sf · T) λ_ _ _ _ _ _=>AR λ_ _=>rfl;have Ztl:=Bo D q53 (br · T Zt2 Ztm Zs0 Zsz Ztf Zsa) λ_ _ _ _ _ _=>AE λ_=>rfl;have Ztg:=Bo D q54 (Sb · T) λ_ _ _ _ _ _=>AE λ_=>rfl;have Zrj:=Bo D q55 (X6 · T) λ_ _ _ _ _ _=>AE λ_=>rfl;have Zrz:=Bo D q56 (Tq · T Ztl Ztg Zt2 Zrj) λ_ _ _ _ _ _=>AE λ_=>rfl;have Zse:=Bo D q57 (Ww · T Ztl) λ_ _ _ _ _ _=>AE λ_=>rfl;have Zqy:=Bo D q58 (rj · T Zt2 Ztm Ztv) λ_ _ _ _ _ _=>AE λ_=>rfl;have Zr8:=Bo D q59 (bq · T Ztx) λ_ _ _ _ _ _=>AR λ_ _=>rfl;have Zqu:=Bo D q60 (yg · T Zse Zqy Zr8) λ_ _ _ _ _ _=>AE λ_=>rfl;have Zr3:=Bo D q61 (jx · T) λ_ _ _ _ _ _=>AE λ_=>rfl;have Zs1:=Bo D q62 (Tp · T Zsz Ztf Zr3) λ_ _ _ _ _ _=>AY λ_ _ _=>rfl;have Zr2:=Bo D q63 (jw · T Ztx Zs1 Ztm) λ_ _ _ _ _ _=>AY λ_ _ _=>rfl;have Zr7:=Bo D q64 (bu · T Ztl) λ_ _ _ _ _ _=>AE λ_=>rfl;have Zr1:=Bo D q65 (jz · T Zrz Zqu Ztg Zr2 Zr7) λ_ _ _ _ _ _=>AY λ_ _ _=>rfl;have F66:=Oo (st:=Gn) L66 c66 k66;have Ztj:=A2f (P:=l.prog) (w:=w) (base:=base) F66 (Xb F66 T Fo Dd Zsp Zt7 Zry Zr1) λ_ _ _ _ _ _=>AR λ_ _=>rfl;have Ztq:=Bo D q67 (Ze · T) λ_ _ _ _ _ _=>AE λ_=>rfl;have Zt5:=Bo D q68 (Tv · T) λ_ _ _ _ _ _=>AE λ_=>rfl;have Zso:=Bo D q69 (Og · T Zt5) λ_ _ _ _ _ _=>AR λ_ _=>rfl;have F70:=Oo (st:=Kr) l70 c70 k70;have b70:=F70.binds (ps:=["_law_shop_here", "_law_name"]) λ_ _ _ _ _ _ us hl=>match us,hl with | [_,_],_=>rfl
 have Zst:Has l.prog w K mg base "_law_level" 13 ["_law_shop_here", "_law_name"] (Hd 13):=⟨_,_,Zyw X G a70,k70,b70,X1 F70 T (Zyw X G a70) k70 b70 13⟩;have Zsy:=Bo D q71 (Wy · T Zst) λ_ _ _ _ _ _=>AE λ_=>rfl;have Zs9:=Bo D q72 (Sd · T Ztq Zso Zsy) λ_ _ _ _ _ _=>AR λ_ _=>rfl;have Ztt:=Bo D q73 (Zb · T) λ_ _ _ _ _ _=>AR λ_ _=>rfl;have Zrl:=Bo D q74 (X4 · T Ztt Ztq) λ_ _ _ _ _ _=>AY λ_ _ _=>rfl;have Zrk:=Bo D q75 (Wz · T Ztq Zrl) λ_ _ _ _ _ _=>AY λ_ _ _=>rfl;have Ztp:=Bo D q76 (Tu · T Ztt Zrk) λ_ _ _ _ _ _=>AY λ_ _ _=>rfl;have Zrx:=Bo D q77 (Tw · T Zsy Ztt Ztp) λ_ _ _ _ _ _=>AR λ_ _=>rfl;have Zri:=Bo D q78 (X2 · T Ztt Ztp) λ_ _ _ _ _ _=>AY λ_ _ _=>rfl;have Zsn:=Bo D q79 (Oh · T Dd Zs9 Ztj Zrx Ztp Zri) λ_ _ _ _ _ _=>AY λ_ _ _=>rfl;have F80:=Oo (st:=Uu) l80 c80 k80;exact A12 F80 T Dd Zrd Ztn Zrh Zrw Ztj Ztl Zsx Zsn
theorem walk{l:PySem.W.OpenLaw}{q:Program}{d dw:DefRec}{K:Params->Zzw}(hn:l.most=some 63)(hdf:d.params.defaults=[])
  (hY:∀(w:World) (h:Heap),YP w h->(K w.params).In h) (hw:(PyProof.Rows.recsOf q).find? (λe=>e.name == ("worked" : Str))=some dw)
  (F:∀(w:World) (mg:Str->Option Value) (fa:Addr) (h:Heap),(K w.params).In h->h.Ns mainGlobals mg->mg d.name=some (.ref fa) ->
   ∃(fd:FuncData) (ct Pt:Addr),(∀(s:Shared) (u:Value),BindsTo s fd ⟨[u],[]⟩ [("_law_script",u)])/\PySem.W.tabIn (K w.params) "worked" = some (ct,Pt)/\(K w.params).lookup Pt=none/\∀base:Heap,(K w.params).In base->base.Ns mainGlobals mg->Ma mg base->B2 l.prog w (K w.params) mg base CX0 17 fa fd ["_law_script"] (W9 (K w.params) Pt)) :
  PySem.W.WalkO q loose XP YP l.row.toRowW d [] (λf vs=>PySem.call f vs) :=
 L2.mx (n:=63) (k:=17) (x := "_law_script") (wk := "worked") (sp:=λw Pt=>W9 (K w.params) Pt) hn (by decide) hdf ⟨rfl,by decide,by decide⟩ hY hw F (λ_ _ a Pt ns hl ht hS=>⟨a,ns,rfl,hS,hl,.inl ht,λ_=>rfl⟩)
end K91
namespace PySem.W.Fast
def tw11768319068130206072:=Type
def tw16883853598944783239:=Type
def tw18194738283396727430:=Type
def tw3347322220821248147:=Type
def tw4310973245795888620:=Type
def tw2973516279741653030:=Type
def tw8752322950467192709:=Type
def tw4914255828207585185:=Type
def tw1576991010714814400:=Type
def tw14840278015423377415:=Type
def tw7275155866939636933:=Type
def tw13204050895298515223:=Type
def tw1902276302323505269:=Type
def tw6112310471995686749:=Type
def tw15638324164948575229:=Type
def tw13332152362668228511:=Type
def tw4880222133316492752:=Type
def tw14995921072535809850:=Type
def tw9794749177574985977:=Type
def tw5936110918292653761:=Type
def tw3140132032122873631:=Type
def tw69999339243989561:=Type
def tw11400821917512645014:=Type
def tw13937606019474713138:=Type
def tw16102975406331952992:=Type
def tw16653288036384588432:=Type
def tw1185139309412542259:=Type
def tw1023065929764340323:=Type
def tw551733741633141259:=Type
def tw5705174661133261314:=Type
def tw15064027771905973653:=Type
def tw12114714114212261598:=Type
def tw3216296252728629742:=Type
def tw13029985721431845108:=Type
def tw4671305403386699640:=Type
def tw14898494223265152475:=Type
def tw11756145634373802061:=Type
def tw16118588233112724415:=Type
def tw6185044122097781648:=Type
def tw1968480418557845175:=Type
def tw3492320328468276110:=Type
def tw9849134570968987788:=Type
def tw11613988044336916012:=Type
def tw8586280645742163212:=Type
def tw4006968373976111006:=Type
def tw12529260971584728259:=Type
def tw2755486209902545206:=Type
def tw6117201006286455280:=Type
def tw6880733711934384040:=Type
def tw17098881729486179907:=Type
def tw7698921014141351862:=Type
def tw3864886536158941150:=Type
def tw11968811385325847566:=Type
def tw8489884341252304792:=Type
def tw16081777537502884871:=Type
def tw5194040282749481525:=Type
def tw15297158525515797711:=Type
def tw8456247864850942454:=Type
def tw1412886141779344004:=Type
def tw4351436585465070273:=Type
def tw733536851011346015:=Type
def tw12739346900881218036:=Type
def tw13066693690062585988:=Type
def tw1032620290239061786:=Type
def tw4651338698691001583:=Type
def tw10260756822478125484:=Type
def tw15152637492081808019:=Type
def tw4527488156733148030:=Type
def tw12918338785050999316:=Type
def tw14822896673102000798:=Type
def tw17301842940456764074:=Type
def tw4080074863948282192:=Type
def tw2823749351404539085:=Type
def tw16516159495221597724:=Type
def tw11308889151178425113:=Type
def tw3948954205250597467:=Type
def tw6324406316684185933:=Type
def tw9853249630660465661:=Type
def tw18315323946376344179:=Type
def tw17984810303090597626:=Type
def tw5294499626995093083:=Type
def tw15950058850529613705:=Type
def tw8872407534694783136:=Type
def tw7069004912089561758:=Type
def tw4709934274898403595:=Type
def tw11515588250541586510:=Type
def tw11205249644151098050:=Type
def tw1463650669976394619:=Type
def tw8068406133436236719:=Type
def tw5671694305004001910:=Type
def tw7727111809633353444:=Type
def tw7469777458650787538:=Type
def tw11285468311121111274:=Type
def tw7768355901405768299:=Type
def tw5220783727684536566:=Type
def tw18309679699667859584:=Type
def tw16275205200281216807:=Type
def tw14873482481477023972:=Type
def tw4483283772429042964:=Type
def tw12965558005010601939:=Type
def tw13649949516660680720:=Type
def tw16423155942648680070:=Type
def tw2326618279789502101:=Type
def tw8780225127566699107:=Type
def tw17841743717190171893:=Type
def tw2512328361362720732:=Type
def tw10963799416455811189:=Type
def tw2331314384777852519:=Type
def tw17849721378436568618:=Type
def tw5179782619589275867:=Type
def tw17738526967010240764:=Type
def tw7333356368032047293:=Type
def tw15207157177502128350:=Type
def tw2343777475337826800:=Type
def tw6467572300480633280:=Type
def tw8556935606265168596:=Type
def tw10822292542449482467:=Type
def tw6776133126539520961:=Type
def tw16238031301655114925:=Type
def tw11270185199816345457:=Type
def tw8843216188836090400:=Type
def tw16203671975658178018:=Type
def tw16288266102179232528:=Type
def tw5540566070832251358:=Type
def tw7269691309624200905:=Type
def tw8555959931385767946:=Type
def tw11085865834065263506:=Type
def tw15032881606504225765:=Type
def tw5367965104159117714:=Type
def tw8515393689507755890:=Type
def tw15550360995345613964:=Type
def tw11518424850810499949:=Type
def tw11767562669342149308:=Type
def tw9369497332058371606:=Type
def tw16621330343035506932:=Type
def tw4723911888734390892:=Type
def tw5694130317773479056:=Type
def tw16581932878534924024:=Type
def tw15212911394266904630:=Type
def tw15980488753361091174:=Type
def tw9257853564109162604:=Type
def tw9469277858151039957:=Type
def tw12141583516472566889:=Type
def tw5333299287536176519:=Type
def tw8341936492356534465:=Type
def tw9905395573323714511:=Type
def tw5945537459025788095:=Type
def tw9775286644700781593:=Type
def tw7199120162904857206:=Type
def tw8871760767192709098:=Type
def tw14958071120695331158:=Type
def tw3825568555880993593:=Type
def tw7067336731339443117:=Type
def tw11049090681250243477:=Type
def tw17537941126792550993:=Type
def tw4352876403051646037:=Type
def tw10991409363562525915:=Type
def tw4667137910139038286:=Type
def tw11613839818128254375:=Type
def tw11830540064246855633:=Type
def tw14789142343259473902:=Type
def tw12231546920010996973:=Type
def tw4466821234840217253:=Type
def tw14209340680833364114:=Type
def tw18150239696987714903:=Type
def tw6374647179280620019:=Type
def tw9588007347316086685:=Type
def tw11973923559862690555:=Type
def tw17039280808908919043:=Type
def tw11163414576542690463:=Type
def tw1724256449336566221:=Type
def tw4837302074148425295:=Type
def tw15601158881434241478:=Type
def tw15911712824334152388:=Type
def tw11906193149416045120:=Type
def tw14368271710498911075:=Type
def tw16702952088388566609:=Type
def tw7010586624989146183:=Type
def tw10609383006290360719:=Type
def tw8518540887200846329:=Type
def tw9661591291448048562:=Type
def tw16651070894128490988:=Type
def tw4084578040694902249:=Type
def tw18157829516456853954:=Type
def tw16411506118540954817:=Type
def tw1344320746045876721:=Type
def tw3241716407585396951:=Type
def tw8387509627504363635:=Type
def tw9752768032045465043:=Type
def tw10294598701141136257:=Type
def tw8429111958422156788:=Type
def tw8076288567302385599:=Type
def tw6890964131548127859:=Type
def tw13901876656043441676:=Type
def tw1673124904333565100:=Type
def tw17029229942453526769:=Type
def tw16852111012309186476:=Type
def tw995793844149905043:=Type
def tw7287539454772267179:=Type
def tw954301743394406068:=Type
def tw5533985650044283223:=Type
def tw8760021251418644493:=Type
def tw6446525632943247388:=Type
def tw3822985020626908403:=Type
def tw1092638001254530647:=Type
def tw8584329312655028302:=Type
def tw17858455123395256279:=Type
def tw1816707972618713680:=Type
def tw16436812176103957323:=Type
def tw12623950878570935856:=Type
def tw12870210022518463309:=Type
def tw13033361739265330300:=Type
def tw10019245072749196796:=Type
def tw10401863503685256581:=Type
def tw5371438424003742575:=Type
def tw982772173847418160:=Type
def tw4052781141248913937:=Type
def tw1810145695007023656:=Type
def tw15844330385397249634:=Type
def tw16238075403661773110:=Type
def tw15119030844398325973:=Type
def tw9692714476644442398:=Type
def tw7839299598030565723:=Type
def tw7366837549560780213:=Type
def tw8118399156342369158:=Type
def tw9294775727479233688:=Type
def tw9118681497356454612:=Type
def tw11574110211903326255:=Type
def tw16217504772777031365:=Type
def tw16322318947384054482:=Type
def tw6649040856881033744:=Type
def tw2040858595041159839:=Type
def tw1827968524318784516:=Type
def tw4509666992119304758:=Type
def tw2371740086414291337:=Type
def tw10947510079161221569:=Type
def tw10484825481359953022:=Type
def tw1091257882607557360:=Type
def tw9930588063731891046:=Type
def tw6155508552913556654:=Type
def tw12247674827952211075:=Type
def tw16065569194176402756:=Type
def tw13764328228003700611:=Type
def tw3348122995223033982:=Type
def tw2656659111114903326:=Type
def tw956485600095758590:=Type
def tw4252928302854596516:=Type
def tw9762815163505665799:=Type
def tw4967172751762928673:=Type
def tw12564039033823331907:=Type
def tw14353093430128085026:=Type
def tw17167255985544862932:=Type
def tw5717785885827415522:=Type
def tw16547202765616807894:=Type
def tw11864213962332683523:=Type
def tw12847761796608701748:=Type
def tw10352309404338241389:=Type
def tw5247951421273651856:=Type
def tw16377922876556037610:=Type
def tw8196157846923468031:=Type
def tw1301823754232931412:=Type
def tw8888124507662742707:=Type
def tw13673370818780742580:=Type
def tw13543558603271971158:=Type
def tw16965851225966807219:=Type
def tw15012788375799130129:=Type
def tw6514114154548464043:=Type
def tw4177712301029277935:=Type
def tw14239846428837992212:=Type
def tw399773091096671196:=Type
def tw14096926747165656371:=Type
def tw11509842537039031008:=Type
def tw6169889593319399790:=Type
def tw10273184091861985348:=Type
def tw12189847912866692125:=Type
def tw2219506300568116545:=Type
def tw11234484777501844531:=Type
def tw14827673301588567749:=Type
def tw10847552939697317599:=Type
def tw8085206391062911903:=Type
def tw9156742542314238197:=Type
def tw10067487842877196997:=Type
def tw16490382043761540965:=Type
def tw7877067329458327615:=Type
def tw9269022502850774859:=Type
def tw7174139285788223631:=Type
def tw1504459758992261589:=Type
def tw13326379697571864334:=Type
def tw14272367768682781265:=Type
def tw1923860994989313591:=Type
def tw7954730898583474312:=Type
def tw8282705413679653764:=Type
def tw4092434896129073485:=Type
def tw3020080460806248071:=Type
def tw6812191499810208254:=Type
def tw699718134396861256:=Type
def tw13201008075950515795:=Type
def tw4724517836070030947:=Type
def tw196229044295263449:=Type
def tw16278154270666053538:=Type
def tw10476191560710184547:=Type
def tw6362495851478227873:=Type
def tw16340991950504739721:=Type
def tw8916653270742488595:=Type
def tw5457093434426553566:=Type
def tw11981980737624689093:=Type
def tw17938347651901303284:=Type
def tw573741095350952887:=Type
def tw665390178879382310:=Type
def tw12152830951483685345:=Type
def tw4208647159722746880:=Type
def tw10181299290403795031:=Type
def tw9776690415931616092:=Type
def tw14769109930434348350:=Type
def tw14228766882202562764:=Type
def tw754815998798875625:=Type
def tw3026851599912025900:=Type
def tw8265213505900934231:=Type
def tw6732211103663048690:=Type
def tw1467191360741284137:=Type
def tw13550807446384675674:=Type
def tw14782962204612180062:=Type
def tw7798701051521172811:=Type
def tw7067073775542364430:=Type
def tw4169775952053685641:=Type
def tw10706623171293458501:=Type
def tw11954589775069867478:=Type
def tw12251287505570041208:=Type
def tw3069951695556345262:=Type
def tw17364512072375053751:=Type
def tw18141036985383828737:=Type
def tw9760459004313130170:=Type
def tw1007748677924925688:=Type
def tw1140942318148358528:=Type
def tw17719172198049871752:=Type
def tw16272493398146352058:=Type
def tw2153691041023969792:=Type
def tw6470937674824725331:=Type
def tw14717156047757828261:=Type
def tw2373943114350018454:=Type
def tw8023233651047183651:=Type
def tw1585512374703315629:=Type
def tw8089784524813479557:=Type
def tw6512229353693688842:=Type
def tw7006006220264068413:=Type
def tw3211544584525902561:=Type
def tw4001964105732593996:=Type
def tw7801086554837879539:=Type
def tw6784704135599381200:=Type
def tw5704833146321260236:=Type
def tw15798705291061177242:=Type
def tw17730667263866098733:=Type
def tw8483864175342732651:=Type
def tw2362717840155440635:=Type
def tw16750767461176095825:=Type
def tw6129734463417083332:=Type
def tw7477294296713152234:=Type
def tw6878421620627827673:=Type
def tw6929098186589054276:=Type
def tw5754216872666134759:=Type
def tw17235340051491766233:=Type
def tw4885602649996185444:=Type
def tw13564901307832708433:=Type
def tw4885330137627607149:=Type
def tw10566962815805058224:=Type
def tw1639154300747742802:=Type
def tw10560961509625564911:=Type
def tw14148849031657418993:=Type
def tw3942386228428046986:=Type
def tw11824101704978255080:=Type
def tw13985883476429446108:=Type
def tw8589975512591485958:=Type
def tw1106992336787405191:=Type
def tw12662193602414088058:=Type
def tw16992140509625800820:=Type
def tw12672067151073958910:=Type
def tw2626132877836347656:=Type
def tw8927012135110673009:=Type
def tw6908347439813828583:=Type
def tw3208551336093824938:=Type
def tw7551087874508714400:=Type
def tw5325004915674206701:=Type
def tw14756677310058298827:=Type
def tw16671010341793027298:=Type
def tw12358777351085538785:=Type
def tw6058744414760567285:=Type
def tw11697424532135239632:=Type
def tw5027686846239002338:=Type
def tw16078447323468346944:=Type
def tw10193246874572211509:=Type
def tw4093660460802217820:=Type
def tw7377630057171862584:=Type
def tw4452279798048488873:=Type
def tw289560040368194988:=Type
def tw12464896955434169777:=Type
def tw17562049641036009761:=Type
def tw14274189927088409582:=Type
def tw15801383649016548927:=Type
def tw17382184197267620486:=Type
def tw14696402092544146757:=Type
def tw4158883419996058742:=Type
def tw9694355224356285477:=Type
def tw8066577239540433288:=Type
def tw16159265837994395663:=Type
def tw18135542602421994461:=Type
def tw557682461837397163:=Type
def tw9316002438512341809:=Type
def tw9450169045255008451:=Type
def tw12149619928736514563:=Type
def tw17395904224674031118:=Type
def tw9938600386432676025:=Type
def tw15304751998449069251:=Type
def tw16683107453856997905:=Type
def tw13673926165462159400:=Type
def tw10010173158228317799:=Type
def tw16574030289993560493:=Type
def tw14088600274991891646:=Type
def tw1722564399816306489:=Type
def tw15705205525806654133:=Type
def tw14663494141585154587:=Type
def tw3691249336997349287:=Type
def tw12386901648061344210:=Type
def tw7634554051741404223:=Type
def tw4783623274203293178:=Type
def tw15531372585752458265:=Type
def tw7364200831616217905:=Type
def tw17622139815350335569:=Type
def tw15040109123228842163:=Type
def tw4798655356036127184:=Type
def tw2650115698833352633:=Type
def tw13413980748574903960:=Type
def tw207350649773742937:=Type
def tw3114931052163185167:=Type
def tw11447619081746893057:=Type
def tw4097031583739067071:=Type
def tw1885575238498518503:=Type
def tw10501699887735849603:=Type
def tw9834721220130825246:=Type
def tw14183379348465188248:=Type
def tw3460665892099843310:=Type
def tw9835493693737524421:=Type
def tw3169716481728641576:=Type
def tw4216503463062762951:=Type
def tw7934187856875004432:=Type
def tw7923177190999240289:=Type
def tw1361288263889258857:=Type
def tw15454815700381124107:=Type
def tw11155893620265996215:=Type
def tw13901964676070259304:=Type
def tw6740104982170797033:=Type
def tw5403071790074762102:=Type
def tw18250646259190911440:=Type
def tw4236895363579978280:=Type
def tw338088674537057568:=Type
def tw10405357999585971092:=Type
def tw16797477571577985173:=Type
def tw512885778902197876:=Type
def tw15118652560901075081:=Type
def tw17474115280638279680:=Type
def tw9701081209187613267:=Type
def tw11424903210279692520:=Type
def tw10144006344390019185:=Type
def tw768843938528966292:=Type
def tw11568830725314120778:=Type
def tw5118581890904100955:=Type
def tw2099117769074586618:=Type
def tw3766830361575577228:=Type
def tw8847150627219765213:=Type
def tw8659532682804285988:=Type
def tw2605353331856502501:=Type
def tw1837458356848998590:=Type
def tw3832211353393257869:=Type
def tw13379682652056613062:=Type
def tw9488586682227561194:=Type
def tw2424213155506741958:=Type
def tw7053011303534819230:=Type
def tw9877267559334933328:=Type
def tw17423248916034594999:=Type
def tw17603596627225830661:=Type
def tw12722983472444920669:=Type
def tw16846822828072588651:=Type
def tw6402841119880741420:=Type
def tw13030301977549886333:=Type
def tw7132583572670684622:=Type
def tw12245176695412201619:=Type
def tw5249359431280206371:=Type
def tw2105578140415558576:=Type
def tw5286216732266755438:=Type
def tw9113060749616722224:=Type
def tw10457394747584205492:=Type
def tw10806242209386288851:=Type
def tw13561279299438166147:=Type
def tw17995543855392800088:=Type
def tw7163538815734974816:=Type
def tw1191767144204582143:=Type
def tw5275810250658222930:=Type
def tw12019722957445614265:=Type
def tw18369684603787858435:=Type
def tw2248838191023460959:=Type
def tw1039530908573530635:=Type
def tw14571740074977246274:=Type
def tw8167737145499821989:=Type
def tw15606249102265275041:=Type
end PySem.W.Fast
open PySem PySem.W PyProof.Rows
set_option maxRecDepth 100000 in
set_option maxHeartbeats 0 in
theorem PySem.Challenge.cw_needplan_k91_whole_text_to_plan_holds : PySem.Challenge.rw_needplan_k91_whole_text_to_plan.Holds := by
 w_on;o_law;k_head;(case hw=>w_witness2);k_fill;refine K91.walk (l:=PySem.Challenge.rw_needplan_k91_whole_text_to_plan) rfl rfl (λw h Y=>PySem.W.km_in_of Y) rfl ?F
 case F =>
  intro w mg fa h KX G hmg;refine' K91.all_mk KX G hmg ?q1 ?q2 ?q3 ?q4 ?q5 ?q6 ?q7 ?q8 ?A9 ?I9 ?L9 ?c9 ?k9 ?q10 ?q11 ?q12 ?q13 ?q14 ?q15 ?q16 ?q17 ?q18 ?q19 ?q20 ?q21 ?q22 ?q23 ?q24 ?q25 ?q26 ?q27 ?q28 ?q29 ?q30 ?q31 ?q32 ?q33 ?q34 ?q35 ?q36 ?q37 ?q38 ?q39 ?q40 ?q41 ?q42 ?q43 ?a44 ?l44 ?c44 ?k44 ?q45 ?q46 ?q47 ?q48 ?q49 ?q50 ?q51 ?q52 ?q53 ?q54 ?q55 ?q56 ?q57 ?q58 ?q59 ?q60 ?q61 ?q62 ?q63 ?q64 ?q65 ?A66 ?I66 ?L66 ?c66 ?k66 ?q67 ?q68 ?q69 ?a70 ?l70 ?c70 ?k70 ?q71 ?q72 ?q73 ?q74 ?q75 ?q76 ?q77 ?q78 ?q79 ?a80 ?l80 ?c80 ?k80 ?z_len ?z_isinstance ?z_str ?z_all ?z_bool ?z_int ?z_tuple ?z_range ?z_max ?z_sorted ?z_reversed ?z_zip ?z_min ?z_enumerate ?z_list ?z_sum ?Zsm ?Zsd ?Zs6 ?Zsl ?Zs7 ?Zt4 ?Zsc ?Zss ?Zt1 ?Ztb ?Zsr ?Zta ?Zsw ?Zt9 ?Zsv ?Ztc ?Zsk ?Zsu ?Zs5 ?Ztd ?Zt3 ?Zt0 ?r_g ?r_l ?r_n ?r_1 ?r_2 ?r_3 ?r_4 ?o_g ?o_l ?o_n ?o_3 ?o_4 ?o_6 ?d_g ?d_1 ?d_2 ?d_3 ?d_4 ?d_5 ?d_6 ?d_7 ?tq ?tl ?tv ?tw ?tp
  (case q1 | q2 | q3 | q4 | q5 | q6 | q7 | q8 | q10 | q11 | q12 | q13 | q14 | q15 | q16 | q17 | q18 | q19 | q20 | q21 | q22 | q23 | q24 | q25 | q26 | q27 | q28 | q29 | q30 | q31 | q32 | q33 | q34 | q35 | q36 | q37 | q38 | q39 | q40 | q41 | q42 | q43 | q45 | q46 | q47 | q48 | q49 | q50 | q51 | q52 | q53 | q54 | q55 | q56 | q57 | q58 | q59 | q60 | q61 | q62 | q63 | q64 | q65 | q67 | q68 | q69 | q71 | q72 | q73 | q74 | q75 | q76 | q77 | q78 | q79=>apply K91.q_mk;(case a=>delta K91.aI;k_is);(case b=>delta K91.lI;k_is);(case e=>delta K91.cI;k_is);delta K91.kI;k_is)
  (case a44 | a70 | a80=>delta K91.aI;k_is)
  (case l44 | l70 | l80=>delta K91.lI;k_is)
  (case d_g | d_1 | d_2 | d_3 | d_4 | d_5 | d_6 | d_7=>k_is)
  (case A9 | A66=>k_is)
  (case I9 | I66=>k_is)
  (case L9 | L66=>k_is)
  (case c9 | c44 | c66 | c70 | c80=>delta K91.cI;k_is)
  (case k9 | k44 | k66 | k70 | k80=>delta K91.kI;k_is)
  (case z_len | z_isinstance | z_str | z_all | z_bool | z_int | z_tuple | z_range | z_max | z_sorted | z_reversed | z_zip | z_min | z_enumerate | z_list | z_sum=>delta K91.zI;k_is)
  (case Zsm | Zsd | Zs6 | Zsl | Zs7 | Zt4 | Zsc | Zss | Zt1 | Ztb | Zsr | Zta | Zsw | Zt9 | Zsv | Ztc | Zsk | Zsu | Zs5 | Ztd | Zt3 | Zt0=>k_is)
  (case r_g | r_l | r_1 | r_2 | r_3 | r_4=>k_is)
  (case o_g | o_l | o_3 | o_4 | o_6=>k_is)
  (case tq=>rfl)
  (case tl=>k_is)
  (case tv=>rfl)
  (case tw=>rfl)
  (case tp=>rfl)
  (case r_n=>rfl)
  (case o_n=>rfl)
