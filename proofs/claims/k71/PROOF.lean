import PyProof.Rows.All
import Wide.All
import Wide.FinOn
import KE.KSortTup
import KE.KNestM
import KE.KIsAll
import KE.KLam
import KE.KMinKey
import KE.KDictList
import KE.KIntText
import KE.KxAffix
import KE.KEqDict
import KE.KTryMore
import PySem.Challenge.RW_needplan_k71_desk_rows
open PySem renaming wpAny_bind → FU
open PySem renaming wpAny_pure → FV
open List renaming length_map → Zzz, getElem?_map → Zzw, mem_cons → Zzu, mem_of_getElem? → Zzt, size_toArray → Zzs, mem_singleton → Zzr, getElem?_eq_getElem → Zzp, mem_map → Zzo, mem_cons_of_mem → Zzl, mem_cons_self → Zzj, map_append → Zzi, mem_append_right → Zzg, not_mem_nil → Zzf, length_append → Zzc, getElem?_eq_some_iff → Zzb, map_cons → Zz9, getD_eq_getElem?_getD → Zz8, length_take → Zz5, take_length → Zz4, length_cons → Zz3, mem_append → Zz2, take_add_one → Zz1, getElem?_eq_none → Zz0, append_nil → Zyw, all_eq_true → Zyu, range → Zyo, mem_append_left → Zyk, length_drop → Zyj, getElem?_append_right → Zyi, nodup_cons → Zyg, map_map → Zyd, toArray → Zyc, replicate → Zyb, length_singleton → Zya, lookup_cons → Zy4, getElem?_append_left → Zy0, replicate_succ → Zxy, getElem?_take_of_lt → Zxx, length_filter_le → Zxw, filter_append → Zxu, getElem?_set_ne → Zxt, map_nil → Zxs, map → Zxp, length_nil → Zxo, ext_getElem? → Zxg, take_of_length_le → Zxc, cons_append → Zxa, lookup → Zx7, mem_filter → Zx5, nil_append → Zx3, map_congr_left → Zx2, filter_cons → Zx0, mem_filterMap → Zwz, mem_iff_getElem? → Zwv, all_cons → Zwu, append_assoc → Zwt, pairwise_iff_getElem → Zwq, mem_of_mem_take → Zwp, nodup_nil → Zwo, filterMap_cons → Zwi, getElem?_cons_zero → Zwh, getElem?_cons_succ → Zwg, any_cons → Zwe, find?_cons → Zwc, getElem?_drop → Zwb, getElem?_set_self → Zw9, flatten_cons → Zw6, take_zero → Zw2, getElem_toArray → Zvx, getElem?_of_mem → Zvw, map_drop → Zvr, map_take → Zvq, replicate_zero → Zvp, getD_cons_zero → Zvo, getD_cons_succ → Zvn, all_map → Zvi, getElem?_take → Zvh, set_cons_zero → Zve, set_cons_succ → Zvd, getElem_mem → Zuz, take_append_drop → Zux, length_set → Zuv, forIn_cons → Zuu, mem_iff_getElem → Zur, filter_nil → Zup, take_succ_cons → Zul, mem_range → Zuk, length → Zug
open PySem.W renaming Frag → Zzy, mg_of → Zz6, nsIn → Zyz, mg_none_of → Zyp, findIn → Zy5, fnOf → Zy1, kia_one → Zxv, emptyDict → Zxr, keepIn → Zx9, instObj → Zx6, plainGet → Zw1, hasDictIn → Zv7, isFn → Zuw, plainGet_of → Zun, lookIn → Zuj, codeIn → Zui, callWith_K → Zue
open Nat renaming le_refl → Zzx, le_trans → Zzk, lt_of_lt_of_le → Zze, ne_of_lt → Zyv, zero_le → Zym, lt_of_le_of_lt → Zy6, lt_irrefl → Zxk, ne_of_gt → Zwy, toDigits → Zww, lt_succ_of_lt → Zws, toDigits_of_lt_base → Zwf, lt_of_succ_lt_succ → Zw8, le_add_right → Zvz, not_lt_zero → Zvk, lt_succ_self → Zv1, min_eq_left → Zus, reduceAdd → Zuc, reduceSub → Zub
open PySem.Heap renaming get?_push_of_some → Zzv, lt_size → Zzn, get?_push_size → Zzh, get?_update_other → Zyt, size_push → Zy2, get?_update_self → Zxn, SameBut → Zxd, FlyingW → Zwl
open Or renaming inl → Zzq
open Option.some renaming inj → Zzm, injEq → Zw7
open Bool renaming false_ne_true → Zzd, and_eq_true → Zyy, true_and → Zyf, and_eq_true_iff → Zy8, eq_false_iff → Zw5, false_and → Zw4, and_true → Zvu, eq_iff_iff → Zvm, and_false → Zva
open Ne renaming symm → Zza
open PySem.F renaming plainAttrs_list → Zz7, slot_list_append → Zyr, type_list_append → Zyq, plainAttrs_str → Zyl, slot_str_join → Zxm, type_str_join → Zxl, slot_list_extend → Zwk, type_list_extend → Zwj, args_tuple_add_2 → Zvj, entry_tuple_add → Zv8, slot_tuple_add → Zv5, slot_list_iadd → Zv4, slot_str_split → Zv3, type_str_split → Zv2
open PySem.NameKind renaming free → Zyx, cell → Zvv
open Int renaming le_refl → Zys, lt_of_le_of_lt → Zyh, toNat_natCast → Zxq, eq_ofNat_of_zero_le → Zxh, le_trans → Zxb, add_zero → Zwx, natCast_nonneg → Zvg, lt_trans → Zvc, mul_nonneg → Zuh, emod_lt_of_pos → Zud
open Array renaming getD_eq_getD_getElem? → Zyn, length_toList → Zxz, getElem?_eq_getElem → Zx8, getElem?_toList → Zw3, getElem?_eq_some_iff → Zvs
open PySem.Builtin.Str renaming strSliceIndices → Zye, strKind → Zx1, occurrences → Zv9
open Sum renaming inr → Zy9, inl → Zvb
open PySem.Builtin.SmallTypes renaming nextOf → Zy7, ownedTupleIsFree → Zxi, ownedTupleHandOut → Zvf
open PyProof.Rows renaming slot_tuple_getitem → Zy3, callWith_type1 → Zxf
open PySem renaming intText? → Zxj, mem_of_lookup → Zxe, list_append → Zv6
open PySem.Builtin.List renaming listTooLong → Zx4
open PySem.Builtin.Slice renaming slicePlaces → Zwr, sliceAdjust → Zvl
open Option renaming isSome_iff_exists → Zwn, map_some → Zwd, getD_some → Zw0
open PySem.Builtin.Tuple renaming tupleExact → Zwm
open Sum.inr renaming inj → Zwa
open PySem.Around renaming under_plainId → Zvy
open List.cons renaming inj → Zvt, injEq → Zuq
open PySem.IsL renaming update → Zv0
open PySem.StrLaws renaming glued_eq_join → Zuy
open PySem.Calls renaming evalArgs_plain → Zut, Constant_str → Zuf
open PySem.W.KAf renaming app_list → Zuo
open PySem.Heap.SameBut renaming update → Zum
set_option maxRecDepth 100000
set_option maxHeartbeats 4000000
set_option Elab.async false
set_option linter.all false
open PySem
variable {us its:List Value}{x nm qual q:Str}{u cd oc cls:Value}{a L p f C dx Pt ea:Addr}{P prog:Program}{w:World}{h h' base B:Heap}{e tg iter elt e2:Expr}{pins pl:List (Addr×Obj)}{s s':Shared}{g':Array GenState}{t' i j n m:Nat}{ch fp wr:List Addr}{N ys ps ws loose own names:List Str}{M:Model}{A:Around}{E Q:Value->Shared->Prop}{pos pos' apos:Pos}{K:Zzy}{es ifs elts:List Expr}{body:List Stmt}{l:List (Str×Tok×Addr)}{R:Result->Shared->Prop}{lo hi:Option Int}{mA mg:Str->Option Value}{ns row:List Int}{kw:List (Str×Value)}{env:Env}{outer:List Env}{fd:FuncData}{ds:List PyData}{kindOf:Str->Option NameKind}{sc scope:Scope}{params:Arguments}{od:Option Addr}{T:String}{sl:Array (Option Value)}{items:Array Value}{XP:(Str->Option Value)->Heap->Prop}{YP:World->Heap->Prop}{cap:List Nat}{cl:List (Str×Addr)}{key:Nat->Int}{cmp:Nat->Nat->(Bool->Shared->Prop)->Shared->Prop}{kz:Str->Int}{plan:Str->List Int}
theorem FP{p:Prop}[Decidable p]:decide p=true->p:=of_decide_eq_true
theorem FQ{p:Prop}[h:Decidable p](x:p):decide p=true:=decide_eq_true x
theorem FR{p:Prop}[h:Decidable p](x:¬p):decide p=false:=decide_eq_false x
theorem FS{c:Prop}{h:Decidable c}(n:¬c){α:Sort u}{t e:α}:ite c t e=e:=if_neg n
theorem FT{c:Prop}{h:Decidable c}(n:c){α:Sort u}{t e:α}:ite c t e=t:=if_pos n
namespace L2
open PySem PySem.Spec PyProof.Rows
abbrev Key:=Sum Int Str
def Ud:Key->Value->Bool
 |.inl k,v=>Value.isInt k v
 |.inr x,v=>Value.isStrOf x v
def keyH(w:World):Key->Int
 |.inl k=>hashInt k
 |.inr x=>hashStr w x
theorem Bx:∀{k:Key} {v:Value},Ud k v=true->(∃i t,k=Zvb i/\v=Value.int i t)\/(∃x t,k=Zy9 x/\v=Value.str x t)
 |.inl i,v,h=>by
  obtain⟨t,e⟩:=Value.isInt_shape (k:=i) (v:=v) h;exact .inl ⟨i,t,rfl,e⟩
 |.inr x,v,h=>by
  obtain⟨t,e⟩:=Value.isStrOf_shape (x:=x) (v:=v) h;exact .inr ⟨x,t,rfl,e⟩
theorem j6(i:Int)(t:Tok):Ud (.inl i) (.int i t)=true:=by simp[Ud,Value.isInt]
theorem j5(x:Str)(t:Tok):Ud (.inr x) (.str x t)=true:=by simp[Ud,Value.isStrOf]
theorem A0p(a b:Int):decide ((Zvb a:Key)=Zvb b)=(a == b):=by
 by_cases e:a=b
 ·subst e;simp
 ·have h:¬ (Zvb a:Key)=Zvb b:=λq=>e (Sum.inl.inj q)
  rw[FR h];exact(beq_eq_false_iff_ne.mpr e).symm
theorem A0m(a b:Str):decide ((Zy9 a:Key)=Zy9 b)=decide (a=b):=by
 by_cases e:a=b
 ·subst e;simp
 ·have h:¬ (Zy9 a:Key)=Zy9 b:=λq=>e (Zwa q)
  rw[FR h,FR e]
theorem A0o(a:Int)(b:Str):decide ((Zvb a:Key)=Zy9 b)=false:=FR (λq=>nomatch q)
theorem A0n(a:Str)(b:Int):decide ((Zy9 a:Key)=Zvb b)=false:=FR (λq=>nomatch q)
def B5(prog:Program)(w:World):PySem.KeyKind prog w Key where
 is:=Ud
 hash:=keyH w
 inj:=λv a b ha hb=>by
  rcases Bx ha with ⟨i,t,rfl,rfl⟩ | ⟨x,t,rfl,rfl⟩
  ·rcases Bx hb with ⟨j,u,rfl,e⟩ | ⟨y,u,rfl,e⟩
   ·injection e with e1 _;rw[e1]
   ·exact nomatch e
  ·rcases Bx hb with ⟨j,u,rfl,e⟩ | ⟨y,u,rfl,e⟩
   ·exact nomatch e
   ·injection e with e1 _;rw[e1]
 byValue:=λk v h=>by
  rcases Bx h with ⟨i,t,rfl,rfl⟩ | ⟨x,t,rfl,rfl⟩<;>rfl
 pyHash:=λhv h=>by
  rcases Bx hv with ⟨i,t,rfl,rfl⟩ | ⟨x,t,rfl,rfl⟩
  ·exact wpAny_pyHash_int h
  ·exact wpAny_pyHash_str h
 eqBool:=λhu hv h=>by
  rcases Bx hu with ⟨i,t,rfl,rfl⟩ | ⟨x,t,rfl,rfl⟩
  ·rcases Bx hv with ⟨j,u,rfl,rfl⟩ | ⟨y,u,rfl,rfl⟩
   ·rw[A0p] at h;exact wpAny_eqBool_int h
   ·rw[A0o] at h;exact SeqAt.EqAt.int_str i t y u _ _ _ _ h
  ·rcases Bx hv with ⟨j,u,rfl,rfl⟩ | ⟨y,u,rfl,rfl⟩
   ·rw[A0n] at h;exact SeqAt.EqAt.str_int x t j u _ _ _ _ h
   ·rw[A0m] at h;exact wpAny_eqBool_str h
 «strs»:=λk x t v h=>by
  rcases Bx h with ⟨i,u,rfl,e⟩ | ⟨y,u,rfl,e⟩
  ·exact nomatch e
  ·injection e with e1 _
   subst e1;cases v<;>rfl
theorem Y3(prog:Program)(w:World)(i:Int)(t:Tok):(B5 prog w).is (.inl i) (.int i t)=true:=j6 i t
theorem G4(prog:Program)(w:World)(x:Str)(t:Tok):(B5 prog w).is (.inr x) (.str x t)=true:=j5 x t
inductive V where
 |non | bl (b:Bool) | int (i:Int) | str (x:Str) | byt (b:Array UInt8) | flt (b:UInt64) | ref (a:Addr) | ty (n:String)
 deriving DecidableEq
variable {xs:List V}{v:V}
def AC:V->Value->Prop
 |.non,u=>u=Value.none
 |.bl b,u=>u=Value.bool b
 |.int i,u=>∃t,u=Value.int i t
 |.str x,u=>∃t,u=Value.str x t
 |.byt b,u=>∃t,u=Value.bytes b t
 |.flt b,u=>∃t,u=Value.float b t
 |.ref a,u=>u=Value.ref a
 |.ty n,u=>u=Value.type n
abbrev AB:List V->List Value->Prop:=Paired AC
theorem AB.length(r:AB xs us):xs.length=us.length:=Paired.length r
theorem AB.get:∀{xs:List V} {us:List Value} {i:Nat} {x:V},AB xs us->xs[i]?=some x->∃u,us[i]?=some u/\AC x u
 |_,_,_,_,.nil,e=>by simp at e
 |_,_,0,_,.cons r _,e=>by simp at e;subst e;exact⟨_,rfl,r⟩
 |_,_,i+1,x,.cons _ t,e=>by
  obtain⟨u,h1,h2⟩:=AB.get (i:=i) (x:=x) t (by simpa using e);exact⟨u,by simpa using h1,h2⟩
theorem AB.set{x:V}(r:AC x u):∀{xs:List V} {us:List Value} (i:Nat),AB xs us->AB (xs.set i x) (us.set i u)
 |_,_,_,.nil=>.nil
 |_,_,0,.cons _ t=>.cons r t
 |_,_,i+1,.cons q t=>.cons q (AB.set r i t)
theorem AB.append:∀{xs ys:List V} {us ws:List Value},AB xs us->AB ys ws->AB (xs++ys) (us++ws)
 |_,_,_,_,.nil,s=>s
 |_,_,_,_,.cons r t,s=>.cons r (AB.append t s)
theorem AB.take:∀{xs:List V} {us:List Value} (n:Nat),AB xs us->AB (xs.take n) (us.take n)
 |_,_,0,_=>.nil
 |_,_,_+1,.nil=>.nil
 |_,_,n+1,.cons r t=>.cons r (AB.take n t)
theorem AB.drop:∀{xs:List V} {us:List Value} (n:Nat),AB xs us->AB (xs.drop n) (us.drop n)
 |_,_,0,r=>r
 |_,_,_+1,.nil=>.nil
 |_,_,n+1,.cons _ t=>AB.drop n t
def AZ:Option V->Option Value->Prop
 |some v,some u=>AC v u
 |none,none=>True
 |_,_=>False
def KV{κ:Type}:List (κ×V)->List (κ×Value)->Prop:=Paired λ(p:κ×V) (q:κ×Value)=>p.1=q.1/\AC p.2 q.2
def kV:Key->V
 |.inl i=>.int i
 |.inr x=>.str x
inductive HO where
 |lst (xs:List V)
 |tup (xs:List V)
 |dK (kvs:List (Key×V)) | dT (kvs:List (List Key×V))
 |set (S:Int->Bool) (n:Nat)
 |ins (C dx:Addr) (fs:List (Str×V))
 |own (x:Addr)
 |xd (fs:List (Str×V))
 |met (f x:Addr)
 |rng (lo hi:Int)
 |frz (o:Obj) (u:HO)
 |tbl (ps:Array Value)
 |ext (φ:Heap->Prop)
abbrev Hp:=Addr->Option HO
variable {H H':Hp}
def upd(H:Hp)(a:Addr)(o:HO):Hp:=λb=>if b=a then some o else H b
theorem A1{o:HO}:upd H a o a=some o:=by unfold upd;rw[FT rfl]
theorem Ab{b:Addr}{o:HO}(h:b≠a):upd H a o b=H b:=by unfold upd;rw[FS h]
theorem Y1{b:Addr}{o u:HO}(h:H a=some o)(h':H b=some u)(d:o≠u):a≠b:=by
 intro e;subst e;rw[h] at h';exact d (Zzm h')
theorem A9{b:Addr}{o:HO}(h:H a=some o)(h':H b=none):a≠b:=by
 intro e;subst e;rw[h] at h';cases h'
section
variable (P:Program)(w:World)
def AF(H:Hp)(h:Heap)(a:Addr):HO->Prop
 |.lst xs=>xs.length<=sizeLine/\∃(its:List Value) (n:Nat),AB xs its/\h.get? a=some {cls:=.type "list",data:=.seq its.toArray n}
 |.tup xs=>xs.length<=sizeLine/\∃its:List Value,AB xs its/\IsTup h a its.toArray
 |.dK kvs=>kvs.length<=sizeLine/\(a == sysModules)=false/\∃vs,KV kvs vs/\h.DictOf (B5 P w) a vs
 |.dT kvs=>kvs.length<=sizeLine/\(a == sysModules)=false/\∃xs:List (List Key×Addr×Value),
   Paired (λ(p:List Key×V) (q:List Key×Addr×Value)=>p.1=q.1/\H q.2.1=some (.tup (p.1.map kV))/\AC p.2 q.2.2) kvs xs /\
   ∃o es ep,h.get? a=some o/\o.ExactDict/\o.data=.dict es ep/\es.toList=xs.map (entryOfKey (tupleKind (B5 P w)))/\(xs.map (·.1)).Nodup
 |.set S n=>h.SetOf (intKind P w) a S n
 |.ins C dx fs=>H dx=some (.own a)/\fs.length<=1000/\dx≠a/\h.get? a=some (Zx6 C dx) /\
   ∃mA,h.Ns1 dx mA/\(∀f,AZ (fs.lookup f) (mA f))/\PySem.Within mA (fs.map (·.1))
 |.own _=>∃o,h.get? a=some o
 |.xd fs=>∃mA,h.Ns1 a mA/\∀f,AZ (fs.lookup f) (mA f)
 |.rng lo hi=>∃t u v,h.get? a=some {cls:=.type "range",data:=.fields #[.int lo t,.int hi u,.int 1 v]}
 |.frz o u=>h.get? a=some o/\AF H h a u
 |.tbl ps=>h.get? a=some {cls:=.none,data:=.fields ps}
 |.met f x=>h.get? a=some (PySem.W.methodObj (.ref f) (.ref x))
 |.ext φ=>φ h/\(∃o,h.get? a=some o)/\∀h1 h2:Heap,φ h1->(∀o,h1.get? a=some o->h2.get? a=some o)->φ h2
def HOk(H:Hp)(h:Heap):Prop:=∀a o,H a=some o->AF P w H h a o
end
section
variable {o:HO}
theorem AF.lt(x:AF P w H h a o):a<h.objs.size:=by
 cases o with
 |lst xs=>obtain⟨_,_,_,_,e⟩:=x;exact Zzn e
 |tup xs=>obtain⟨_,_,_,p⟩:=x;exact p.lt
 |dK kvs=>obtain⟨_,_,_,_,o,_,_,e,_⟩:=x;exact Zzn e
 |dT kvs=>obtain⟨_,_,_,_,o,_,_,e,_⟩:=x;exact Zzn e
 |set S n=>obtain⟨o,_,_,_,e,_⟩:=x;exact Zzn e
 |ins C dx fs=>obtain⟨_,_,_,e,_⟩:=x;exact Zzn e
 |own y=>obtain⟨_,e⟩:=x;exact Zzn e
 |xd fs=>obtain⟨_,⟨_,_,_,e,_⟩,_⟩:=x;exact Zzn e
 |rng lo hi=>obtain⟨_,_,_,e⟩:=x;exact Zzn e
 |frz ob u=>obtain⟨e,_⟩:=x;exact Zzn e
 |tbl ps=>exact Zzn (show h.get? a=some _ from x)
 |met f y=>exact Zzn (show h.get? a=some _ from x)
 |ext φ=>obtain⟨_,⟨_,e⟩,_⟩:=x;exact Zzn e
theorem Paired.mapP{α β:Type}{F G:α->β->Prop}:∀{l₁:List α} {l₂:List β},Paired F l₁ l₂->(∀a b,F a b->G a b)->Paired G l₁ l₂
 |_,_,.nil,_=>.nil
 |_,_,.cons r t,f=>.cons (f _ _ r) (Paired.mapP t f)
theorem AF.stay(x:AF P w H h a o)(k:∀b u,(b=a\/H b=some (.own a))->h.get? b=some u->h'.get? b=some u)
  (ho:∀b,H b=some (.own a)->H' b=some (.own a)) (ht:∀b xs,H b=some (.tup xs)->H' b=some (.tup xs)):AF P w H' h' a o:=by
 induction o with
 |lst xs=>obtain⟨z,its,n,r,e⟩:=x;exact⟨z,its,n,r,k _ _ (.inl rfl) e⟩
 |tup xs=>obtain⟨z,its,r,ob,e,c⟩:=x;exact⟨z,its,r,ob,k _ _ (.inl rfl) e,c⟩
 |dK kvs=>obtain⟨z,y,vs,r,ob,es,ep,e,c⟩:=x;exact⟨z,y,vs,r,ob,es,ep,k _ _ (.inl rfl) e,c⟩
 |dT kvs =>
  obtain⟨z,y,xs,r,ob,es,ep,e,c⟩:=x;exact⟨z,y,xs,Paired.mapP r λp q z=>⟨z.1,ht _ _ z.2.1,z.2.2⟩,ob,es,ep,k _ _ (.inl rfl) e,c⟩
 |set S n=>obtain⟨ob,es,ep,t,e,c⟩:=x;exact⟨ob,es,ep,t,k _ _ (.inl rfl) e,c⟩
 |ins C dx fs =>
  obtain⟨d,z,ne,e,mA,⟨od,es,ep,e2,c⟩,r⟩:=x;exact⟨ho _ d,z,ne,k _ _ (.inl rfl) e,mA,⟨od,es,ep,k _ _ (.inr d) e2,c⟩,r⟩
 |own y=>obtain⟨ob,e⟩:=x;exact⟨ob,k _ _ (.inl rfl) e⟩
 |xd fs=>obtain⟨mA,⟨od,es,ep,e,c⟩,r⟩:=x;exact⟨mA,⟨od,es,ep,k _ _ (.inl rfl) e,c⟩,r⟩
 |rng lo hi=>obtain⟨t,u,v,e⟩:=x;exact⟨t,u,v,k _ _ (.inl rfl) e⟩
 |frz ob u ih=>obtain⟨e,q⟩:=x;exact⟨k _ _ (.inl rfl) e,ih q⟩
 |tbl ps =>
  have e:h.get? a=some {cls:=.none,data:=.fields ps}:=x;show h'.get? a=some {cls:=.none,data:=.fields ps};exact k a _ (.inl rfl) e
 |met f y =>
  have e:h.get? a=some (PySem.W.methodObj (.ref f) (.ref y)):=x;show h'.get? a=some (PySem.W.methodObj (.ref f) (.ref y));exact k a _ (.inl rfl) e
 |ext φ=>obtain⟨p,⟨o,e⟩,st⟩:=x;exact⟨st _ _ p λo q=>k _ _ (.inl rfl) q,⟨o,k _ _ (.inl rfl) e⟩,st⟩
theorem HOk.lt(x:HOk P w H h)(e:H a=some o):a<h.objs.size:=(x a o e).lt
theorem HOk.fresh(x:HOk P w H h)(e:h.objs.size<=a):H a=none:=by
 cases q:H a with
 |none=>rfl
 |some u=>exact absurd (Zze (x.lt q) e) (Zxk _)
theorem HOk.kept(x:HOk P w H h)(k:∀b u,h.get? b=some u->h'.get? b=some u):HOk P w H h':=λa o e =>
 (x a o e).stay (λb u _ q=>k b u q) (λ_ q=>q) λ_ _ q=>q
theorem HOk.laid(x:HOk P w H h)(k:∀b u,h.get? b=some u->h'.get? b=some u)(hp:h.objs.size<=a)(new:AF P w (upd H a o) h' a o):HOk P w (upd H a o) h':=λb u e=>by
 have hn:=x.fresh hp;by_cases hb:b=a
 ·subst hb;rw[A1] at e;cases e;exact new
 ·rw[Ab hb] at e;exact(x b u e).stay (λc v _ q=>k c v q) (λc q=>by rw[Ab (A9 q hn)];exact q) λc xs q=>by rw[Ab (A9 q hn)];exact q
end
def Rd(H:Hp)(a:Addr)(u:HO):Prop:=H a=some u\/∃o,H a=some (.frz o u)
theorem Rd.ok{u:HO}(r:Rd H a u)(x:HOk P w H h):AF P w H h a u:=by
 rcases r with r | ⟨o,r⟩
 ·exact x a u r
 ·obtain⟨_,q⟩:=x a _ r;exact q
def Mut:Option HO->Prop
 |some (.lst _)=>True
 |some (.dK _)=>True
 |some (.dT _)=>True
 |some (.set _ _)=>True
 |some (.ins _ _ _)=>True
 |some (.ext _)=>True
 |_=>False
section
variable {x e:Addr}{o':HO}
theorem HOk.write(ok:HOk P w H h)(mu:Mut (H x))(he:e=x\/H e=some (.own x))(k:∀b u,b≠e->h.get? b=some u->h'.get? b=some u)(heo:∃u,h'.get? e=some u)
  (new:AF P w (upd H x o') h' x o'):HOk P w (upd H x o') h':=λb u q=>by
 have nown:∀c y,H c=some (.own y)->c≠x:=λc y r z=>by subst z;rw[r] at mu;exact mu
 have ntup:∀c xs,H c=some (.tup xs)->c≠x:=λc xs r z=>by subst z;rw[r] at mu;exact mu
 by_cases hb:b=x
 ·subst hb;rw[A1] at q;cases q;exact new
 ·rw[Ab hb] at q;by_cases hbe:b=e
  ·have q':H b=some (.own x):=by
    rcases he with z | z
    ·exact absurd (hbe.trans z) hb
    ·rw[hbe];exact z
   rw[q] at q';cases q';obtain⟨v,hv⟩:=heo;exact⟨v,by rw[hbe];exact hv⟩
  ·refine(ok b u q).stay (λc v hc r=>k c v ?_ r) (λc r=>by rw[Ab (nown c b r)];exact r) λc xs r=>by rw[Ab (ntup c xs r)];exact r
   rcases hc with rfl | hc
   ·exact hbe
   ·rintro rfl;rcases he with z | z
    ·exact nown c b hc z
    ·rw[hc] at z;cases z;exact hb rfl
end
structure Un(fs ex:List Addr)(H H':Hp)(h h':Heap):Prop where
 keep:∀b o,h.get? b=some o->H b=none->b∉fs->b∉ex->h'.get? b=some o
 slot:∀b o,h.get? b=some o->H b=none->b∈fs->b∉ex->∃sl,h'.get? b=some {o with slots:=sl}
 free:∀b o,h.get? b=some o->H b=none->b∉ex->H' b=none
 there:∀b o,h.get? b=some o->b∉ex->∃o',h'.get? b=some o'
 tups:∀b xs,H b=some (.tup xs)->H' b=some (.tup xs)
 frzs:∀b o u,H b=some (.frz o u)->H' b=some (.frz o u)
 tbls:∀b ps,H b=some (.tbl ps)->∃more,H' b=some (.tbl (ps++more))
section
variable {fs fs' ex ex':List Addr}{H1 H2:Hp}{h1 h2:Heap}{x e:Addr}{o:HO}
theorem Un.any(u:Un fs ex H H1 h h1){b:Addr}{ob:Obj}(q:h.get? b=some ob)(n:H b=none)(hx:b∉ex):∃sl,h1.get? b=some {ob with slots:=sl}:=by
 by_cases hb:b∈fs
 ·exact u.slot b ob q n hb hx
 ·exact⟨ob.slots,u.keep b ob q n hb hx⟩
theorem Un.kept(k:∀b u,h.get? b=some u->h'.get? b=some u):Un fs ex H H h h' :=
 ⟨λb ob q _ _ _=>k b ob q,λb ob q _ _ _=>⟨ob.slots,k b ob q⟩,λ_ _ _ n _=>n,λb ob q _=>⟨ob,k b ob q⟩,λ_ _ q=>q,λ_ _ _ q=>q,λ_ ps q=>⟨#[],by rw[q];simp⟩⟩
theorem Un.refl:Un fs ex H H h h:=Un.kept λ_ _ q=>q
theorem Un.laid(k:∀b u,h.get? b=some u->h'.get? b=some u)(hp:h.objs.size<=a)(hn:H a=none):Un fs ex H (upd H a o) h h' where
 keep:=λb u q _ _ _=>k b u q
 slot:=λb u q _ _ _=>⟨u.slots,k b u q⟩
 free:=λb u q n _=>by rw[Ab (Zyv (Zze (Zzn q) hp))];exact n
 there:=λb u q _=>⟨u,k b u q⟩
 tups:=λb xs q=>by rw[Ab (A9 q hn)];exact q
 frzs:=λb u xs q=>by rw[Ab (A9 q hn)];exact q
 tbls:=λb ps q=>⟨#[],by rw[Ab (A9 q hn),q];simp⟩
theorem Un.write(mu:Mut (H x))(he:e=x\/H e=some (.own x))(k:∀b u,b≠e->h.get? b=some u->h'.get? b=some u)(heo:∃u,h'.get? e=some u):Un fs ex H (upd H x o) h h':=by
 have hx:∀b,H b=none->b≠x:=λb n z=>by subst z;rw[n] at mu;exact mu
 have hb:∀b,H b=none->b≠e:=λb n z=>by
  subst z;rcases he with r | r
  ·exact hx b n r
  ·rw[n] at r;cases r
 have hm:∀b u,H b=some u->¬ Mut (some u)->b≠x:=λb u q nm z=>by subst z;rw[q] at mu;exact nm mu
 refine⟨λb u q n _ _=>k b u (hb b n) q,λb u q n _ _=>⟨u.slots,k b u (hb b n) q⟩,λb u q n _=>by rw[Ab (hx b n)];exact n,λb u q _=>?_,
  λb xs q=>by rw[Ab (hm b _ q λz=>z)];exact q,λb u xs q=>by rw[Ab (hm b _ q λz=>z)];exact q,λb ps q=>⟨#[],by rw[Ab (hm b _ q λz=>z),q];simp⟩⟩
 by_cases hbe:b=e
 ·subst hbe;exact heo
 ·exact⟨u,k b u hbe q⟩
end
def trk(h:Heap)(H:Hp):List Addr:=(Zyo h.objs.size).filter λa=>(H a).isSome
def T6(h:Heap)(H:Hp):Heap:=PySem.W.hideAll h (trk h H)
theorem jb(h:Heap)(H:Hp):(T6 h H).objs.size=h.objs.size:=PySem.W.hideAll_size _ _
theorem qm{b:Addr}{o:Obj}(e:h.get? b=some o)(n:H b=none):(T6 h H).get? b=some o :=
 PySem.W.hideAll_get _ e λhm=>by
  have q:(H b).isSome=true:=(Zx5.mp hm).2;rw[n] at q;simp at q
theorem wj{b:Addr}{o:Obj}(e:(T6 h H).get? b=some o):h.get? b=some o/\H b=none:=by
 have e':h.get? b=some o:=PySem.W.of_hideAll (trk h H) e;refine⟨e',?_⟩;cases q:H b with
 |none=>rfl
 |some x =>
  have hm:b∈trk h H:=Zx5.mpr ⟨Zuk.mpr (Zzn e'),by simp[q]⟩;have z:(T6 h H).get? b=none:=PySem.W.hideAll_none (trk h H) hm;rw[z] at e;cases e
def E1(g h:Heap)(L:Addr):List (Addr×Obj):=(Zyo h.objs.size).filterMap λa=>if a=L\/(g.get? a).isSome=true then none else (h.get? a).map λo=>(a,o)
theorem Os{g:Heap}{o:Obj}(h1:a≠L)(h2:g.get? a=none)(h3:h.get? a=some o):(a,o)∈E1 g h L :=
 Zwz.mpr ⟨a,Zuk.mpr (Zzn h3),by simp[h1,h2,h3]⟩
theorem Rk{g:Heap}{p:Addr×Obj}(hp:p∈E1 g h L):p.1≠L/\g.get? p.1=none/\h.get? p.1=some p.2:=by
 obtain⟨b,_,e⟩:=Zwz.mp hp;split at e
 ·cases e
 ·rename_i hn;cases q:h.get? b with
  |none=>rw[q] at e;simp at e
  |some u =>
   rw[q] at e;simp only[Zwd,Zw7] at e;subst e;refine⟨λz=>hn (.inl z),?_,q⟩;show g.get? b=none;cases r:g.get? b with
   |none=>rfl
   |some v=>exact(hn (.inr (by simp[r]))).elim
def AO(g h:Heap)(L d:Addr):List (Addr×Obj):=(E1 g h L).filter λp=>decide (p.1≠d)
theorem Xz{g:Heap}:News g L h (E1 g h L):=λp hp=>by obtain⟨a,b,c⟩:=Rk hp;exact⟨c,a,b⟩
structure Mod(K:Zzy)(mg:Str->Option Value)(base:Heap):Prop where
 kin:K.In base
 glob:base.Ns mainGlobals mg
 blt:∃mb,base.Ns builtinsNs mb/\∀x:Str,x ≠ "__name__" -> mb x=bootBuiltins x
 nolimit:base.NoLimit
structure Cx where
 prog:Program
 w:World
 K:Zzy
 mg:Str->Option Value
 base:Heap
 A:Around
 N:List Str
 s₀:Shared
 H₀:Hp
 env:Env
 outer:List Env
 stack:List Env
 ex:List Addr
 fn:Str->Bool
 calm:Bool
 pn:List (Addr×Obj)
 xe:Value->Shared->Prop
variable {X:Cx}
def frs(l:List Env):List Addr:=l.filterMap (·.frame)
abbrev Cx.fs(X:Cx):List Addr:=frs X.outer
def Vis(sc:Scope)(x:Str):Prop:=sc.names.lookup x=some .local\/sc.names.lookup x=some .cell\/sc.names.lookup x=some .free
def Loc(sc:Scope)(x:Str):Prop:=sc.names.lookup x=some .local\/sc.names.lookup x=some .cell
def Look(env:Env)(h:Heap)(m:Str->Option Value)(x:Str)(u:Value):Prop :=
 (env.kindOf x=some .local/\m x=some u)\/((env.kindOf x=some .cell\/env.kindOf x=some .free)/\∃c,env.cells.lookup x=some c/\h.IsCell c (some u))
structure Cx.Ok(X:Cx):Prop where
 mod:Mod X.K X.mg X.base
 kind:X.env.scope.kind=.function
 glob:X.env.globals=mainGlobals
 blt:X.env.builtins=builtinsNs
 above:X.s₀.heap.objs.size<=X.env.locals
 inj:∀x y c,X.env.cells.lookup x=some c->X.env.cells.lookup y=some c->x=y
 has:∀x,(X.env.kindOf x=some .cell\/X.env.kindOf x=some .free)->∃c,X.env.cells.lookup x=some c
 cab:∀x c,X.fn x=true->X.env.cells.lookup x=some c->X.s₀.heap.objs.size<=c
 hd:X.calm=true->X.A.handled=none
 frames:X.A.frames=some X.stack
 stk:X.stack=X.outer\/(X.stack=X.env::X.outer/\X.env.frame=some X.env.locals)
 exf:∀b∈X.ex,b≠X.env.locals/\∀x c,X.env.cells.lookup x=some c->c≠b
 bs:∀b o,X.base.get? b=some o->X.s₀.heap.get? b=some o/\X.H₀ b=none
 bsz:X.base.objs.size<=X.s₀.heap.objs.size
 noex:∀b o,X.base.get? b=some o->b∉X.ex
 exfs:∀b∈X.ex,b∉X.fs
 funs:X.s₀.heap.FunFrames X.base X.outer
 frf:∀b∈X.fs,X.H₀ b=none
structure Inv(X:Cx)(pins:List (Addr×Obj))(Z:List (Option V))(H:Hp)(s:Shared):Prop where
 ok:X.Ok
 os:s.os=X.s₀.os
 bare:AllBare s.gens
 base:Un X.fs X.ex X.H₀ H X.s₀.heap s.heap
 loc:∃m,s.heap.Ns X.env.locals m/\∀(i:Nat) (x:Str) (v:V),X.N[i]?=some x->Z[i]?=some (some v)->Vis X.env.scope x->∃u,AC v u/\Look X.env s.heap m x u
 cell:∀x c,X.env.cells.lookup x=some c->∃v,s.heap.IsCell c v
 free:H X.env.locals=none
 freeC:∀x c,X.env.cells.lookup x=some c->H c=none
 pin:∀p∈X.pn++pins,s.heap.get? p.1=some p.2/\H p.1=none/\p.1≠X.env.locals/\p.1∉X.fs/\∀v,p.2.data≠.cell v
 hok:HOk X.prog X.w H s.heap
 len:Z.length=X.N.length
section
variable {Z:List (Option V)}
theorem Cx.Ok.nofr(ok:X.Ok){b:Addr}{o:Obj}(e:X.base.get? b=some o):b∉X.fs:=λhb=>by
 have:=(ok.funs.mem hb).1;rw[e] at this;cases this
theorem Inv.bs(I:Inv X pins Z H s):∀b o,X.base.get? b=some o->s.heap.get? b=some o/\H b=none:=λb o e =>
 ⟨I.base.keep b o (I.ok.bs b o e).1 (I.ok.bs b o e).2 (I.ok.nofr e) (I.ok.noex b o e),I.base.free b o (I.ok.bs b o e).1 (I.ok.bs b o e).2 (I.ok.noex b o e)⟩
theorem Inv.bk(I:Inv X pins Z H s):∀b o,X.base.get? b=some o->s.heap.get? b=some o:=λb o e=>(I.bs b o e).1
theorem Inv.mod(I:Inv X pins Z H s):Mod X.K X.mg X.base:=I.ok.mod
theorem Inv.kIn(I:Inv X pins Z H s):X.K.In s.heap:=I.ok.mod.kin.keeps I.bk
theorem Inv.fr(I:Inv X pins Z H s):∃m,Fr X.base X.env.locals s.heap m :=
 let ⟨m,hn,_⟩:=I.loc
 ⟨m,hn,I.bk,Zzk I.ok.bsz I.ok.above⟩
theorem Inv.lt(I:Inv X pins Z H s):X.env.locals<s.heap.objs.size:=by obtain⟨_,hn,_⟩:=I.loc;exact hn.lt
theorem Inv.sz(I:Inv X pins Z H s):X.s₀.heap.objs.size<=s.heap.objs.size:=Zzk I.ok.above (Nat.le_of_lt I.lt)
theorem Inv.nofs(I:Inv X pins Z H s)(h:s.heap.objs.size<=a):a∉X.fs:=λhb=>by
 obtain⟨_,o,ho,_⟩:=I.ok.funs.mem hb;exact absurd (Zze (Zzn ho) (Zzk I.sz h)) (Zxk _)
theorem Inv.cne(I:Inv X pins Z H s):∀x c,X.env.cells.lookup x=some c->c≠X.env.locals:=λx c e z=>by
 obtain⟨v,o,ho,hd⟩:=I.cell x c e;obtain⟨m,⟨o',es,ep,ho',hd',_⟩,_⟩:=I.loc;rw[z,ho'] at ho;cases ho;rw[hd'] at hd;cases hd
theorem Inv.funs(I:Inv X pins Z H s):s.heap.FunFrames X.base X.outer:=by
 have all:∀(l:List Env),(∀b∈frs l,b∈X.fs)->X.s₀.heap.FunFrames X.base l->s.heap.FunFrames X.base l:=by
  intro l;induction l with
  |nil=>intro _ _;trivial
  |cons env r ih =>
   intro hs hl;obtain⟨hk,⟨L,o,hf,hn,ho,hd⟩,hr⟩:=hl;have hL:L∈X.fs:=hs L (by unfold frs;rw[Zwi,hf];exact Zzj);obtain⟨sl,e⟩:=I.base.slot L o ho (I.ok.frf L hL) hL λz=>I.ok.exfs L z hL;exact⟨hk,⟨L,_,hf,hn,e,hd⟩,ih (λb hb=>hs b (by unfold frs;rw[Zwi,hf];exact Zzl _ hb)) hr⟩
 exact all X.outer (λ_ hb=>hb) I.ok.funs
theorem Inv.stack(I:Inv X pins Z H s):s.heap.FunFrames X.base X.stack:=by
 rcases I.ok.stk with e | ⟨e,hf⟩
 ·rw[e];exact I.funs
 ·rw[e];obtain⟨m,hn,_⟩:=I.loc;refine .cons (by rw[I.ok.kind];decide) hf hn ?_ I.funs;exact Heap.get?_none_of_le (Zzk I.ok.bsz I.ok.above)
theorem Inv.stkSub(I:Inv X pins Z H s):∀b∈frs X.stack,b∈X.env.locals::X.fs:=λb hb=>by
 rcases I.ok.stk with e | ⟨e,hf⟩
 ·rw[e] at hb;exact Zzl _ hb
 ·rw[e] at hb;unfold frs at hb;rw[Zwi,hf] at hb;exact hb
theorem Inv.stkFree(I:Inv X pins Z H s):∀b∈frs X.stack,H b=none:=λb hb=>by
 rcases Zzu.mp (I.stkSub b hb) with e | hb
 ·rw[e];exact I.free
 ·obtain⟨_,o,ho,_⟩:=I.ok.funs.mem hb;exact I.base.free b o ho (I.ok.frf b hb) λz=>I.ok.exfs b z hb
theorem Inv.step{d':Drawn}(I:Inv X pins Z H s)
  (hch:∀b∈ch,(b∈X.ex\/X.s₀.heap.objs.size<=b)/\b≠X.env.locals/\(∀x c,X.env.cells.lookup x=some c->c≠b)/\∀p∈X.pn++pins,p.1≠b)
  (keep:∀b o,b≠X.env.locals->b∉X.fs->b∉ch->s.heap.get? b=some o->H b=none->h'.get? b=some o)
  (slot:∀b o,b≠X.env.locals->b∈X.fs->b∉ch->s.heap.get? b=some o->H b=none->∃sl,h'.get? b=some {o with slots:=sl}) (free:∀b o,b∉ch->s.heap.get? b=some o->H b=none->H' b=none)
  (there:∀b o,b∉ch->s.heap.get? b=some o->∃o',h'.get? b=some o')
  (tups:∀b xs,H b=some (.tup xs)->H' b=some (.tup xs)) (frzs:∀b o u,H b=some (.frz o u)->H' b=some (.frz o u)) (tbls:∀b ps,H b=some (.tbl ps)->∃more,H' b=some (.tbl (ps++more)))
  (ns:∀m,s.heap.Ns X.env.locals m->h'.Ns X.env.locals m) (hok:HOk X.prog X.w H' h') (hg:AllBare g') :
  Inv X pins Z H' {s with heap:=h',gens:=g',drawn:=d',toks:=t'}:=by
 have neL:∀b o,X.s₀.heap.get? b=some o->b≠X.env.locals:=λb o e=>Zyv (Zze (Zzn e) I.ok.above);have neC:∀b o,X.s₀.heap.get? b=some o->b∉X.ex->b∉ch:=λb o e hx hb=>by
  rcases(hch b hb).1 with z | z
  ·exact hx z
  ·exact absurd (Zze (Zzn e) z) (Zxk _)
 have Dv:∀x c,X.env.cells.lookup x=some c->∀v,s.heap.IsCell c v->h'.IsCell c v:=λx c e v z0=>by
  obtain⟨o,ho,hd⟩:=z0;have nch:c∉ch:=λz=>(hch c z).2.2.1 x c e rfl;by_cases hc:c∈X.fs
  ·obtain⟨sl,q⟩:=slot c o (I.cne x c e) hc nch ho (I.freeC x c e);exact⟨_,q,hd⟩
  ·exact⟨o,keep c o (I.cne x c e) hc nch ho (I.freeC x c e),hd⟩
 refine⟨I.ok,I.os,hg,⟨λb o e n hb hx=>?_,λb o e n hb hx=>?_,λb o e n hx=>?_,λb o e hx=>?_,λb xs e=>tups b xs (I.base.tups b xs e),λb o xs e=>frzs b o xs (I.base.frzs b o xs e),λb ps e=>?_⟩,?_,λx c e=>?_,?_,λx c e=>?_,λp hp=>?_,hok,I.len⟩
 ·exact keep b o (neL b o e) hb (neC b o e hx) (I.base.keep b o e n hb hx) (I.base.free b o e n hx)
 ·obtain⟨sl,e1⟩:=I.base.slot b o e n hb hx;obtain⟨sl',e2⟩:=slot b _ (neL b o e) hb (neC b o e hx) e1 (I.base.free b o e n hx);exact⟨sl',e2⟩
 ·obtain⟨o',e1⟩:=I.base.there b o e hx;exact free b o' (neC b o e hx) e1 (I.base.free b o e n hx)
 ·obtain⟨o',e1⟩:=I.base.there b o e hx;exact there b o' (neC b o e hx) e1
 ·obtain⟨m1,e1⟩:=I.base.tbls b ps e;obtain⟨m2,e2⟩:=tbls b _ e1;exact⟨m1++m2,by rw[e2,Array.append_assoc]⟩
 ·obtain⟨m,hn,hl⟩:=I.loc;refine⟨m,ns m hn,λi x v e1 e2 e3=>?_⟩;obtain⟨u,r,l⟩:=hl i x v e1 e2 e3;refine⟨u,r,?_⟩;rcases l with l | ⟨k,c,e,z⟩
  ·exact .inl l
  ·exact .inr ⟨k,c,e,Dv x c e _ z⟩
 ·obtain⟨v,z⟩:=I.cell x c e;exact⟨v,Dv x c e v z⟩
 ·obtain⟨m,⟨o,_,_,ho,_⟩,_⟩:=I.loc;exact free _ o (λz=>(hch _ z).2.1 rfl) ho I.free
 ·obtain⟨v,o,ho,hd⟩:=I.cell x c e;exact free c o (λz=>(hch c z).2.2.1 x c e rfl) ho (I.freeC x c e)
 ·obtain⟨e,n,ne,nf,d⟩:=I.pin p hp;have nch:p.1∉ch:=λz=>(hch p.1 z).2.2.2 p hp rfl;exact⟨keep p.1 p.2 ne nf nch e n,free p.1 p.2 nch e n,ne,nf,d⟩
theorem Inv.un(I:Inv X pins Z H s)(u:Un X.fs [] H H' s.heap h')(hok:HOk X.prog X.w H' h'):Inv X pins Z H' {s with heap:=h',toks:=t'}:=by
 obtain⟨m,⟨o,es,ep,ho,r⟩,_⟩:=id I.loc;obtain⟨sl,hL⟩:=u.any ho I.free (by simp);exact I.step (g':=s.gens) (d':=s.drawn) (ch:=[]) (λ_ z=>nomatch z) (λb o _ hb _ e n=>u.keep b o e n hb (by simp)) (λb o _ hb _ e n=>u.slot b o e n hb (by simp)) (λb o _ e n=>u.free b o e n (by simp)) (λb o _ e=>u.there b o e (by simp)) u.tups u.frzs u.tbls (λm' hm=>by
  obtain⟨o',es',ep',ho',r'⟩:=hm
  rw[ho] at ho';cases ho'
  exact⟨_,es',ep',hL,r'⟩) hok I.bare
theorem Inv.call{d':Drawn}(I:Inv X pins Z H s)(u:Un (frs X.stack) ch H H' s.heap h')(hok:HOk X.prog X.w H' h')(hg:AllBare g')
  (hch:∀b∈ch,(b∈X.ex\/X.s₀.heap.objs.size<=b)/\b≠X.env.locals/\(∀x c,X.env.cells.lookup x=some c->c≠b)/\∀p∈X.pn++pins,p.1≠b) :
  Inv X pins Z H' {s with heap:=h',gens:=g',drawn:=d',toks:=t'}:=by
 obtain⟨m,⟨o,es,ep,ho,r⟩,_⟩:=id I.loc;obtain⟨sl,hL⟩:=u.any ho I.free λz=>(hch _ z).2.1 rfl;exact I.step (ch:=ch) hch (λb o hL hb hc e n=>u.keep b o e n (λz=>(Zzu.mp (I.stkSub b z)).elim hL hb) hc) (λb o _ _ hc e n=>u.any e n hc) (λb o hc e n=>u.free b o e n hc) (λb o hc e=>u.there b o e hc) u.tups u.frzs u.tbls (λm' hm=>by
  obtain⟨o',es',ep',ho',r'⟩:=hm
  rw[ho] at ho';cases ho'
  exact⟨_,es',ep',hL,r'⟩) hok hg
theorem Inv.turned{it:Addr}(I:Inv X pins Z H s)(k:∀b o,b≠it->s.heap.get? b=some o->h'.get? b=some o)(hn:H it=none)(hL:it≠X.env.locals)
  (h1:it∈X.ex\/X.s₀.heap.objs.size<=it) (h2:∀x c,X.env.cells.lookup x=some c->c≠it) (h3:∀p∈X.pn++pins,p.1≠it):Inv X pins Z H {s with heap:=h',toks:=t'}:=by
 have nit:∀b u,H b=some u->b≠it:=λb u e z=>by rw[z,hn] at e;cases e
 refine I.step (g':=s.gens) (d':=s.drawn) (ch:=[it]) (λb hb=>?_) (λb o _ _ hc e _=>k b o (λz=>hc (by simp[z])) e) (λb o _ _ hc e _=>⟨o.slots,k b o (λz=>hc (by simp[z])) e⟩) (λ_ _ _ _ n=>n)
  (λb o hc e=>⟨o,k b o (λz=>hc (by simp[z])) e⟩) (λ_ _ e=>e) (λ_ _ _ e=>e) (λb ps e=>⟨#[],by rw[e];simp⟩) (λm hm=>?_) (λb u e=>?_) I.bare
 ·have e:b=it:=by simpa using hb
  subst e;exact⟨h1,hL,h2,h3⟩
 ·obtain⟨o,es,ep,ho,r⟩:=hm;exact⟨o,es,ep,k _ o (Zza hL) ho,r⟩
 ·refine(I.hok b u e).stay (λc v hc q=>k c v ?_ q) (λ_ q=>q) λ_ _ q=>q;rcases hc with z | z
  ·rw[z];exact nit b u e
  ·exact nit c _ z
theorem Inv.tok(I:Inv X pins Z H s)(t:Nat):Inv X pins Z H {s with toks:=t}:=I.un (h':=s.heap) (t':=t) Un.refl I.hok
theorem Inv.kept(I:Inv X pins Z H s)(k:∀b u,s.heap.get? b=some u->h'.get? b=some u):Inv X pins Z H {s with heap:=h',toks:=t'}:=I.un (Un.kept k) (I.hok.kept k)
theorem Inv.laid{o:HO}(I:Inv X pins Z H s)(k:∀b u,s.heap.get? b=some u->h'.get? b=some u)(hp:s.heap.objs.size<=a)(new:AF X.prog X.w (upd H a o) h' a o) :
  Inv X pins Z (upd H a o) {s with heap:=h',toks:=t'}:=I.un (Un.laid k hp (I.hok.fresh hp)) (I.hok.laid k hp new)
theorem Inv.write{x e:Addr}{o:HO}(I:Inv X pins Z H s)(mu:Mut (H x))(he:e=x\/H e=some (.own x))(k:∀b u,b≠e->s.heap.get? b=some u->h'.get? b=some u)(heo:∃u,h'.get? e=some u)
  (new:AF X.prog X.w (upd H x o) h' x o):Inv X pins Z (upd H x o) {s with heap:=h',toks:=t'}:=I.un (Un.write mu he k heo) (I.hok.write mu he k heo new)
theorem Inv.weak{Z':List (Option V)}(I:Inv X pins Z H s)(hl:Z'.length=Z.length)(w:∀(i:Nat) v,Z'[i]?=some (some v)->Z[i]?=some (some v)):Inv X pins Z' H s :=
 ⟨I.ok,I.os,I.bare,I.base,by obtain⟨m,hn,hl'⟩:=I.loc;exact⟨m,hn,λi x v e1 e2 e3=>hl' i x v e1 (w i v e2) e3⟩,I.cell,I.free,I.freeC,I.pin,I.hok,hl.trans I.len⟩
theorem Inv.pins_of{pins':List (Addr×Obj)}(I:Inv X pins Z H s)(h:∀p∈pins',s.heap.get? p.1=some p.2/\H p.1=none/\p.1≠X.env.locals/\p.1∉X.fs/\∀v,p.2.data≠.cell v):Inv X pins' Z H s :=
 ⟨I.ok,I.os,I.bare,I.base,I.loc,I.cell,I.free,I.freeC,λp hp=>(Zz2.mp hp).elim (λz=>I.pin p (Zyk _ z)) (h p),I.hok,I.len⟩
theorem Rn(hN:N.Nodup)(a:N[i]?=some x)(b:N[j]?=some x):i=j:=by
 obtain⟨h1,e1⟩:=Zzb.mp a;obtain⟨h2,e2⟩:=Zzb.mp b;exact(List.getElem_inj hN).mp (e1.trans e2.symm)
theorem Nf{Q:Unit->Shared->Prop}(I:Inv X pins Z H s)(hN:X.N.Nodup)(hi:X.N[i]?=some x)(hx:Loc X.env.scope x)(r:AC v u)
  (h:∀s',Inv X pins (Z.set i (some v)) H s'->(∃a,Zxd a s.heap s'.heap/\(a=X.env.locals\/X.env.cells.lookup x=some a))->Q () s') (hf:X.fn x=true\/X.env.scope.names.lookup x=some .local:=by first | exact .inl rfl | exact .inr rfl | assumption):wpAny M A (storeName X.env x u) Q E s:=by
 obtain⟨m,hn,hl⟩:=id I.loc;have hcls:(X.env.scope.kind == .class||(X.env.scope.kind == .module&&X.env.locals != X.env.globals))=false:=by rw[I.ok.kind];rfl
 have hiσ:i<Z.length:=by rw[I.len];exact(Zzb.mp hi).1
 have cne:=I.cne;have tracked:∀{a:Addr} {h':Heap},(∃o,s.heap.get? a=some o/\H a=none)->Zxd a s.heap h'->HOk X.prog X.w H h':=λ{a h'} ha hs b ob e=>by
  obtain⟨_,_,hfree⟩:=ha;refine(I.hok b ob e).stay (λc w' hc q=>(hs.2 c ?_).trans q) (λ_ q=>q) λ_ _ q=>q;rintro rfl;rcases hc with rfl | hc
  ·rw[hfree] at e;cases e
  ·rw[hfree] at hc;cases hc
 rcases hx with hk | hk
 ·refine wpAny_storeName_local hk hn (λh' hn' hs=>?_) hcls;obtain⟨oL,_,_,hoL,_⟩:=id hn;refine h _ ⟨I.ok,I.os,I.bare,⟨λb o e n hb hx=>?_,λb o e n hb hx=>?_,I.base.free,λb o e hx=>?_,I.base.tups,I.base.frzs,I.base.tbls⟩,⟨_,hn',λj y v' e1 e2 e3=>?_⟩,λy c e=>?_,I.free,I.freeC,λp hp=>?_,tracked ⟨oL,hoL,I.free⟩ hs,by simpa using I.len⟩ ⟨_,hs,.inl rfl⟩
  ·exact(hs.2 b (Zyv (Zze (Zzn e) I.ok.above))).trans (I.base.keep b o e n hb hx)
  ·obtain⟨sl,e1⟩:=I.base.slot b o e n hb hx;exact⟨sl,(hs.2 b (Zyv (Zze (Zzn e) I.ok.above))).trans e1⟩
  ·obtain⟨o',e1⟩:=I.base.there b o e hx;exact⟨o',(hs.2 b (Zyv (Zze (Zzn e) I.ok.above))).trans e1⟩
  ·by_cases hj:j=i
   ·subst hj;rw[hi] at e1;cases e1;rw[Zw9 hiσ] at e2;cases e2;exact⟨u,r,.inl ⟨hk,by simp⟩⟩
   ·rw[Zxt (Zza hj)] at e2;obtain⟨u',r',q⟩:=hl j y v' e1 e2 e3;refine⟨u',r',?_⟩;rcases q with ⟨k,e⟩ | ⟨k,c,e,z⟩
    ·refine .inl ⟨k,?_⟩;have:y≠x:=λe=>hj (Rn hN e1 (e▸hi));simp[this,e]
    ·exact .inr ⟨k,c,e,z.sameBut hs (cne y c e)⟩
  ·obtain⟨w',z⟩:=I.cell y c e;exact⟨w',z.sameBut hs (cne y c e)⟩
  ·obtain⟨e,n,ne,nf,d⟩:=I.pin p hp;exact⟨(hs.2 p.1 ne).trans e,n,ne,nf,d⟩
 ·have hfn:X.fn x=true:=by
   rcases hf with z | z
   ·exact z
   ·rw[z] at hk;cases hk
  obtain⟨c,hc⟩:=I.ok.has x (.inl hk);obtain⟨w',z⟩:=I.cell x c hc;refine wpAny_storeName_cell I.ok.kind hk hc z (λh' hc' hs=>?_);obtain⟨oc,hoc,hocd⟩:=id z;refine h {s with heap:=h'} ⟨I.ok,I.os,I.bare,⟨λb o e n hb hx=>?_,λb o e n hb hx=>?_,I.base.free,λb o e hx=>?_,I.base.tups,I.base.frzs,I.base.tbls⟩,⟨m,hn.sameBut hs (Zza (cne x c hc)),λj y v' e1 e2 e3=>?_⟩,λy c' e=>?_,I.free,I.freeC,λp hp=>?_,tracked ⟨oc,hoc,I.freeC x c hc⟩ hs,by simpa using I.len⟩ ⟨c,hs,.inr hc⟩
  ·exact(hs.2 b (Zyv (Zze (Zzn e) (I.ok.cab x c hfn hc)))).trans (I.base.keep b o e n hb hx)
  ·obtain⟨sl,e1⟩:=I.base.slot b o e n hb hx;exact⟨sl,(hs.2 b (Zyv (Zze (Zzn e) (I.ok.cab x c hfn hc)))).trans e1⟩
  ·obtain⟨o',e1⟩:=I.base.there b o e hx;exact⟨o',(hs.2 b (Zyv (Zze (Zzn e) (I.ok.cab x c hfn hc)))).trans e1⟩
  ·by_cases hj:j=i
   ·subst hj;rw[hi] at e1;cases e1;rw[Zw9 hiσ] at e2;cases e2;exact⟨u,r,.inr ⟨.inl hk,c,hc,hc'⟩⟩
   ·rw[Zxt (Zza hj)] at e2;obtain⟨u',r',q⟩:=hl j y v' e1 e2 e3;refine⟨u',r',?_⟩;rcases q with q | ⟨k,c',e,z'⟩
    ·exact .inl q
    ·refine .inr ⟨k,c',e,z'.sameBut hs ?_⟩;rintro rfl;exact hj (Rn hN e1 (I.ok.inj _ _ _ e hc▸hi))
  ·by_cases hcc:c'=c
   ·subst hcc;exact⟨_,hc'⟩
   ·obtain⟨w2,z2⟩:=I.cell y c' e;exact⟨w2,z2.sameBut hs hcc⟩
  ·obtain⟨e,n,ne,nf,d⟩:=I.pin p hp;refine⟨(hs.2 p.1 ?_).trans e,n,ne,nf,d⟩;intro q;rw[q,hoc] at e;have q':oc=p.2:=Zzm e;exact d w' (by rw[<- q'];exact hocd)
theorem Ls{Q:Unit->Shared->Prop}(I:Inv X pins Z H s)(hN:X.N.Nodup)(hi:X.N[i]?=some x)(hx:Loc X.env.scope x)(r:AC v u)
  (h:∀s',Inv X pins (Z.set i (some v)) H s'->Q () s') (hf:X.fn x=true\/X.env.scope.names.lookup x=some .local:=by first | exact .inl rfl | exact .inr rfl | assumption):wpAny M A (storeName X.env x u) Q E s :=
 Nf I hN hi hx r (λs' I' _=>h s' I') hf
theorem Inv.call'(I:Inv X pins Z H s)(ho:s'.os=s.os)(u:Un (frs X.stack) ch H H' s.heap s'.heap)(hok:HOk X.prog X.w H' s'.heap)(hg:AllBare s'.gens)
  (hch:∀b∈ch,(b∈X.ex\/X.s₀.heap.objs.size<=b)/\b≠X.env.locals/\(∀x c,X.env.cells.lookup x=some c->c≠b)/\∀p∈X.pn++pins,p.1≠b):Inv X pins Z H' s':=by
 obtain⟨h',g',d',t',o'⟩:=s';have e:o'=s.os:=ho;subst e;exact I.call (g':=g') (t':=t') (d':=d') u hok hg hch
end
abbrev XK:=Value->Option Addr->Hp->Prop
abbrev St:=List (Option V)
variable {Z:St}
abbrev VK:=V->Hp->Prop
abbrev TE:=St->Hp->VK->Prop
variable {ta te:TE}
abbrev TT:=St->Hp->(Bool->Hp->Prop)->Prop
abbrev TA:=St->Hp->(List V->Hp->Prop)->Prop
variable {t:TA}
structure AY where
 nx:St->Hp->Prop
 rt:VK
 bk:St->Hp->Prop:=λ_ _=>False
 ct:St->Hp->Prop:=λ_ _=>False
abbrev TS:=AY->St->Hp->Prop
def EP(X:Cx)(pins:List (Addr×Obj))(Z:St)(Q:VK)(u:Value)(s':Shared):Prop:=∃v H',Inv X pins Z H' s'/\AC v u/\Q v H'
def TP(X:Cx)(pins:List (Addr×Obj))(Z:St)(Q:Bool->Hp->Prop)(b:Bool)(s':Shared):Prop:=∃H',Inv X pins Z H' s'/\Q b H'
def AP(X:Cx)(pins:List (Addr×Obj))(Z:St)(Q:List V->Hp->Prop)(us:List Value)(s':Shared):Prop:=∃vs H',Inv X pins Z H' s'/\AB vs us/\Q vs H'
def SP(X:Cx)(pins:List (Addr×Obj))(D:AY)(f:Flow)(s':Shared):Prop :=
 match f with
 |.next=>∃Z' H',Inv X pins Z' H' s'/\D.nx Z' H'
 |.brk=>∃Z' H',Inv X pins Z' H' s'/\D.bk Z' H'
 |.cont=>∃Z' H',Inv X pins Z' H' s'/\D.ct Z' H'
 |.ret u=>∃v Z' H',Inv X pins Z' H' s'/\AC v u/\D.rt v H'
def PE(X:Cx)(e:Expr)(t:TE):Prop :=
 ∀(pins:List (Addr×Obj)) (s:Shared) (Z:St) (H:Hp) (Q:VK),Inv X pins Z H s->t Z H Q->wpAny (model X.prog X.w) X.A (eval e X.env) (EP X pins Z Q) X.xe s
def PT(X:Cx)(e:Expr)(t:TT):Prop :=
 ∀(pins:List (Addr×Obj)) (s:Shared) (Z:St) (H:Hp) (Q:Bool->Hp->Prop),Inv X pins Z H s->t Z H Q->wpAny (model X.prog X.w) X.A (isTrue e X.env (eval e X.env)) (TP X pins Z Q) X.xe s
def PW(X:Cx)(e:Expr)(t:TT):Prop :=
 ∀(whole:Sem Value) (pins:List (Addr×Obj)) (s:Shared) (Z:St) (H:Hp) (Q:Bool->Hp->Prop),Inv X pins Z H s->t Z H Q->wpAny (model X.prog X.w) X.A (isTrue e X.env whole) (TP X pins Z Q) X.xe s
theorem PW.pt{t:TT}(h:PW X e t):PT X e t:=h _
def PA(X:Cx)(es:List Expr)(t:TA):Prop :=
 ∀(pos:Pos) (pins:List (Addr×Obj)) (s:Shared) (Z:St) (H:Hp) (Q:List V->Hp->Prop),Inv X pins Z H s->t Z H Q->wpAny (model X.prog X.w) X.A (spliced (backTo pos (starEach es X.env))) (AP X pins Z Q) X.xe s
def PS(X:Cx)(st:Stmt)(t:TS):Prop :=
 ∀(pins:List (Addr×Obj)) (s:Shared) (Z:St) (H:Hp) (D:AY),Inv X pins Z H s->t D Z H->wpAny (model X.prog X.w) X.A (exec st X.env) (SP X pins D) X.xe s
def PSs(X:Cx)(st:List Stmt)(t:TS):Prop :=
 ∀(pins:List (Addr×Obj)) (s:Shared) (Z:St) (H:Hp) (D:AY),Inv X pins Z H s->t D Z H->wpAny (model X.prog X.w) X.A (execs st X.env) (SP X pins D) X.xe s
theorem thn{α:Type}{t:Sem α}{Q Q':α->Shared->Prop}(h:wpAny M A t Q E s)(hQ:∀a s,Q a s->Q' a s):wpAny M A t Q' E s:=wpAny_mono h hQ λ_ _ x=>x
section
def atS(o:Option (Option V))(Q:V->Prop):Prop:=match o with
 |some (some v)=>Q v
 |_=>False
theorem t9{Q:V->Prop}:∀{o:Option (Option V)},atS o Q->∃v,o=some (some v)/\Q v
 |some (some v),h=>⟨v,rfl,h⟩
theorem gl{Q:V->Prop}:atS (some (some v)) Q=Q v:=rfl
def Z6(i:Nat):TE:=λZ H Q=>atS Z[i]? λv=>Q v H
def tC(v:V):TE:=λ_ H Q=>Q v H
theorem A0e(hN:X.N[i]?=some x)(hv:Vis X.env.scope x)(hd:(x == ("__debug__" : Str))=false:=by decide)(hcd:(x == ("__classdict__" : Str))=false:=by decide):PE X (.Name x pos) (Z6 i):=by
 intro pins s Z H Q I h;obtain⟨v,e,h⟩:=t9 h;obtain⟨m,hn,hl⟩:=I.loc;obtain⟨u,r,l⟩:=hl i x v hN e hv;have fin:EP X pins Z Q u s:=⟨v,H,I,r,h⟩;rcases l with ⟨hk,hm⟩ | ⟨hk,c,hc,hcell⟩
 ·exact wpAny_Name (wpAny_loadName_local I.ok.kind hk hn hm fin) hd
 ·rcases hk with hk | hk
  ·exact wpAny_Name (wpAny_loadName_cell I.ok.kind hk hc hcell fin) hd
  ·exact wpAny_Name (wpAny_loadName_free I.ok.kind hk hc hcell fin hcd) hd
theorem A6{i j pos}:PE X (.Constant (.int i) j pos) (tC (.int i)):=λ_ _ _ H _ I h=>wpAny_Constant_int ⟨.int i,H,I.tok _,⟨_,rfl⟩,h⟩
theorem Gg{b j pos}:PE X (.Constant (.bool b) j pos) (tC (.bl b)):=λ_ _ _ H _ I h=>Constant_bool ⟨.bl b,H,I,rfl,h⟩
theorem Ka{j pos}:PE X (.Constant .none j pos) (tC .non):=λ_ _ _ H _ I h=>Constant_none ⟨.non,H,I,rfl,h⟩
theorem Ac{x j pos}:PE X (.Constant (.str x) j pos) (tC (.str x)):=λ_ _ _ H _ I h=>Zuf ⟨.str x,H,I.tok _,⟨_,rfl⟩,h⟩
def Gl(X:Cx)(x:Str):Prop:=X.env.kindOf x=some .globalImplicit
theorem Kx(I:Inv X pins Z H s)(hg:Gl X x)(hm:X.mg x=some u)(h:Q u s)
  (hd:(x == ("__debug__" : Str))=false:=by decide):wpAny (model X.prog X.w) X.A (eval (.Name x pos) X.env) Q E s :=
 Calls.Name_function_global I.ok.kind hg (Calls.loadGlobal_global (by rw[I.ok.glob];exact I.mod.glob.keeps I.bk) hm h) hd
theorem Jf(I:Inv X pins Z H s)(hg:Gl X x)(hm:X.mg x=none)(hv:bootBuiltins x=some u)(h:Q u s)
  (hn:x ≠ "__name__" := by decide) (hd:(x == ("__debug__" : Str))=false:=by decide):wpAny (model X.prog X.w) X.A (eval (.Name x pos) X.env) Q E s:=by
 obtain⟨mb,h1,h2⟩:=I.mod.blt;exact Calls.Name_function_global I.ok.kind hg (Calls.loadGlobal_builtin (by rw[I.ok.glob];exact I.mod.glob.keeps I.bk) hm (by rw[I.ok.blt];exact h1.keeps I.bk) ((h2 x hn).trans hv) h) hd
theorem Fi(hg:Gl X x)(hm:X.mg x=some u)(r:AC v u)(hd:(x == ("__debug__" : Str))=false:=by decide):PE X (.Name x pos) (tC v) :=
 λ_ _ _ H _ I h=>Kx I hg hm ⟨v,H,I,r,h⟩ hd
theorem Hz(hg:Gl X x)(hm:X.mg x=none)(hv:bootBuiltins x=some u)(r:AC v u)(hn:x ≠ "__name__" := by decide)(hd:(x == ("__debug__" : Str))=false:=by decide):PE X (.Name x pos) (tC v) :=
 λ_ _ _ H _ I h=>Jf I hg hm hv ⟨v,H,I,r,h⟩ hn hd
variable {a b:Expr}{tb:TE}
def PC(X:Cx)(op:CmpOp)(a b:Expr)(t:TE):Prop :=
 ∀(pins:List (Addr×Obj)) (s:Shared) (Z:St) (H:Hp) (Q:VK),Inv X pins Z H s->t Z H Q ->
  wpAny (model X.prog X.w) X.A (eval a X.env) (λv s₁=>wpAny (model X.prog X.w) X.A (eval b X.env) (λu s₂=>wpAny (model X.prog X.w) X.A (compareOp op v u) (EP X pins Z Q) X.xe s₂) X.xe s₁) X.xe s
def tB(t:TE):TT:=λZ H Q=>t Z H λx H1=>∃c,x=.bl c/\Q c H1
theorem Bm{t:TE}(h:PE X e t)(he:∀whole,isTrue e X.env whole=(do let v <- whole;standAt e.pos;holding [v] (truthy v)):=by intro _;rfl):PT X e (tB t):=by
 intro pins s Z H Q I hw;refine isTrue_plain (thn (h pins s Z H _ I hw) λv s1 ⟨x,H1,I1,r1,q1⟩=>?_) (he _);obtain⟨d,rfl,q⟩:=q1;cases r1;exact wpAny_truthy_bool ⟨H1,I1,q⟩
variable {tA tB':TT}{AO:List Expr}
def lg(t u:TT):TT:=λZ H Q=>t Z H λc H1=>if c=true then u Z H1 Q else Q false H1
def tOr(t u:TT):TT:=λZ H Q=>t Z H λc H1=>if c=true then Q true H1 else u Z H1 Q
def l4(t:TT):TT:=λZ H Q=>t Z H λc H1=>Q (!c) H1
theorem Hy(ha:PT X a tA):PW X (.BoolOp .And [a] pos) tA:=by
 intro wh pins s Z H Q I h;refine isTrue_and (thn (ha pins s Z H Q I h) λc s1 e=>?_);cases c with
 |true=>exact isTrue_and_nil e
 |false=>exact e
theorem Ho(ha:PT X a tA):PW X (.BoolOp .Or [a] pos) tA:=by
 intro wh pins s Z H Q I h;refine isTrue_or (thn (ha pins s Z H Q I h) λc s1 e=>?_);cases c with
 |false=>exact isTrue_or_nil e
 |true=>exact e
theorem K9(ha:PT X a tA)(hb:PW X (.BoolOp .And (b::AO) pos) tB'):PW X (.BoolOp .And (a::b::AO) pos) (lg tA tB'):=by
 intro wh pins s Z H Q I h;refine isTrue_and (thn (ha pins s Z H _ I h) λc s1 z0=>?_);obtain⟨H1,I1,q1⟩:=z0;cases c with
 |true=>exact hb wh pins s1 Z H1 Q I1 q1
 |false=>exact⟨H1,I1,q1⟩
theorem J0(ha:PT X a tA)(hb:PW X (.BoolOp .Or (b::AO) pos) tB'):PW X (.BoolOp .Or (a::b::AO) pos) (tOr tA tB'):=by
 intro wh pins s Z H Q I h;refine isTrue_or (thn (ha pins s Z H _ I h) λc s1 z0=>?_);obtain⟨H1,I1,q1⟩:=z0;cases c with
 |true=>exact⟨H1,I1,q1⟩
 |false=>exact hb wh pins s1 Z H1 Q I1 q1
theorem Bk(ha:PT X a tA):PT X (.UnaryOp .Not a pos) (l4 tA):=by
 intro pins s Z H Q I h;exact isTrue_not (ha pins s Z H (λc H1=>Q (!c) H1) I h)
def X8(ta tb:TE):TE:=λZ H Q=>ta Z H λx H1=>∃c,x=.bl c/\if c=true then tb Z H1 Q else Q (.bl false) H1
def kr(ta tb:TE):TE:=λZ H Q=>ta Z H λx H1=>∃c,x=.bl c/\if c=true then Q (.bl true) H1 else tb Z H1 Q
def Ww(ta:TE):TE:=λZ H Q=>ta Z H λx H1=>∃c,x=.bl c/\Q (.bl (!c)) H1
theorem F0{op}{t:TE}(h:PE X a t):PE X (.BoolOp op [a] pos) t:=λpins s Z H Q I hw=>BoolOp_one (h pins s Z H Q I hw)
theorem Ea(ha:PE X a ta)(hb:PE X (.BoolOp .And (b::AO) pos) tb):PE X (.BoolOp .And (a::b::AO) pos) (X8 ta tb):=by
 intro pins s Z H Q I h;refine BoolOp_and (thn (ha pins s Z H _ I h) λv s1 z0=>?_);obtain⟨x,H1,I1,r1,q1⟩:=z0;obtain⟨c,rfl,q1⟩:=q1;cases r1;refine wpAny_truthy_bool ?_;cases c with
 |true=>exact hb pins s1 Z H1 Q I1 q1
 |false=>exact⟨.bl false,H1,I1,rfl,q1⟩
theorem za(ha:PE X a ta)(hb:PE X (.BoolOp .Or (b::AO) pos) tb):PE X (.BoolOp .Or (a::b::AO) pos) (kr ta tb):=by
 intro pins s Z H Q I h;refine BoolOp_or (thn (ha pins s Z H _ I h) λv s1 z0=>?_);obtain⟨x,H1,I1,r1,q1⟩:=z0;obtain⟨c,rfl,q1⟩:=q1;cases r1;refine wpAny_truthy_bool ?_;cases c with
 |false=>exact hb pins s1 Z H1 Q I1 q1
 |true=>exact⟨.bl true,H1,I1,rfl,q1⟩
theorem A0g(ha:PE X a ta):PE X (.UnaryOp .Not a pos) (Ww ta):=by
 intro pins s Z H Q I h;refine UnaryOp_ (thn (ha pins s Z H _ I h) λv s1 z0=>?_);obtain⟨x,H1,I1,r1,q1⟩:=z0;obtain⟨c,rfl,q1⟩:=q1;cases r1;exact not_of (wpAny_truthy_bool ⟨.bl (!c),H1,I1,rfl,q1⟩)
def tIf(t:TT)(ta tb:TE):TE:=λZ H Q=>t Z H λc H1=>if c=true then ta Z H1 Q else tb Z H1 Q
theorem nu{c:Expr}(hc:PT X c tA)(ha:PE X a ta)(hb:PE X b tb):PE X (.IfExp c a b pos) (tIf tA ta tb):=by
 intro pins s Z H Q I h;refine wpAny_IfExp (thn (hc pins s Z H _ I h) λd s1 z0=>?_);obtain⟨H1,I1,q1⟩:=z0;cases d with
 |true=>exact ha pins s1 Z H1 Q I1 q1
 |false=>exact hb pins s1 Z H1 Q I1 q1
end
def SqL(K:Zzy)(H:Hp)(a:Addr)(xs:List V):Prop :=
 Rd H a (.lst xs) \/
  ∃(o:Obj) (its:Array Value) (n:Nat),K.lookup a=some o/\o.cls=.type "list" /\ o.dict=none/\o.data=.seq its n/\its.size<=sizeLine/\AB xs its.toList
def SqT(K:Zzy)(H:Hp)(a:Addr)(xs:List V):Prop :=
 Rd H a (.tup xs) \/
  ∃(o:Obj) (its:Array Value) (n:Nat),K.lookup a=some o/\o.cls=.type "tuple" /\ o.data=.seq its n/\its.size<=sizeLine/\AB xs its.toList
def absV:Value->Option V
 |.none=>some .non
 |.bool b=>some (.bl b)
 |.int i _=>some (.int i)
 |.str x _=>some (.str x)
 |.bytes b _=>some (.byt b)
 |.float b _=>some (.flt b)
 |.ref a=>some (.ref a)
 |.type n=>some (.ty n)
 |_=>none
theorem AC.abs{x:V}(r:AC x u):absV u=some x:=by
 cases x with
 |non=>cases r;rfl
 |bl _=>cases r;rfl
 |int _=>obtain⟨t,rfl⟩:=r;rfl
 |str _=>obtain⟨t,rfl⟩:=r;rfl
 |byt _=>obtain⟨t,rfl⟩:=r;rfl
 |flt _=>obtain⟨t,rfl⟩:=r;rfl
 |ref _=>cases r;rfl
 |ty _=>cases r;rfl
theorem AC.inj{x y:V}(r:AC x u)(q:AC y u):x=y:=Zzm (r.abs.symm.trans q.abs)
theorem AB.inj:∀{xs ys:List V} {us:List Value},AB xs us->AB ys us->xs=ys
 |_,_,_,.nil,.nil=>rfl
 |_,_,_,.cons r t,.cons r' t'=>by rw[r.inj r',AB.inj t t']
section
variable {ys:List V}
theorem SqL.of(h:H a=some (.lst xs)):SqL K H a xs:=.inl (.inl h)
theorem SqT.of(h:H a=some (.tup xs)):SqT K H a xs:=.inl (.inl h)
theorem Inv.list(I:Inv X pins Z H s)(h:SqL X.K H a xs):∃its:List Value,AB xs its/\PlainL s.heap a its.toArray/\xs.length<=sizeLine:=by
 rcases h with h | ⟨o,its,n,hk,hc,hd,hs,hz,r⟩
 ·obtain⟨z,its,n,r,e⟩:=h.ok I.hok;exact⟨its,r,⟨_,n,e,rfl,rfl,rfl⟩,z⟩
 ·refine⟨its.toList,r,⟨o,n,I.kIn a o hk,hc,hd,by simpa using hs⟩,?_⟩;have e:=r.length;simp only[Zxz] at e;lia
theorem Inv.tuple(I:Inv X pins Z H s)(h:SqT X.K H a xs):∃its:List Value,AB xs its/\IsTup s.heap a its.toArray/\xs.length<=sizeLine:=by
 rcases h with h | ⟨o,its,n,hk,hc,hs,hz,r⟩
 ·obtain⟨z,its,r,p⟩:=h.ok I.hok;exact⟨its,r,p,z⟩
 ·refine⟨its.toList,r,⟨o,I.kIn a o hk,hc,n,by simpa using hs⟩,?_⟩;have e:=r.length;simp only[Zxz] at e;lia
theorem Inv.list_inj(I:Inv X pins Z H s)(h:SqL X.K H a xs)(h':SqL X.K H a ys):xs=ys:=by
 obtain⟨its,r,⟨o,n,e,_,_,d⟩,_⟩:=I.list h;obtain⟨its',r',⟨o',n',e',_,_,d'⟩,_⟩:=I.list h';rw[e] at e';cases e';rw[d] at d';injection d' with d1 _
 have:its=its':=by simpa using congrArg Array.toList d1
 subst this;exact r.inj r'
theorem Inv.tuple_inj(I:Inv X pins Z H s)(h:SqT X.K H a xs)(h':SqT X.K H a ys):xs=ys:=by
 obtain⟨its,r,⟨o,e,_,n,d⟩,_⟩:=I.tuple h;obtain⟨its',r',⟨o',e',_,n',d'⟩,_⟩:=I.tuple h';rw[e] at e';cases e';rw[d] at d';injection d' with d1 _
 have:its=its':=by simpa using congrArg Array.toList d1
 subst this;exact r.inj r'
end
abbrev Cx.wish(X:Cx)(E:Value->Shared->Prop):Cx:={X with xe:=E}
abbrev Cx.nox(X:Cx):Cx:=X.wish λ_ _=>False
theorem Cx.Ok.wish(ok:X.Ok)(E:Value->Shared->Prop):(X.wish E).Ok :=
 ⟨ok.mod,ok.kind,ok.glob,ok.blt,ok.above,ok.inj,ok.has,ok.cab,ok.hd,ok.frames,ok.stk,ok.exf,ok.bs,ok.bsz,ok.noex,ok.exfs,ok.funs,ok.frf⟩
theorem Cx.Ok.unwish(ok:(X.wish E).Ok):X.Ok :=
 ⟨ok.mod,ok.kind,ok.glob,ok.blt,ok.above,ok.inj,ok.has,ok.cab,ok.hd,ok.frames,ok.stk,ok.exf,ok.bs,ok.bsz,ok.noex,ok.exfs,ok.funs,ok.frf⟩
theorem Inv.wish(I:Inv X pins Z H s)(E:Value->Shared->Prop):Inv (X.wish E) pins Z H s:=⟨I.ok.wish E,I.os,I.bare,I.base,I.loc,I.cell,I.free,I.freeC,I.pin,I.hok,I.len⟩
theorem Inv.unwish(I:Inv (X.wish E) pins Z H s):Inv X pins Z H s:=⟨I.ok.unwish,I.os,I.bare,I.base,I.loc,I.cell,I.free,I.freeC,I.pin,I.hok,I.len⟩
theorem SP.unwish{D:AY}{f:Flow}(h:SP (X.wish E) pins D f s'):SP X pins D f s':=by
 cases f with
 |next=>obtain⟨Z',H',I,q⟩:=h;exact⟨Z',H',I.unwish,q⟩
 |brk=>obtain⟨Z',H',I,q⟩:=h;exact⟨Z',H',I.unwish,q⟩
 |cont=>obtain⟨Z',H',I,q⟩:=h;exact⟨Z',H',I.unwish,q⟩
 |ret u=>obtain⟨v,Z',H',I,r,q⟩:=h;exact⟨v,Z',H',I.unwish,r,q⟩
theorem PSs.nox{st:List Stmt}{t:TS}(h:PSs X.nox st t):PSs X st t:=λpins s Z H D I hw =>
 wpAny_mono (h pins s Z H D (I.wish _) hw) (λ_ _ q=>q.unwish) λ_ _ z=>False.elim z
section
variable {st:Stmt}{AO:List Stmt}{t u:TS}
def FB:TS:=λD Z H=>D.nx Z H
def Ju(t u:TS):TS:=λD Z H=>t {D with nx:=u D} Z H
theorem Am:PSs X [] FB:=λ_ _ Z H _ I h=>wpAny_execs_nil ⟨Z,H,I,h⟩
theorem A3(h1:PS X st t)(h2:PSs X AO u):PSs X (st::AO) (Ju t u):=by
 intro pins s Z H D I h;refine wpAny_execs_cons (thn (h1 pins s Z H {D with nx:=u D} I h) λf s1 q=>?_);cases f with
 |next =>
  obtain⟨Z',H',I',q⟩:=q;exact h2 pins s1 Z' H' D I' q
 |ret v=>exact q
 |brk=>exact q
 |cont=>exact q
theorem A8(h1:PS X st t):PSs X [st] t:=by
 intro pins s Z H D I h;refine wpAny_execs_cons (thn (h1 pins s Z H D I h) λf s1 q=>?_);cases f with
 |next=>exact wpAny_execs_nil q
 |ret v=>exact q
 |brk=>exact q
 |cont=>exact q
theorem Inv.quiet(I:Inv X pins Z H s):interactive X.env=false:=by simp[interactive,I.ok.kind]
def X4(te:TE):TS:=λD Z H=>te Z H λ_ H1=>D.nx Z H1
theorem Bf(he:PE X e te)(hs:swapsWith e none pos.line X.env=pure false:=by rfl):PS X (.Expr e pos) (X4 te):=by
 intro pins s Z H D I h;exact wpAny_Expr_any (thn (he pins s Z H _ I h) λv s1 z0=>by obtain⟨x,H1,I1,r1,q1⟩:=z0;exact ⟨Z,H1,I1,q1⟩) I.quiet hs
def ko(te:TE):TS:=λD Z H=>te Z H D.rt
theorem Ag(he:PE X e te):PS X (.Return (some e) pos) (ko te):=by
 intro pins s Z H D I h;exact wpAny_Return_some (thn (he pins s Z H _ I h) λv s1 z0=>by obtain⟨x,H1,I1,r1,q1⟩:=z0;exact ⟨x,Z,H1,I1,r1,q1⟩)
def bw:TS:=λD _ H=>D.rt .non H
def l8(c:TT)(t u:TS):TS:=λD Z H=>c Z H λb H1=>if b=true then t D Z H1 else u D Z H1
theorem B0{c:Expr}{a b:List Stmt}{tc:TT}(hc:PT X c tc)(ha:PSs X a t)(hb:PSs X b u):PS X (.If c a b pos) (l8 tc t u):=by
 intro pins s Z H D I h;refine wpAny_If (thn (hc pins s Z H _ I h) λd s1 z0=>?_);obtain⟨H1,I1,q1⟩:=z0;cases d with
 |true=>exact ha pins s1 Z H1 D I1 q1
 |false=>exact hb pins s1 Z H1 D I1 q1
def ET:TS:=λ_ _ _=>False
theorem U6{sts:List Stmt}:PSs X sts ET:=λ_ _ _ _ _ _ h=>h.elim
end
abbrev TG:=V->St->Hp->(St->Hp->Prop)->Prop
abbrev TGs:=List V->St->Hp->(St->Hp->Prop)->Prop
def PG(X:Cx)(target:Expr)(t:TG):Prop :=
 ∀(pins:List (Addr×Obj)) (s:Shared) (Z:St) (H:Hp) (v:V) (u:Value) (Q:St->Hp->Prop),Inv X pins Z H s->AC v u->t v Z H Q ->
  wpAny (model X.prog X.w) X.A (assign target X.env u) (λ_ s'=>∃Z' H',Inv X pins Z' H' s'/\Q Z' H') X.xe s
def PGs(X:Cx)(ts:List Expr)(t:TGs):Prop :=
 ∀(pins:List (Addr×Obj)) (s:Shared) (Z:St) (H:Hp) (vs:List V) (us:List Value) (Q:St->Hp->Prop),Inv X pins Z H s->AB vs us->t vs Z H Q ->
  wpAny (model X.prog X.w) X.A (assignInOrder ((assignEach ts X.env).map (·.2)) us) (λ_ s'=>∃Z' H',Inv X pins Z' H' s'/\Q Z' H') X.xe s
abbrev DY:=V->V->V->Hp->(Hp->Prop)->Prop
def ug(X:Cx)(t:DY):Prop :=
 ∀(pins:List (Addr×Obj)) (s:Shared) (Z:St) (H:Hp) (o i v:V) (ov iv u:Value) (Q:Hp->Prop),Inv X pins Z H s->AC o ov->AC i iv->AC v u->t o i v H Q ->
  wpAny (model X.prog X.w) X.A (setItem ov iv u) (λ_ s'=>∃H',Inv X pins Z H' s'/\Q H') X.xe s
abbrev TIp:=V->V->Hp->VK->Prop
def PIp(X:Cx)(op:Operator)(t:TIp):Prop :=
 ∀(pins:List (Addr×Obj)) (s:Shared) (Z:St) (H:Hp) (x y:V) (v u:Value) (Q:VK),Inv X pins Z H s->AC x v->AC y u->t x y H Q ->
  wpAny (model X.prog X.w) X.A (inplaceOp op v u) (EP X pins Z Q) X.xe s
def Eh(i:Nat):TG:=λv Z H Q=>Q (Z.set i (some v)) H
theorem Af(hN:X.N.Nodup)(hi:X.N[i]?=some x)(hx:Loc X.env.scope x)(hf:X.fn x=true\/X.env.scope.names.lookup x=some .local:=by first | exact .inl rfl | exact .inr rfl | assumption):PG X (.Name x pos) (Eh i):=by
 intro pins s Z H v u Q I r h;exact wpAny_assign_Name (Ls I hN hi hx r (λs' I'=>⟨_,H,I',h⟩) hf)
def EA:TGs:=λvs Z H Q=>vs=[]/\Q Z H
def Ry(t:TG)(u:TGs):TGs:=λvs Z H Q=>∃v r,vs=v::r/\t v Z H λZ' H'=>u r Z' H' Q
theorem E9:PGs X [] EA:=by
 intro pins s Z H vs us Q I r h;obtain⟨e,h⟩:=h;subst e;cases r;exact assignInOrder_nil ⟨Z,H,I,h⟩
theorem B8{t:TG}{u:TGs}(h1:PG X e t)(h2:PGs X es u)
  (hs:(assignEach (e::es) X.env).map (·.2)=assign e X.env::(assignEach es X.env).map (·.2):=by rfl):PGs X (e::es) (Ry t u):=by
 intro pins s Z H vs us Q I r h;obtain⟨v,vr,e1,h⟩:=h;subst e1;cases r with
 |cons r rr =>
  rw[hs];refine assignInOrder_cons (thn (h1 pins s Z H _ _ _ I r h) λ_ s1 z0=>?_);obtain⟨σ1,H1,I1,q1⟩:=z0;exact h2 pins s1 σ1 H1 _ _ Q I1 rr q1
def xu(K:Zzy)(n:Nat)(t:TGs):TG:=λv Z H Q=>∃a xs,v=.ref a/\SqT K H a xs/\xs.length=n/\t xs Z H Q
theorem Hr{k:Nat}{t:TGs}(hc:X.calm=true)(h:PGs X es t)
  (hn:(assignEach es X.env).length=n:=by rfl) (hst:(assignEach es X.env).findIdx? (·.1)=none:=by rfl):PG X (.Tuple es k pos) (xu X.K n t):=by
 intro pins s Z H v u Q I r hw;obtain⟨a,xs,e1,hq,hl,hw⟩:=hw;subst e1;cases r;obtain⟨its,rv,ht,hz⟩:=I.tuple hq;refine assign_Tuple_tuple (I.ok.hd hc) ht (by simp[hn,<- hl,rv.length]) hst λh' hx=>?_;have I1:Inv X pins Z H {s with heap:=h'}:=I.kept (t':=s.toks) λb o e=>hx b o (Zyv (Zzn e)) e;exact h pins _ Z H xs _ Q I1 (by simpa using rv) hw
def qw(to ti:TE)(t:DY):TG:=λv Z H Q=>to Z H λo H1=>ti Z H1 λi H2=>t o i v H2 λH3=>Q Z H3
theorem Jd{o i:Expr}{to ti:TE}{t:DY}(ho:PE X o to)(hi:PE X i ti)(hs:ug X t)
  (ha:∀v,assign (.Subscript o i pos) X.env v=(do
   let ov <- holding [v] (eval o X.env)
   let iv <- holding [v,ov] (eval i X.env)
   standAt pos
   holding [v,ov,iv] (setItem ov iv v)
   release [v,ov,iv] []):=by intro _;rfl):PG X (.Subscript o i pos) (qw to ti t):=by
 intro pins s Z H v u Q I r h;rw[ha];refine FU (wpAny_holding (thn (ho pins s Z H _ I h) λov s1 z0=>?_));obtain⟨x,H1,I1,r1,q1⟩:=z0;refine FU (wpAny_holding (thn (hi pins s1 Z H1 _ I1 q1) λiv s2 z0=>?_));obtain⟨y,H2,I2,r2,q2⟩:=z0;refine FU (wpAny_standAt (FU (wpAny_holding (thn (hs pins s2 Z H2 x y v ov iv u _ I2 r1 r2 r q2) λ_ s3 z0=>?_))));obtain⟨H3,I3,q3⟩:=z0;exact wpAny_release ⟨Z,H3,I3,q3⟩
def X7(te:TE)(g:TG):TS:=λD Z H=>te Z H λx H1=>g x Z H1 D.nx
theorem Il{g:TG}(he:PE X e te)(hg:PG X tg g)(hs:swapsWithSole [tg] e pos.line X.env=pure false:=by rfl)(hw:swappedStores [tg] e X.env=pure none:=by rfl)
  (h1:(assignEach [tg] X.env).map (·.2)=[assign tg X.env]:=by rfl):PS X (.Assign [tg] e pos) (X7 te g):=by
 intro pins s Z H D I h;refine wpAny_Assign_stores (thn (he pins s Z H _ I h) λv s1 ⟨x,H1,I1,r1,q1⟩=>?_) hs hw;rw[h1];exact thn (hg pins s1 Z H1 x v _ I1 r1 q1) λ_ s2 q=>q
theorem Al(hN:X.N.Nodup)(hi:X.N[i]?=some x)(hx:Loc X.env.scope x)(he:PE X e te)(hs:swapsWith e (some (.Name x pos')) pos.line X.env=pure false:=by rfl)(hf:X.fn x=true\/X.env.scope.names.lookup x=some .local:=by first | exact .inl rfl | exact .inr rfl | assumption) :
  PS X (.Assign [.Name x pos'] e pos) (X7 te (Eh i)):=by
 intro pins s Z H D I h;refine wpAny_Assign_Name (thn (he pins s Z H _ I h) λv s1 ⟨y,H1,I1,r1,q1⟩=>?_) hs;exact Ls I1 hN hi hx r1 (λs2 I2=>⟨_,H1,I2,q1⟩) hf
def lf(i:Nat)(te:TE)(ti:TIp):TS:=λD Z H=>atS Z[i]? λx=>te Z H λy H1=>ti x y H1 λz H2=>D.nx (Z.set i (some z)) H2
theorem Jb{op:Operator}{ti:TIp}(hN:X.N.Nodup)(hi:X.N[i]?=some x)(hx:Loc X.env.scope x)(he:PE X e te)(ho:PIp X op ti)(hf:X.fn x=true\/X.env.scope.names.lookup x=some .local:=by first | exact .inl rfl | exact .inr rfl | assumption) :
  PS X (.AugAssign (.Name x pos') op e pos) (lf i te ti):=by
 intro pins s Z H D I h;obtain⟨v,e1,h⟩:=t9 h;obtain⟨m,hn,hl⟩:=I.loc;have vis:Vis X.env.scope x:=by rcases hx with k | k;exact .inl k;exact .inr (.inl k)
 obtain⟨u,r,l⟩:=hl i x v hi e1 vis;refine wpAny_AugAssign_Name ?_;have go:wpAny (model X.prog X.w) X.A (eval e X.env) (λw s₂=>wpAny (model X.prog X.w) X.A (inplaceOp op u w) (λr s₃=>wpAny (model X.prog X.w) X.A (storeName X.env x r) (λ_=>SP X pins D .next) X.xe s₃) X.xe s₂) X.xe s:=by
  refine thn (he pins s Z H _ I h) λw s1 z0=>?_;obtain⟨y,H1,I1,r1,q1⟩:=z0;refine thn (ho pins s1 Z H1 v y u w _ I1 r r1 q1) λz s2 z0=>?_;obtain⟨zv,H2,I2,r2,q2⟩:=z0;exact Ls I2 hN hi hx r2 (λs3 I3=>⟨_,H2,I3,q2⟩) hf
 rcases l with ⟨hk,hm⟩ | ⟨hk,c,hc,hcell⟩
 ·exact wpAny_loadName_local I.ok.kind hk hn hm go
 ·rcases hk with hk | hk
  ·exact wpAny_loadName_cell I.ok.kind hk hc hcell go
  ·rcases hx with k | k
   ·have:X.env.scope.names.lookup x=some .free:=hk
    rw[k] at this;cases this
   ·have:X.env.scope.names.lookup x=some .free:=hk
    rw[k] at this;cases this
def X6(to ti te:TE)(tget:V->V->Hp->VK->Prop)(tip:TIp)(tset:DY):TS:=λD Z H=>to Z H λo H1=>ti Z H1 λi H2=>tget o i H2 λx H3=>te Z H3 λy H4=>tip x y H4 λz H5=>tset o i z H5 λH6=>D.nx Z H6
def A2c(X:Cx)(t:V->V->Hp->VK->Prop):Prop :=
 ∀(pins:List (Addr×Obj)) (s:Shared) (Z:St) (H:Hp) (o i:V) (ov iv:Value) (Q:VK),Inv X pins Z H s->AC o ov->AC i iv->t o i H Q ->
  wpAny (model X.prog X.w) X.A (getItem ov iv) (EP X pins Z Q) X.xe s
theorem d7{o i:Expr}{to ti:TE}{tget:V->V->Hp->VK->Prop}{tip:TIp}{tset:DY}{op:Operator}{tpos:Pos}(ho:PE X o to)(hi:PE X i ti)(hg:A2c X tget)(he:PE X e te)(hp:PIp X op tip)(hs:ug X tset)
  (ha:∀ov iv new,augStore i ov iv new=(do holding [new,ov,iv] (setItem ov iv new);release [new,ov,iv] [];pure .next):=by intros;rfl):PS X (.AugAssign (.Subscript o i tpos) op e pos) (X6 to ti te tget tip tset):=by
 intro pins s Z H D I h;refine wpAny_AugAssign_SubscriptAny (thn (ho pins s Z H _ I h) λov s1 ⟨x1,H1,I1,r1,q1⟩=>?_) ha;refine thn (hi pins s1 Z H1 _ I1 q1) λiv s2 z0=>?_;obtain⟨x2,H2,I2,r2,q2⟩:=z0;refine thn (hg pins s2 Z H2 x1 x2 ov iv _ I2 r1 r2 q2) λold s3 z0=>?_;obtain⟨x3,H3,I3,r3,q3⟩:=z0;refine thn (he pins s3 Z H3 _ I3 q3) λv s4 z0=>?_;obtain⟨x4,H4,I4,r4,q4⟩:=z0;refine thn (hp pins s4 Z H4 x3 x4 old v _ I4 r3 r4 q4) λnew s5 z0=>?_;obtain⟨x5,H5,I5,r5,q5⟩:=z0;exact thn (hs pins s5 Z H5 x1 x2 x5 ov iv new _ I5 r1 r2 r5 q5) λ_ s6 ⟨H6,I6,q6⟩=>⟨Z,H6,I6,q6⟩
def A02(c:TT)(tb:TS):TS:=λD Z H=>∃W:Nat->St->Hp->Prop,(∃m,W m Z H)/\∀m Z H,W m Z H ->
 c Z H λb H1=>if b=true then ∃N:St->Hp->Prop,(∀Z' H',N Z' H'->∃m',m'<m/\W m' Z' H')/\tb {D with nx:=N,ct:=N,bk:=D.nx} Z H1 else D.nx Z H1
theorem Xi{c:Expr}{tc:TT}{tb:TS}(hp:PassesOwn (model X.prog X.w) X.A X.env X.xe)(hc:PT X c tc)(hb:PSs X body tb):PS X (.While c body [] pos) (A02 tc tb):=by
 intro pins s Z H D I h;obtain⟨W,⟨m0,w0⟩,turn⟩:=h;refine wpAny_While (codeAny_whileLoop (λn s'=>∃Z' H',Inv X pins Z' H' s'/\W n Z' H') ?_ m0 ⟨Z,H,I,w0⟩);rintro n s1 ⟨σ1,H1,I1,w1⟩;refine wpAny_passesOwn hp (thn (hc pins s1 σ1 H1 _ I1 (turn n σ1 H1 w1)) λb s2 z0=>?_);obtain⟨H2,I2,q2⟩:=z0;cases b with
 |true =>
  obtain⟨N,hN,q2⟩:=q2;rw[FT rfl];refine wpAny_passesOwn hp (thn (hb pins s2 σ1 H2 _ I2 q2) λf s3 q3=>?_);cases f with
  |next =>
   obtain⟨σ3,H3,I3,n3⟩:=q3;obtain⟨m',hm,w3⟩:=hN σ3 H3 n3;exact⟨m',hm,σ3,H3,I3,w3⟩
  |cont =>
   obtain⟨σ3,H3,I3,n3⟩:=q3;obtain⟨m',hm,w3⟩:=hN σ3 H3 n3;exact⟨m',hm,σ3,H3,I3,w3⟩
  |brk=>exact q3
  |ret v=>exact q3
 |false =>
  rw[FS Zzd];exact wpAny_execs_nil ⟨σ1,H2,I2,q2⟩
structure It where
 go:Nat->Hp->Prop
 yld:Nat->Hp->V->Hp->Prop
 stop:Nat->Hp->Prop
def Ge(X:Cx)(pins:List (Addr×Obj))(H:Hp)(b:Addr):Prop :=
 H b=none/\b≠X.env.locals/\b∉X.fs/\(b∈X.ex\/X.s₀.heap.objs.size<=b)/\(∀x c,X.env.cells.lookup x=some c->c≠b)/\∀p∈X.pn++pins,p.1≠b
theorem Inv.fpOk{b:Addr}(I:Inv X pins Z H s)(hb:s.heap.objs.size<=b)(hn:H' b=none):Ge X pins H' b:=by
 refine⟨hn,Zwy (Zze I.lt hb),I.nofs hb,.inr (Zzk I.sz hb),λx c e z=>?_,λp hp z=>?_⟩
 ·obtain⟨v,q⟩:=I.cell x c e;exact absurd (Zze q.lt (by rw[z];exact hb)) (Zxk _)
 ·exact absurd (Zze (Zzn (I.pin p hp).1) (by rw[z];exact hb)) (Zxk _)
structure O3(P:Program)(w:World)(K:Zzy)(tg:Expr)(J:It)(fp:List Addr)(it:Addr)(tn:Nat->Heap->Prop):Prop where
 mem:it∈fp
 obj:∀i h,tn i h->∀b∈fp,∃o,h.get? b=some o/\∀v,o.data≠.cell v
 keep:∀i h h',tn i h->(∀b∈fp,∀o,h.get? b=some o->h'.get? b=some o)->tn i h'
 item:∀(X:Cx),X.prog=P->X.w=w->X.K=K->X.calm=true->∀(i:Nat) (pins:List (Addr×Obj)) (s:Shared) (Z:St) (H:Hp) (E:Value->Shared->Prop),Inv X pins Z H s->(∀b∈fp,Ge X pins H b)->tn i s.heap->J.go i H ->
  wpAny (model P w) X.A (pyNext (.ref it)) (λr s1=>∃u,r=some u /\
   wpAny (model P w) X.A (letOwnedTupleGo tg (.ref it) u) (λ_ s2=>∃x H',Inv X pins Z H' s2/\AC x u/\J.yld i H x H'/\tn (i+1) s2.heap/\∀b∈fp,H' b=none) E s1) E s
 done:∀(X:Cx),X.prog=P->X.w=w->X.K=K->X.calm=true->∀(i:Nat) (pins:List (Addr×Obj)) (s:Shared) (Z:St) (H:Hp) (E:Value->Shared->Prop),Inv X pins Z H s->(∀b∈fp,Ge X pins H b)->tn i s.heap->J.stop i H ->
  wpAny (model P w) X.A (pyNext (.ref it)) (λr s1=>r=none/\Inv X pins Z H s1) E s
 self:∀(A:Around) (i:Nat) (s:Shared) (Q:Value->Shared->Prop) (E:Value->Shared->Prop),tn i s.heap->Q (.ref it) s->wpAny (model P w) A (pyIter (.ref it)) Q E s
abbrev TI:=St->Hp->(It->Hp->Prop)->Prop
def PIE(X:Cx)(pins:List (Addr×Obj))(Z:St)(tg:Expr)(R:It->Hp->Prop)(itv:Value)(s2:Shared):Prop :=
 ∃(it:Addr) (fp:List Addr) (tn:Nat->Heap->Prop) (J:It) (H':Hp),itv=.ref it/\Inv X pins Z H' s2/\O3 X.prog X.w X.K tg J fp it tn/\tn 0 s2.heap/\(∀b∈fp,Ge X pins H' b)/\R J H'
def PI(X:Cx)(tg iter:Expr)(wi:TI):Prop :=
 ∀(pins:List (Addr×Obj)) (s:Shared) (Z:St) (H:Hp) (R:It->Hp->Prop),Inv X pins Z H s->wi Z H R ->
  wpAny (model X.prog X.w) X.A (eval iter X.env) (λv s1=>wpAny (model X.prog X.w) X.A (pyIter v) (PIE X pins Z tg R) X.xe s1) X.xe s
theorem Uh{it:Addr}{o:Obj}{n:String}{vs:Array Value}{Q:Unit->Shared->Prop}(ho:s.heap.get? it=some o)(hc:o.cls=.type n)(hd:o.data=.fields vs)
  (hn:["enumerate", "zip", "dict_itemiterator", "dict_reverseitemiterator", "odict_iterator", "itertools.zip_longest", "itertools.pairwise"].contains n=false) (hQ:Q () s):wpAny M A (letOwnedTupleGo tg (.ref it) u) Q E s:=by
 unfold letOwnedTupleGo;cases tg<;>first
  |exact FV hQ
  | (cases u<;>first
    |exact FV hQ
    | (refine FU (wpAny_load ho ?_)
       rw[hc,hd]
       show wpAny M A (if (["enumerate", "zip", "dict_itemiterator", "dict_reverseitemiterator", "odict_iterator", "itertools.zip_longest", "itertools.pairwise"].contains n&&vs[0]? == some (rawInt _))=true then _ else _) Q E s
       rw[FS (by intro h;rw[hn,Zw4] at h;cases h)]
       exact FV hQ))
def Itl(K:Zzy)(a:Addr):It :=
 ⟨λi H=>∃xs x,SqL K H a xs/\xs[i]?=some x,λi H x H'=>H'=H/\∀xs,SqL K H a xs->xs[i]?=some x,λi H=>∃xs,SqL K H a xs/\xs.length<=i⟩
def Itt(K:Zzy)(a:Addr):It :=
 ⟨λi H=>∃xs x,SqT K H a xs/\xs[i]?=some x,λi H x H'=>H'=H/\∀xs,SqT K H a xs->xs[i]?=some x,λi H=>∃xs,SqT K H a xs/\xs.length<=i⟩
def Itr(lo:Int)(n:Nat):It:=⟨λi _=>i<n,λi H x H'=>H'=H/\x=.int (lo+i),λi _=>n<=i⟩
theorem Ct(a it:Addr):O3 P w K tg (Itl K a) [it] it (λi h=>h.IsListIter it a i) where
 mem:=by simp
 obj:=λi h st b hb=>by
  have e:b=it:=by simpa using hb
  subst e;obtain⟨o,e,c,d⟩:=st;exact⟨o,e,λv z=>by rw[d] at z;cases z⟩
 keep:=λi h h' st k=>st.at λo e=>k it (by simp) o e;item:=by
  intro X hP hw hK hc i pins s Z H E I hf st hg;subst hP hw hK;obtain⟨xs,x,hq,hx⟩:=hg;obtain⟨its,rv,p,hz⟩:=I.list hq;obtain⟨u,hu,ru⟩:=rv.get hx;obtain⟨f0,f1,f2,f3,f4,f5⟩:=hf it (by simp);refine wpAny_pyNext_list_item st p.isList (x:=u) (by simpa using hu) λh' st' sb=>?_;have I1:Inv X pins Z H {s with heap:=h'}:=I.turned (t':=s.toks) (λb o hb e=>(sb.2 b hb).trans e) f0 f1 f3 f4 f5;obtain⟨o,e,c,d⟩:=id st';exact⟨u,rfl,Uh (s:={s with heap:=h'}) e c d (by decide) ⟨x,H,I1,ru,⟨rfl,λys hy=>by rw[I.list_inj hy hq];exact hx⟩,st',λb hb=>(hf b hb).1⟩⟩
 done:=by
  intro X hP hw hK hc i pins s Z H E I hf st hg;subst hP hw hK;obtain⟨xs,hq,hx⟩:=hg;obtain⟨its,rv,p,hz⟩:=I.list hq;obtain⟨f0,f1,f2,f3,f4,f5⟩:=hf it (by simp);have hl:=rv.length;exact wpAny_pyNext_list_end (I.ok.hd hc) st p.isList (by simp;lia) λh' eb=>⟨rfl,I.turned (t':=s.toks) (λb o hb e=>eb b o hb e) f0 f1 f3 f4 f5⟩
 self:=λ_ _ _ _ _ st h=>wpAny_pyIter_listiter st h
theorem Ev(a it:Addr):O3 P w K tg (Itt K a) [it] it (λi h=>h.IsTupleIter it a i) where
 mem:=by simp
 obj:=λi h st b hb=>by
  have e:b=it:=by simpa using hb
  subst e;obtain⟨o,e,c,d⟩:=st;exact⟨o,e,λv z=>by rw[d] at z;cases z⟩
 keep:=λi h h' st k=>st.at λo e=>k it (by simp) o e;item:=by
  intro X hP hw hK hc i pins s Z H E I hf st hg;subst hP hw hK;obtain⟨xs,x,hq,hx⟩:=hg;obtain⟨its,rv,p,hz⟩:=I.tuple hq;obtain⟨u,hu,ru⟩:=rv.get hx;obtain⟨f0,f1,f2,f3,f4,f5⟩:=hf it (by simp);refine wpAny_pyNext_tuple_item st (show s.heap.IsTuple a its.toArray from p) (x:=u) (by simpa using hu) λh' st' sb=>?_;have I1:Inv X pins Z H {s with heap:=h'}:=I.turned (t':=s.toks) (λb o hb e=>(sb.2 b hb).trans e) f0 f1 f3 f4 f5;obtain⟨o,e,c,d⟩:=id st';exact⟨u,rfl,Uh (s:={s with heap:=h'}) e c d (by decide) ⟨x,H,I1,ru,⟨rfl,λys hy=>by rw[I.tuple_inj hy hq];exact hx⟩,st',λb hb=>(hf b hb).1⟩⟩
 done:=by
  intro X hP hw hK hc i pins s Z H E I hf st hg;subst hP hw hK;obtain⟨xs,hq,hx⟩:=hg;obtain⟨its,rv,p,hz⟩:=I.tuple hq;obtain⟨f0,f1,f2,f3,f4,f5⟩:=hf it (by simp);have hl:=rv.length;exact wpAny_pyNext_tuple_end (I.ok.hd hc) st (show s.heap.IsTuple a its.toArray from p) (by simp;lia) λh' eb=>⟨rfl,I.turned (t':=s.toks) (λb o hb e=>eb b o hb e) f0 f1 f3 f4 f5⟩
 self:=λ_ _ _ _ _ st h=>wpAny_pyIter_tupleiter st h
theorem Z1(it:Addr)(lo:Int)(n:Nat):O3 P w K tg (Itr lo n) [it] it (λi h=>IsRangeIter h it (lo+(i:Nat)*1) ((n:Int) - (i:Nat)) 1) where
 mem:=by simp
 obj:=λi h st b hb=>by
  have e:b=it:=by simpa using hb
  subst e;exact⟨_,st,λv z=>by
   have z':Data.fields _=Data.cell v:=z
   cases z'⟩
 keep:=λi h h' st k=>k it (by simp) _ st;item:=by
  intro X hP hw hK hc i pins s Z H E I hf st hg;subst hP hw hK;obtain⟨f0,f1,f2,f3,f4,f5⟩:=hf it (by simp);have W:=Walks.range (prog:=X.prog) (w:=X.w) (I.ok.hd hc) it lo 1 n;refine W.item i s _ _ hg st λv h' tk hv st' kk=>?_;obtain⟨t,rfl⟩:=hv;have I1:Inv X pins Z H {s with heap:=h',toks:=tk}:=I.turned (λb o hb e=>kk b o (by simpa using hb) e) f0 f1 f3 f4 f5;refine⟨_,rfl,Uh (s:={s with heap:=h',toks:=tk}) (n := "range_iterator") st' rfl rfl (by decide) ⟨.int (lo+i),H,I1,⟨t,?_⟩,⟨rfl,rfl⟩,st',λb hb=>(hf b hb).1⟩⟩;rw[Int.mul_one]
 done:=by
  intro X hP hw hK hc i pins s Z H E I hf st hg;subst hP hw hK;obtain⟨f0,f1,f2,f3,f4,f5⟩:=hf it (by simp);exact wpAny_pyNext_range_end (I.ok.hd hc) st (by have:n<=i:=hg;lia) λh' eb=>⟨rfl,I.turned (t':=s.toks) (λb o hb e=>eb b o hb e) f0 f1 f3 f4 f5⟩
 self:=λ_ _ _ _ _ st h=>wpAny_pyIter_rangeiter st h
def zf(K:Zzy)(tl:TE):TI:=λZ H R=>tl Z H λx H1=>∃a,x=.ref a/\(∃xs,SqL K H1 a xs)/\R (Itl K a) H1
theorem vt{l:Expr}{tl:TE}(hl:PE X l tl):PI X tg l (zf X.K tl):=by
 intro pins s Z H R I h;refine thn (hl pins s Z H _ I h) λv s1 z0=>?_;obtain⟨x,H1,I1,r1,q1⟩:=z0;obtain⟨a,e,⟨xs,hq⟩,q⟩:=q1;subst e;cases r1;obtain⟨its,rv,p,hz⟩:=I1.list hq;refine wpAny_pyIter_list p.isList ?_;refine⟨s1.heap.objs.size,[s1.heap.objs.size],_,_,H1,rfl,I1.kept (t':=s1.toks) λb o e=>Zzv _ e,Ct a _,⟨_,Zzh _ rfl,rfl,rfl⟩,λb hb=>?_,q⟩;have e:b=s1.heap.objs.size:=by simpa using hb
 subst e;exact I1.fpOk (Zzx _) (I1.hok.fresh (Zzx _))
theorem mw{R:It->Hp->Prop}{lo hi:Int}{t u v:Tok}{tk:Nat}(I:Inv X pins Z H s)(h1:-(2^62)<=lo)(h2:lo<2^62)(h3:-(2^62)<=hi)(h4:hi<2^62)
  (q:R (Itr lo (hi - lo).toNat) H):wpAny (model X.prog X.w) X.A (pyIter (.ref s.heap.objs.size)) (PIE X pins Z tg R) E {s with heap:=s.heap.push {cls:=.type "range",data:=.fields #[.int lo t,.int hi u,.int 1 v]},toks:=tk}:=by
 refine wpAny_pyIter_range (IsRange.new ..) (small_one h1 h2 h3 h4) ?_;have I1:Inv X pins Z H {s with heap:=s.heap.push {cls:=.type "range",data:=.fields #[.int lo t,.int hi u,.int 1 v]},toks:=tk}:=I.kept λb o e=>Zzv _ e;refine⟨(s.heap.push {cls:=.type "range",data:=.fields #[.int lo t,.int hi u,.int 1 v]}).objs.size,[(s.heap.push {cls:=.type "range",data:=.fields #[.int lo t,.int hi u,.int 1 v]}).objs.size],_,_,H,rfl,
  I1.kept (t':=tk) λb o e=>Zzv _ e,Z1 _ lo (hi - lo).toNat,?_,λb hb=>?_,q⟩
 ·have e1:lo+((0:Nat):Int)*1=lo:=by simp
  have e2:(((hi - lo).toNat:Nat):Int) - ((0:Nat):Int)=Builtin.Range.rangeSize lo hi 1:=by rw[rangeSize_one];split<;>lia
  show IsRangeIter _ _ (lo+((0:Nat):Int)*1) ((((hi - lo).toNat:Nat):Int) - ((0:Nat):Int)) 1;rw[e1,e2];exact Zzh _ rfl
 ·have e:b=(s.heap.push {cls:=.type "range",data:=.fields #[.int lo t,.int hi u,.int 1 v]}).objs.size:=by simpa using hb
  subst e;exact I1.fpOk (Zzx _) (I1.hok.fresh (Zzx _))
def Ug(ta:TA):TI:=λZ H R=>ta Z H λvs H1=>∃j:Int,vs=[.int j]/\-(2^62)<=j/\j<2^62/\R (Itr 0 j.toNat) H1
def fc(ta:TA):TI:=λZ H R=>ta Z H λvs H1=>∃i j:Int,vs=[.int i,.int j]/\(-(2^62)<=i/\i<2^62/\-(2^62)<=j/\j<2^62)/\R (Itr i (j - i).toNat) H1
theorem ic{a:Expr}{ta:TA}{p:Pos}(hg:Gl X "range")(hm:X.mg "range" = none)(ha:PA X [a] ta)(hs:starEach [a] X.env=[(false,eval a X.env)]:=by rfl):PI X tg (.Call (.Name "range" p) [a] [] pos) (Ug ta):=by
 intro pins s Z H R I h;refine Call_ (Jf I hg hm boot_range (Zxf (thn (ha pos pins s Z H _ I h) λus s1 ⟨vs,H1,I1,r1,q1⟩=>?_) hs rfl));obtain⟨j,e,q1,q2,q⟩:=q1;subst e;cases r1 with
 |cons r rr =>
  cases rr;obtain⟨t,rfl⟩:=r;exact call_range_1 (mw I1 (by lia) (by lia) q1 q2 (by simpa using q))
def A1e(wi:TI)(g:TG)(tb:TS):TS:=λD Z H=>wi Z H λJ H1=>∃W:Nat->Nat->St->Hp->Prop,(∃m,W 0 m Z H1)/\∀i m Z H,W i m Z H ->
 (J.stop i H/\D.nx Z H)\/(J.go i H/\∃N:St->Hp->Prop,(∀Z' H',N Z' H'->∃m',m'<m/\W (i+1) m' Z' H')/\∀x H',J.yld i H x H'->g x Z H' λσ2 H2=>tb {D with nx:=N,ct:=N,bk:=D.nx} σ2 H2)
def Im(fp:List Addr)(h:Heap):List (Addr×Obj):=fp.filterMap λb=>(h.get? b).map λo=>(b,o)
theorem Db{b:Addr}{o:Obj}(hb:b∈fp)(e:h.get? b=some o):(b,o)∈Im fp h:=Zwz.mpr ⟨b,hb,by rw[e];rfl⟩
theorem io{p:Addr×Obj}(hp:p∈Im fp h):p.1∈fp/\h.get? p.1=some p.2:=by
 obtain⟨b,hb,e⟩:=Zwz.mp hp;cases q:h.get? b with
 |none=>rw[q] at e;cases e
 |some o =>
  rw[q] at e;have e':(b,o)=p:=Zzm e;subst e';exact⟨hb,q⟩
theorem Inv.pinned(I:Inv X pins Z H s)(hf:∀b∈fp,Ge X pins H b)(ho:∀b∈fp,∃o,s.heap.get? b=some o/\∀v,o.data≠.cell v):Inv X (pins++Im fp s.heap) Z H s :=
 I.pins_of λp hp=>(Zz2.mp hp).elim (λz=>I.pin p (Zzg _ z)) λz=>by
  obtain⟨hb,e⟩:=io z;obtain⟨f0,f1,f2,_⟩:=hf p.1 hb;obtain⟨o,e',d⟩:=ho p.1 hb;rw[e] at e';cases e';exact⟨e,f0,f1,f2,d⟩
theorem Inv.unpinned(I:Inv X (pins++pl) Z H s):Inv X pins Z H s:=I.pins_of λp hp=>I.pin p (Zzg _ (Zyk _ hp))
theorem Bd{wi:TI}{g:TG}{tb:TS}(hp:PassesOwn (model X.prog X.w) X.A X.env X.xe)(hc:X.calm=true)(hi:PI X tg iter wi)(hg:PG X tg g)(hb:PSs X body tb)
  (hs:∀x,foldedSetIterable iter X.env x=pure x:=by intro _;rfl):PS X (.For tg iter body [] pos) (A1e wi g tb):=by
 intro pins s Z H D I h;refine wpAny_For (thn (hi pins s Z H _ I h) λv s1 h1=>thn h1 λitv s2 h2=>?_) hs;obtain⟨it,fp,tn,J,H2,e,I2,T,st2,f2,W,⟨m0,w0⟩,turn⟩:=h2;subst e;have stat:∀{H':Hp},(∀b∈fp,H' b=none)->∀b∈fp,Ge X pins H' b:=λhn b hb=>⟨hn b hb,(f2 b hb).2⟩;refine codeAny_forLoop_any (λn s'=>∃i Z' H',Inv X pins Z' H' s'/\tn i s'.heap/\(∀b∈fp,H' b=none)/\W i n Z' H') ?_ m0 ⟨0,Z,H2,I2,st2,λb hb=>(f2 b hb).1,w0⟩;rintro n s3 ⟨i,σ3,H3,I3,st3,fr3,w3⟩;rcases turn i n σ3 H3 w3 with ⟨stop,qn⟩ | ⟨go,N,hN,step⟩
 ·refine wpAny_passesOwn hp (thn (T.done X rfl rfl rfl hc i pins s3 σ3 H3 X.xe I3 (stat fr3) st3 stop) λr s4 z0=>?_);obtain⟨hr,I4⟩:=z0;subst hr;exact wpAny_execs_nil ⟨σ3,H3,I4,qn⟩
 ·refine wpAny_passesOwn hp (thn (T.item X rfl rfl rfl hc i pins s3 σ3 H3 X.xe I3 (stat fr3) st3 go) λr s4 z0=>?_);obtain⟨u,hr,h4⟩:=z0;subst hr;refine wpAny_passesOwn hp (thn h4 λ_ s5 z0=>?_);obtain⟨x,H5,I5,r5,y5,st5,fr5⟩:=z0;have I5':=I5.pinned (stat fr5) (T.obj _ _ st5);refine wpAny_passesOwn hp (thn (hg _ s5 σ3 H5 x u _ I5' r5 (step x H5 y5)) λ_ s6 z0=>?_);obtain⟨σ6,H6,I6,q6⟩:=z0;refine wpAny_passesOwn hp (thn (hb _ s6 σ6 H6 _ I6 q6) λf s7 q7=>?_);have again:∀{σ7:St} {H7:Hp},Inv X (pins++Im fp s5.heap) σ7 H7 s7->N σ7 H7->∃m,m<n/\∃i Z' H',Inv X pins Z' H' s7/\tn i s7.heap/\(∀b∈fp,H' b=none)/\W i m Z' H':=λ{σ7 H7} I7 n7=>by
   obtain⟨m',hm,w7⟩:=hN σ7 H7 n7;refine⟨m',hm,i+1,σ7,H7,I7.unpinned,T.keep _ _ _ st5 λb hb o e=>(I7.pin (b,o) (Zzg _ (Zzg _ (Db hb e)))).1,λb hb=>?_,w7⟩;obtain⟨o,e,d⟩:=T.obj _ _ st5 b hb;exact(I7.pin (b,o) (Zzg _ (Zzg _ (Db hb e)))).2.1
  cases f with
  |next=>obtain⟨σ7,H7,I7,n7⟩:=q7;exact again I7 n7
  |cont=>obtain⟨σ7,H7,I7,n7⟩:=q7;exact again I7 n7
  |brk=>obtain⟨σ7,H7,I7,q7⟩:=q7;exact⟨σ7,H7,I7.unpinned,q7⟩
  |ret v=>obtain⟨x7,σ7,H7,I7,r7,q7⟩:=q7;exact⟨x7,σ7,H7,I7.unpinned,r7,q7⟩
theorem qx{g:TG}{tb:TS}{D:AY}(Pv:Nat->St->Hp->Prop)(h0:Pv 0 Z H)(hl:∀i Z H,i<=xs.length->Pv i Z H->SqL K H a xs)
  (hs:∀i x Z H,xs[i]?=some x->Pv i Z H->g x Z H λσ2 H2=>tb {D with nx:=Pv (i+1),ct:=Pv (i+1),bk:=D.nx} σ2 H2) (hd:∀Z H,Pv xs.length Z H->D.nx Z H) :
  ∃W:Nat->Nat->St->Hp->Prop,(∃m,W 0 m Z H)/\∀i m Z H,W i m Z H ->
   ((Itl K a).stop i H/\D.nx Z H)\/((Itl K a).go i H/\∃N:St->Hp->Prop,(∀Z' H',N Z' H'->∃m',m'<m/\W (i+1) m' Z' H')/\∀x H',(Itl K a).yld i H x H'->g x Z H' λσ2 H2=>tb {D with nx:=N,ct:=N,bk:=D.nx} σ2 H2):=by
 refine⟨λi m Z H=>m=xs.length - i/\i<=xs.length/\Pv i Z H,⟨xs.length,by simp,Zym _,h0⟩,?_⟩;rintro i m Z H ⟨rfl,hi,p⟩;have q:=hl i Z H hi p;by_cases hlt:i<xs.length
 ·refine .inr ⟨⟨xs,xs[i],q,by simp[hlt]⟩,Pv (i+1),λZ' H' p'=>⟨xs.length - (i+1),by lia,rfl,hlt,p'⟩,λx H' y=>?_⟩;obtain⟨e,y⟩:=y;subst e;exact hs i x Z _ (y xs q) p
 ·have e:i=xs.length:=by lia
  subst e;exact .inl ⟨⟨xs,q,Zzx _⟩,hd Z H p⟩
abbrev R2:=V->V->Hp->VK->Prop
def OpR(X:Cx)(f:Value->Value->Sem Value)(r:R2):Prop :=
 ∀(pins:List (Addr×Obj)) (s:Shared) (Z:St) (H:Hp) (x y:V) (v u:Value) (Q:VK),Inv X pins Z H s->AC x v->AC y u->r x y H Q ->
  wpAny (model X.prog X.w) X.A (f v u) (EP X pins Z Q) X.xe s
def UnR(X:Cx)(f:Value->Sem Value)(r:V->Hp->VK->Prop):Prop :=
 ∀(pins:List (Addr×Obj)) (s:Shared) (Z:St) (H:Hp) (x:V) (v:Value) (Q:VK),Inv X pins Z H s->AC x v->r x H Q ->
  wpAny (model X.prog X.w) X.A (f v) (EP X pins Z Q) X.xe s
def AK(X:Cx)(f:Value)(r:List V->Hp->VK->Prop):Prop :=
 ∀(pins:List (Addr×Obj)) (s:Shared) (Z:St) (H:Hp) (xs:List V) (us:List Value) (Q:VK),Inv X pins Z H s->AB xs us->r xs H Q ->
  wpAny (model X.prog X.w) X.A (call f us) (EP X pins Z Q) X.xe s
def TruR(X:Cx)(r:V->Hp->(Bool->Hp->Prop)->Prop):Prop :=
 ∀(pins:List (Addr×Obj)) (s:Shared) (Z:St) (H:Hp) (x:V) (v:Value) (Q:Bool->Hp->Prop),Inv X pins Z H s->AC x v->r x H Q ->
  wpAny (model X.prog X.w) X.A (truthy v) (TP X pins Z Q) X.xe s
def tOp(r:R2)(ta tb:TE):TE:=λZ H Q=>ta Z H λx H1=>tb Z H1 λy H2=>r x y H2 Q
def tUn(r:V->Hp->VK->Prop)(ta:TE):TE:=λZ H Q=>ta Z H λx H1=>r x H1 Q
def rI(C:Int->Int->Prop)(g:Int->Int->V):R2:=λx y H Q=>∃i j,x=.int i/\y=.int j/\C i j/\Q (g i j) H
def rI0(g:Int->Int->V):R2:=λx y H Q=>∃i j,x=.int i/\y=.int j/\Q (g i j) H
def rU(g:Int->V):V->Hp->VK->Prop:=λx H Q=>∃i,x=.int i/\Q (g i) H
section
variable {a b c:Expr}{tb tc:TE}
theorem A13(ha:PE X a ta)(hb:PE X b tb){R:V->V->Hp->Prop}(I:Inv X pins Z H s)
  (h:ta Z H λx H1=>tb Z H1 λy H2=>R x y H2) {Q:Value->Shared->Prop} {f:Value->Value->Sem Value}
  (hf:∀v u s2 x y H2,Inv X pins Z H2 s2->AC x v->AC y u->R x y H2->wpAny (model X.prog X.w) X.A (f v u) Q X.xe s2) :
  wpAny (model X.prog X.w) X.A (eval a X.env) (λv s₁=>wpAny (model X.prog X.w) X.A (eval b X.env) (λu s₂=>wpAny (model X.prog X.w) X.A (f v u) Q X.xe s₂) X.xe s₁) X.xe s:=by
 refine thn (ha pins s Z H _ I h) λv s1 z0=>?_;obtain⟨x,H1,I1,r1,q1⟩:=z0;refine thn (hb pins s1 Z H1 _ I1 q1) λu s2 z0=>?_;obtain⟨y,H2,I2,r2,q2⟩:=z0;exact hf v u s2 x y H2 I2 r1 r2 q2
theorem Ai{op:Operator}{r:R2}(ho:OpR X (binaryOp op) r)(ha:PE X a ta)(hb:PE X b tb):PE X (.BinOp a op b pos) (tOp r ta tb):=by
 intro pins s Z H Q I h;exact wpAny_BinOp (A13 ha hb I h λv u s2 x y H2 I2 rx ry q=>ho pins s2 Z H2 x y v u Q I2 rx ry q)
theorem Xl{op:UnaryOp}{r:V->Hp->VK->Prop}(ho:UnR X (unaryOp op) r)(ha:PE X a ta):PE X (.UnaryOp op a pos) (tUn r ta):=by
 intro pins s Z H Q I h;exact UnaryOp_ (thn (ha pins s Z H _ I h) λv s1 z0=>by obtain⟨x,H1,I1,r1,q1⟩:=z0;exact ho pins s1 Z H1 x v Q I1 r1 q1)
theorem opI{f:Value->Value->Sem Value}{C:Int->Int->Prop}{g:Int->Int->Int}
  (rule:∀(i j:Int) (t u:Tok) (s:Shared) (Q:Value->Shared->Prop) (E:Value->Shared->Prop),C i j->Q (.int (g i j) s.toks) {s with toks:=s.toks+1}->wpAny (model X.prog X.w) X.A (f (.int i t) (.int j u)) Q E s) :
  OpR X f (rI C λi j=>.int (g i j)):=by
 intro pins s Z H x y v u Q I rx ry h;obtain⟨i,j,rfl,rfl,hc,q⟩:=h;obtain⟨t,rfl⟩:=rx;obtain⟨t',rfl⟩:=ry;exact rule i j t t' s _ _ hc ⟨.int (g i j),H,I.tok _,⟨_,rfl⟩,q⟩
theorem A0i{f:Value->Value->Sem Value}{g:Int->Int->Int}
  (rule:∀(i j:Int) (t u:Tok) (s:Shared) (Q:Value->Shared->Prop) (E:Value->Shared->Prop),Q (.int (g i j) s.toks) {s with toks:=s.toks+1}->wpAny (model X.prog X.w) X.A (f (.int i t) (.int j u)) Q E s) :
  OpR X f (rI0 λi j=>.int (g i j)):=by
 intro pins s Z H x y v u Q I rx ry h;obtain⟨i,j,rfl,rfl,q⟩:=h;obtain⟨t,rfl⟩:=rx;obtain⟨t',rfl⟩:=ry;exact rule i j t t' s _ _ ⟨.int (g i j),H,I.tok _,⟨_,rfl⟩,q⟩
theorem wf{f:Value->Value->Sem Value}{g:Int->Int->Bool}
  (rule:∀(i j:Int) (t u:Tok) (s:Shared) (Q:Value->Shared->Prop) (E:Value->Shared->Prop),Q (.bool (g i j)) s->wpAny (model X.prog X.w) X.A (f (.int i t) (.int j u)) Q E s) :
  OpR X f (rI0 λi j=>.bl (g i j)):=by
 intro pins s Z H x y v u Q I rx ry h;obtain⟨i,j,rfl,rfl,q⟩:=h;obtain⟨t,rfl⟩:=rx;obtain⟨t',rfl⟩:=ry;exact rule i j t t' s _ _ ⟨.bl (g i j),H,I,rfl,q⟩
def CPow(i j:Int):Prop:=0<=j/\j<=1000000/\i.natAbs<2^64
def DU(i j:Int):Prop:=(-(2^64)<i/\i<2^64)\/(-(2^64)<j/\j<2^64)
theorem DU.ok{i j:Int}(h:DU i j):IntMulOk i j:=by
 rcases h with ⟨h1,h2⟩ | ⟨h1,h2⟩
 ·exact .of_left (intBits_le_64 h1 h2)
 ·exact .of_right (intBits_le_64 h1 h2)
theorem Dr:OpR X (binaryOp .Add) (rI0 λi j=>.int (i+j)):=A0i λ_ _ _ _ _ _ _ q=>add_int q
theorem Zg:OpR X (binaryOp .Sub) (rI0 λi j=>.int (i - j)):=A0i λ_ _ _ _ _ _ _ q=>sub_int q
theorem o7:OpR X (binaryOp .Mult) (rI DU λi j=>.int (i*j)):=opI λ_ _ _ _ _ _ _ hc q=>mul_int q hc.ok
theorem Li:OpR X (binaryOp .Mod) (rI (λ_ j=>0<j) λi j=>.int (i % j)):=opI λi j _ _ _ _ _ hc q=>by
 have h1:(0:Int)<j:=hc;exact mod_int' (by lia) (by rw[Int.fmod_eq_emod_of_nonneg i (by lia)];exact q)
theorem Zi:OpR X (binaryOp .Pow) (rI CPow λi j=>.int (i^j.toNat)):=opI λ_ _ _ _ _ _ _ hc q=>pow_int_small hc.1 hc.2.1 hc.2.2 q
theorem xj:OpR X (inplaceOp .Add) (rI0 λi j=>.int (i+j)):=A0i λ_ _ _ _ _ _ _ q=>iadd_int q
theorem unI{f:Value->Sem Value}{g:Int->Int}
  (rule:∀(i:Int) (t:Tok) (s:Shared) (Q:Value->Shared->Prop) (E:Value->Shared->Prop),Q (.int (g i) s.toks) {s with toks:=s.toks+1}->wpAny (model X.prog X.w) X.A (f (.int i t)) Q E s) :
  UnR X f (rU λi=>.int (g i)):=by
 intro pins s Z H x v Q I rx h;obtain⟨i,rfl,q⟩:=h;obtain⟨t,rfl⟩:=rx;exact rule i t s _ _ ⟨.int (g i),H,I.tok _,⟨_,rfl⟩,q⟩
theorem Q8:UnR X (unaryOp .USub) (rU λi=>.int (-i)):=unI λ_ _ _ _ _ q=>neg_int q
end
def ve:V->V->Bool
 |.non,.non=>true | .non,.int _=>true | .int _,.non=>true | .non,.bl _=>true | .bl _,.non=>true | .non,.str _=>true | .str _,.non=>true
 |.int _,.int _=>true | .bl _,.bl _=>true | .str _,.str _=>true | .byt _,.byt _=>true
 |.int _,.str _=>true | .str _,.int _=>true | .bl _,.str _=>true | .str _,.bl _=>true
 |_,_=>false
def rEq:R2:=λx y H Q=>ve x y=true/\Q (.bl (decide (x=y))) H
def rNe:R2:=λx y H Q=>ve x y=true/\Q (.bl (!decide (x=y))) H
theorem g7{i j:Int}:decide (V.int i=V.int j)=(i == j):=by
 rw[Zvm];simp
theorem rk{i j:Bool}:decide (V.bl i=V.bl j)=(i == j):=by
 rw[Zvm];simp
theorem g6{i j:Str}:decide (V.str i=V.str j)=(i == j):=by
 rw[Zvm];simp
theorem g8{i j:Array UInt8}:decide (V.byt i=V.byt j)=(i.toList == j.toList):=by
 rw[Zvm];cases i;cases j;simp
section
variable {a b c:Expr}{tb tc:TE}
theorem B9{Q:VK}{k k':Bool}(I:Inv X pins Z H s)(q:Q (.bl k) H)(e:k=k'):EP X pins Z Q (.bool k') s:=by
 subst e;exact⟨.bl k,H,I,rfl,q⟩
theorem A1l:OpR X (compareOp .Eq) rEq:=by
 intro pins s Z H x y v u Q I rx ry h;obtain⟨hs,q⟩:=h;cases x with
 |non =>
  cases rx;cases y with
  |non=>cases ry;exact PySem.EqNone.eq_none_none (B9 I q (by simp))
  |bl j=>cases ry;exact PySem.EqNone.eq_none_bool (B9 I q (by simp))
  |int j=>obtain⟨t',rfl⟩:=ry;exact PySem.EqNone.eq_none_int (B9 I q (by simp))
  |str j=>obtain⟨t',rfl⟩:=ry;exact PySem.EqNone.eq_none_str (B9 I q (by simp))
  |_=>exact absurd (show false=true from hs) Zzd
 |bl i =>
  cases rx;cases y with
  |non=>cases ry;exact PySem.EqNone.eq_bool_none (B9 I q (by simp))
  |bl j=>cases ry;exact eq_bool (B9 I q rk)
  |str j=>obtain⟨t',rfl⟩:=ry;exact PySem.EqMixed.eq_bool_str (B9 I q (by simp))
  |_=>exact absurd (show false=true from hs) Zzd
 |int i =>
  obtain⟨t,rfl⟩:=rx;cases y with
  |non=>cases ry;exact PySem.EqNone.eq_int_none (B9 I q (by simp))
  |int j=>obtain⟨t',rfl⟩:=ry;exact eq_int (B9 I q g7)
  |str j=>obtain⟨t',rfl⟩:=ry;exact PySem.EqMixed.eq_int_str (B9 I q (by simp))
  |_=>exact absurd (show false=true from hs) Zzd
 |str i =>
  obtain⟨t,rfl⟩:=rx;cases y with
  |non=>cases ry;exact PySem.EqNone.eq_str_none (B9 I q (by simp))
  |bl j=>cases ry;exact PySem.EqMixed.eq_str_bool (B9 I q (by simp))
  |int j=>obtain⟨t',rfl⟩:=ry;exact PySem.EqMixed.eq_str_int (B9 I q (by simp))
  |str j=>obtain⟨t',rfl⟩:=ry;exact eq_str (B9 I q g6)
  |_=>exact absurd (show false=true from hs) Zzd
 |byt i =>
  obtain⟨t,rfl⟩:=rx;cases y with
  |byt j=>obtain⟨t',rfl⟩:=ry;exact PySem.W.eq_bytes (B9 I q g8)
  |_=>exact absurd (show false=true from hs) Zzd
 |_=>cases y<;>exact absurd (show false=true from hs) Zzd
theorem A1j:OpR X (compareOp .NotEq) rNe:=by
 intro pins s Z H x y v u Q I rx ry h;obtain⟨hs,q⟩:=h;cases x with
 |non =>
  cases rx;cases y with
  |non=>cases ry;exact PySem.EqNone.ne_none_none (B9 I q (by simp))
  |bl j=>cases ry;exact PySem.EqNone.ne_none_bool (B9 I q (by simp))
  |int j=>obtain⟨t',rfl⟩:=ry;exact PySem.EqNone.ne_none_int (B9 I q (by simp))
  |str j=>obtain⟨t',rfl⟩:=ry;exact PySem.EqNone.ne_none_str (B9 I q (by simp))
  |_=>exact absurd (show false=true from hs) Zzd
 |bl i =>
  cases rx;cases y with
  |non=>cases ry;exact PySem.EqNone.ne_bool_none (B9 I q (by simp))
  |bl j=>cases ry;exact ne_bool (B9 I q (congrArg not rk))
  |str j=>obtain⟨t',rfl⟩:=ry;exact PySem.EqMixed.ne_bool_str (B9 I q (by simp))
  |_=>exact absurd (show false=true from hs) Zzd
 |int i =>
  obtain⟨t,rfl⟩:=rx;cases y with
  |non=>cases ry;exact PySem.EqNone.ne_int_none (B9 I q (by simp))
  |int j=>obtain⟨t',rfl⟩:=ry;exact ne_int (B9 I q (congrArg not g7))
  |str j=>obtain⟨t',rfl⟩:=ry;exact PySem.EqMixed.ne_int_str (B9 I q (by simp))
  |_=>exact absurd (show false=true from hs) Zzd
 |str i =>
  obtain⟨t,rfl⟩:=rx;cases y with
  |non=>cases ry;exact PySem.EqNone.ne_str_none (B9 I q (by simp))
  |bl j=>cases ry;exact PySem.EqMixed.ne_str_bool (B9 I q (by simp))
  |int j=>obtain⟨t',rfl⟩:=ry;exact PySem.EqMixed.ne_str_int (B9 I q (by simp))
  |str j=>obtain⟨t',rfl⟩:=ry;exact ne_str (B9 I q (congrArg not g6))
  |_=>exact absurd (show false=true from hs) Zzd
 |byt i =>
  obtain⟨t,rfl⟩:=rx;cases y with
  |byt j=>obtain⟨t',rfl⟩:=ry;exact PySem.W.ne_bytes (B9 I q (congrArg not g8))
  |_=>exact absurd (show false=true from hs) Zzd
 |_=>cases y<;>exact absurd (show false=true from hs) Zzd
theorem A1k:OpR X (compareOp .Lt) (rI0 λi j=>.bl (decide (i<j))):=wf λ_ _ _ _ _ _ _ q=>lt_int q
theorem Rf:OpR X (compareOp .LtE) (rI0 λi j=>.bl (decide (i<=j))):=wf λ_ _ _ _ _ _ _ q=>le_int q
theorem Oq:OpR X (compareOp .Gt) (rI0 λi j=>.bl (decide (j<i))):=wf λ_ _ _ _ _ _ _ q=>gt_int q
theorem o9:OpR X (compareOp .GtE) (rI0 λi j=>.bl (decide (j<=i))):=wf λ_ _ _ _ _ _ _ q=>ge_int q
theorem ii:OpR X (compareOp .In) (λx y H Q=>∃i j,x=.str i/\y=.str j/\Q (.bl (!(Zv9 j i 0 j.length 1).isEmpty)) H):=by
 intro pins s Z H x y v u Q I rx ry h;obtain⟨i,j,rfl,rfl,q⟩:=h;obtain⟨t,rfl⟩:=rx;obtain⟨t',rfl⟩:=ry;exact in_str (B9 I q rfl)
theorem A0h:OpR X (compareOp .Is) (λx y H Q=>y=.non/\Q (.bl (decide (x=.non))) H):=by
 intro pins s Z H x y v u Q I rx ry h;obtain⟨rfl,q⟩:=h;cases ry;refine is_none_gen (B9 I q ?_);cases x<;>first
  | (cases rx;rfl)
  | (obtain⟨t,rfl⟩:=rx;rfl)
theorem wa:OpR X (compareOp .IsNot) (λx y H Q=>y=.non/\Q (.bl (!decide (x=.non))) H):=by
 intro pins s Z H x y v u Q I rx ry h;obtain⟨rfl,q⟩:=h;cases ry;refine isnot_none_gen (B9 I q ?_);cases x<;>first
  | (cases rx;rfl)
  | (obtain⟨t,rfl⟩:=rx;rfl)
theorem OpR.or{f:Value->Value->Sem Value}{r r':R2}(h:OpR X f r)(h':OpR X f r'):OpR X f (λx y H Q=>r x y H Q\/r' x y H Q):=by
 intro pins s Z H x y v u Q I rx ry q;rcases q with q | q
 ·exact h pins s Z H x y v u Q I rx ry q
 ·exact h' pins s Z H x y v u Q I rx ry q
theorem Ao(b:Expr){op:CmpOp}(h:op≠.In:=by decide)(h2:op≠.NotIn:=by decide):behindInMarks op b=false:=by
 have e1:(op == CmpOp.In)=false:=by cases op<;>first | rfl | exact absurd rfl h
 have e2:(op == CmpOp.NotIn)=false:=by cases op<;>first | rfl | exact absurd rfl h2
 cases b<;>simp[behindInMarks,e1,e2]
theorem C3{op:CmpOp}{r:R2}(ho:OpR X (compareOp op) r)(ha:PE X a ta)(hb:PE X b tb)(hm:behindInMarks op b=false):PE X (.Compare a [op] [b] pos) (tOp r ta tb):=by
 intro pins s Z H Q I h;exact wpAny_Compare1 (A13 ha hb I h λv u s2 x y H2 I2 rx ry q=>ho pins s2 Z H2 x y v u Q I2 rx ry q) hm
def Tp(t:TE):TT:=λZ H Q=>t Z H λx H'=>∃k,x=.bl k/\Q k H'
theorem An{op:CmpOp}{r:R2}(ho:OpR X (compareOp op) r)(ha:PE X a ta)(hb:PE X b tb)(hm:behindInMarks op b=false):PT X (.Compare a [op] [b] pos) (Tp (tOp r ta tb)):=by
 intro pins s Z H Q I h;refine wpAny_isTrue_Compare1 (thn (ha pins s Z H _ I h) λv s1 ⟨x,H1,I1,r1,q1⟩=>thn (hb pins s1 Z H1 _ I1 q1) λu s2 ⟨y,H2,I2,r2,q2⟩ =>
  thn (ho pins s2 Z H2 x y v u _ I2 r1 r2 q2) λc s3 ⟨z,H3,I3,r3,k,e,q3⟩=>?_) hm
 subst e;cases r3;exact wpAny_truthy_bool ⟨H3,I3,q3⟩
def Nc(r r':R2)(ta tb tc:TE):TE:=λZ H Q=>ta Z H λx H1=>tb Z H1 λy H2=>r x y H2 λz H3=>∃k,z=.bl k /\
 (if k=true then tc Z H3 λw' H4=>r' y w' H4 Q else Q (.bl false) H3)
theorem nz{op op':CmpOp}{r r':R2}(ho:OpR X (compareOp op) r)(ho':OpR X (compareOp op') r')(ha:PE X a ta)(hb:PE X b tb)(hc:PE X c tc)
  (hm:lastMarks [op,op'] [b,c]=false:=by with_unfolding_all rfl):PE X (.Compare a [op,op'] [b,c] pos) (Nc r r' ta tb tc):=by
 intro pins s Z H Q I h;refine Compare_chain (thn (ha pins s Z H _ I h) λv s1 ⟨x,H1,I1,r1,q1⟩=>chain_link (thn (hb pins s1 Z H1 _ I1 q1) λu s2 ⟨y,H2,I2,r2,q2⟩ =>
  thn (ho pins s2 Z H2 x y v u _ I2 r1 r2 q2) λd s3 ⟨z,H3,I3,r3,k,e,q3⟩=>?_)) hm
 subst e;cases r3;refine wpAny_truthy_bool ?_;cases k with
 |false=>exact ite_ff ⟨.bl false,H3,I3,rfl,q3⟩
 |true=>exact ite_tt (chain_last (thn (hc pins s3 Z H3 _ I3 q3) λw' s4 z0=>by obtain⟨z',H4,I4,r4,q4⟩:=z0;exact ho' pins s4 Z H4 y z' u w' Q I4 r2 r4 q4))
theorem Xh{op op':CmpOp}{r r':R2}(ho:OpR X (compareOp op) r)(ho':OpR X (compareOp op') r')(ha:PE X a ta)(hb:PE X b tb)(hc:PE X c tc)
  (hm:lastMarks [op,op'] [b,c]=false:=by with_unfolding_all rfl):PT X (.Compare a [op,op'] [b,c] pos) (Tp (Nc r r' ta tb tc)):=by
 intro pins s Z H Q I h;refine isTrue_chain (thn (ha pins s Z H _ I h) λv s1 ⟨x,H1,I1,r1,q1⟩=>test_link (thn (hb pins s1 Z H1 _ I1 q1) λu s2 ⟨y,H2,I2,r2,q2⟩ =>
  thn (ho pins s2 Z H2 x y v u _ I2 r1 r2 q2) λd s3 ⟨z,H3,I3,r3,k,e,q3⟩=>?_)) hm
 subst e;cases r3;refine wpAny_truthy_bool ?_;cases k with
 |false =>
  obtain⟨k',e',q'⟩:=q3;cases e';exact ite_ff ⟨H3,I3,q'⟩
 |true =>
  refine ite_tt (test_last (thn (hc pins s3 Z H3 _ I3 q3) λw' s4 ⟨z',H4,I4,r4,q4⟩=>thn (ho' pins s4 Z H4 y z' u w' _ I4 r2 r4 q4) λd' s5 z0=>?_));obtain⟨z2,H5,I5,r5,k2,e2,q5⟩:=z0;subst e2;cases r5;exact wpAny_truthy_bool ⟨H5,I5,q5⟩
def TruV(K:Zzy)(x:V)(H:Hp)(k:Bool):Prop :=
 match x with
 |.non=>k=false
 |.bl b=>k=b
 |.int i=>k=(i != 0)
 |.str y=>y.length<=sizeLine/\k=((y.length:Int) != 0)
 |.byt y=>y.size<=sizeLine/\k=((y.size:Int) != 0)
 |.ref p=>(∃xs,SqL K H p xs/\k=!xs.isEmpty)\/(∃xs,SqT K H p xs/\k=!xs.isEmpty)\/∃kvs,H p=some (.dK kvs)/\k=!kvs.isEmpty
 |_=>False
theorem ac{κ:Type}{kvs:List (κ×V)}{vs:List (κ×Value)}(r:KV kvs vs):(!vs.isEmpty)=!kvs.isEmpty:=by
 cases r<;>rfl
theorem Rw(r:AB xs its):(!its.toArray.isEmpty)=!xs.isEmpty:=by
 cases r<;>simp
theorem Kf:(sizeLine:Nat)<2^63:=by rw[sizeLine_eq];decide
theorem kg:TruR X (λx H Q=>∃k,TruV X.K x H k/\Q k H):=by
 intro pins s Z H x v Q I rx h;obtain⟨k,e,q⟩:=h;have hl:=Kf;have hs:sizeLine=16777216:=sizeLine_eq;cases x with
 |non =>
  cases rx;have e':k=false:=e;subst e';exact truthy_none ⟨H,I,q⟩
 |bl b =>
  cases rx;have e':k=b:=e;subst e';exact wpAny_truthy_bool ⟨H,I,q⟩
 |int i =>
  obtain⟨t,rfl⟩:=rx;have e':k=(i != 0):=e;subst e';exact PySem.P.truthy_int ⟨H,I,q⟩
 |str y =>
  obtain⟨t,rfl⟩:=rx;obtain⟨hy,e'⟩:y.length<=sizeLine/\k=((y.length:Int) != 0):=e;subst e';exact PySem.P.truthy_str (by lia) ⟨H,I.tok _,q⟩
 |byt y =>
  obtain⟨t,rfl⟩:=rx;obtain⟨hy,e'⟩:y.size<=sizeLine/\k=((y.size:Int) != 0):=e;subst e';exact PySem.W.truthy_bytes (by lia) ⟨H,I.tok _,q⟩
 |ref p =>
  cases rx;have e':(∃xs,SqL X.K H p xs/\k=!xs.isEmpty)\/(∃xs,SqT X.K H p xs/\k=!xs.isEmpty)\/∃kvs,H p=some (.dK kvs)/\k=!kvs.isEmpty:=e;rcases e' with ⟨xs,hx,e'⟩ | ⟨xs,hx,e'⟩ | ⟨kvs,hx,e'⟩
  ·subst e';obtain⟨its,r,pl,hz⟩:=I.list hx;have hlen:=r.length;exact wpAny_truthy_list pl.isList (by simp only[Zzs];lia) ⟨H,I.tok _,by rw[Rw r];exact q⟩
  ·subst e';obtain⟨its,r,pl,hz⟩:=I.tuple hx;have hlen:=r.length;exact truthy_tuple pl (by simp only[Zzs];lia) ⟨H,I.tok _,by rw[Rw r];exact q⟩
  ·subst e';obtain⟨hz,hS,vs,r,m⟩:kvs.length<=sizeLine/\(p == sysModules)=false/\∃vs,KV kvs vs/\s.heap.DictOf (B5 X.prog X.w) p vs:=I.hok p _ hx;have hlen:kvs.length=vs.length:=Paired.length r;exact wpAny_truthy_dict hS m (by lia) ⟨H,I.tok _,by rw[ac r];exact q⟩
 |_=>exact(show False from e).elim
theorem Ad:OpR X (binaryOp .Add) (λx y H Q=>∃i j,x=.str i/\y=.str j/\i.length+j.length<=sizeLine/\Q (.str (i++j)) H):=by
 intro pins s Z H x y v u Q I rx ry h;obtain⟨i,j,rfl,rfl,hz,q⟩:=h;obtain⟨t,rfl⟩:=rx;obtain⟨t',rfl⟩:=ry;exact add_str (λt' tk=>⟨.str (i++j),H,I.tok _,⟨_,rfl⟩,q⟩) hz
theorem Yc:OpR X (inplaceOp .Add) (λx y H Q=>∃i j,x=.str i/\y=.str j/\i.length+j.length<=sizeLine/\Q (.str (i++j)) H):=by
 intro pins s Z H x y v u Q I rx ry h;obtain⟨i,j,rfl,rfl,hz,q⟩:=h;obtain⟨t,rfl⟩:=rx;obtain⟨t',rfl⟩:=ry;exact iadd_str (λt' tk=>⟨.str (i++j),H,I.tok _,⟨_,rfl⟩,q⟩) hz
theorem Gf{x:V}(r:AB [x] us):∃u,us=[u]/\AC x u:=by
 cases r with
 |cons r1 r2=>cases r2;exact⟨_,rfl,r1⟩
theorem Ti{x y:V}(r:AB [x,y] us):∃u w',us=[u,w']/\AC x u/\AC y w':=by
 cases r with
 |cons r1 r2 =>
  cases r2 with
  |cons r3 r4=>cases r4;exact⟨_,_,rfl,r1,r3⟩
theorem ju(hc:X.calm=true):AK X (.builtin "max") (λxs H Q=>∃i j,xs=[.int i,.int j]/\Q (.int (if j > i then j else i)) H):=by
 intro pins s Z H xs us Q I r h;obtain⟨i,j,rfl,q⟩:=h;obtain⟨u,w',rfl,⟨t,rfl⟩,⟨t',rfl⟩⟩:=Ti r;refine max_two_ints (I.ok.hd hc) λh' tk k=>⟨_,H,I.kept k,?_,q⟩;by_cases hj:j > i
 ·rw[FT hj,FT hj];exact⟨_,rfl⟩
 ·rw[FS hj,FS hj];exact⟨_,rfl⟩
theorem jt(hc:X.calm=true):AK X (.builtin "min") (λxs H Q=>∃i j,xs=[.int i,.int j]/\Q (.int (if j<i then j else i)) H):=by
 intro pins s Z H xs us Q I r h;obtain⟨i,j,rfl,q⟩:=h;obtain⟨u,w',rfl,⟨t,rfl⟩,⟨t',rfl⟩⟩:=Ti r;refine min_two_ints (I.ok.hd hc) λh' tk k=>⟨_,H,I.kept k,?_,q⟩;by_cases hj:j<i
 ·rw[FT hj,FT hj];exact⟨_,rfl⟩
 ·rw[FS hj,FS hj];exact⟨_,rfl⟩
theorem Nz:AK X (.type "int") (λxs H Q=>(∃i,xs=[.int i]/\Q (.int i) H)\/∃k,xs=[.bl k]/\Q (.int (if k then 1 else 0)) H):=by
 intro pins s Z H xs us Q I r h;rcases h with ⟨i,rfl,q⟩ | ⟨k,rfl,q⟩
 ·obtain⟨u,rfl,t,rfl⟩:=Gf r;exact call_int_int ⟨.int i,H,I,⟨_,rfl⟩,q⟩
 ·obtain⟨u,rfl,r1⟩:=Gf r;cases r1;exact call_int_bool ⟨.int (if k then 1 else 0),H,I.tok _,⟨_,rfl⟩,q⟩
end
structure DK(h:Heap)(x dx C:Addr)(mA:Str->Option Value):Prop where
 obj:h.get? x=some (Zx6 C dx)
 ns:h.Ns1 dx mA
 ne:dx≠x
theorem j3(n:h.Ns1 dx mA):∃od,h.get? dx=some od/\∀name,Zuj name od=some (mA name):=by
 obtain⟨o,es,ep,ho,hd,hk,_,hm⟩:=n;refine⟨o,ho,λname=>?_⟩;have e:=hm name;unfold nsFind findBy at e;rw[<- Array.find?_toList] at e;unfold Zuj;rw[hd];dsimp only;split
 ·rename_i y q;rw[q] at e;exact congrArg some e
 ·rename_i q;rw[q] at e;have a:es.toList.any (·.refKey)=false:=by
   rw[List.any_eq_false];intro y hy;obtain⟨z,t,hkey⟩:=hk y (Array.mem_toList_iff.mp hy);simp[DictEntry.refKey,hkey]
  have a':¬ es.toList.any (·.refKey)=true:=by rw[a];exact Zzd
  rw[FS a'];exact congrArg some e
theorem DK.look{x:Addr}(I:DK h x dx C mA):∃od,PySem.W.InstAt h x (Zx6 C dx) C (some od)/\∀name,Zuj name od=some (mA name) :=
 let ⟨od,ho,hl⟩:=j3 I.ns
 ⟨od,⟨I.obj,rfl,rfl,ho⟩,hl⟩
section
variable {x:Addr}{name:Str}{v:Value}
theorem xq{expr:Bool}(X:K.In s.heap)(I:DK s.heap x dx C mA)(hg:Zw1 K C name=true)(hh:Zv7 K C=true)
  (ha:Zy5 K (.ref C) name=some none) (hv:mA name=some v) (hv':PySem.W.handedIn v=true) (h:Q v {s with toks:=s.toks+1}) :
  wpAny (model prog w) A (getAttr (.ref x) name expr) Q E s:=by
 obtain⟨od,J,hl⟩:=I.look;exact PySem.W.get_value X J (Zun hg).1 (PySem.W.findObj_own hh ha rfl (by rw[hl,hv])) hv' h
theorem qv{pl:Sem Bool}{Q:Value×List Value->Shared->Prop}(X:K.In s.heap)(I:DK s.heap x dx C mA)(hg:Zw1 K C name=true)
  (hf:Zy5 K (.ref C) name=some (some (.ref f))) (ht:Zuw K (.ref f)=true) (hv:mA name=none) (h:Q (.ref f,[.ref x]) s) :
  wpAny (model prog w) A (getMethod (.ref x) name pl) Q E s:=by
 obtain⟨od,J,hl⟩:=I.look;exact PySem.W.method_fn X J (Zun hg).1 (Zun hg).2 hf (beq_iff_eq.mp ht) (by show (Zuj name od).map (·.isSome)=some false;rw[hl,hv];rfl) h
theorem vc{ns:List Str}{Q:Unit->Shared->Prop}(X:K.In s.heap)(I:DK s.heap x dx C mA)
  (hs:Zy5 K (.ref C) "__setattr__" = some (some (.builtin "object.__setattr__"))) (hp:PySem.W.plainOver K C=true) (ht:PySem.W.takerIn K C name=some none) (hh:Zv7 K C=true)
  (hw:PySem.Within mA ns) (hsz:ns.length<=sizeLine)
  (h:∀h',DK h' x dx C (λy=>if y=name then some v else mA y)->Zxd dx s.heap h'->Q () {s with heap:=h',toks:=s.toks+2}) :
  wpAny (model prog w) A (setAttr (.ref x) name v) Q E s:=by
 obtain⟨od,J,hl⟩:=I.look;refine PySem.W.set_plain X J hs (PySem.W.osa_open (s:={s with toks:=s.toks+1}) (r:=none) X J hp ht λb=>?_);obtain⟨cd,hc,hd'⟩:=PySem.W.any_some hh;have hx:s.heap.get? x=some ⟨.ref C,some dx,.plain,#[]⟩:=I.obj;refine FU (FV (FU (FU (wpAny_loadPart hx (FU (PySem.W.Looks.here (s:={s with toks:=s.toks+1}) (PySem.W.looks_clsIn X hc) ?_))))));rw[hd'];refine FV (a:=some dx) (FU (FV (FU ?_)));refine wpAny_nsSet1 (s:={s with toks:=s.toks+1}) I.ns λh' hn2 hs2=>?_;obtain⟨oD,esD,epD,hoD,hdD,hcD⟩:=hn2.count (PySem.Within.cons name v hw);refine FU (wpAny_lookBehind hoD (by rw[hdD];exact pastItsLine_dict (Zzk hcD (by rw[Zz3];lia))) ?_);exact FV (h _ ⟨(hs2.2 _ (Zza I.ne)).trans I.obj,hn2,I.ne⟩ hs2)
theorem ph{vs:List Value}(X:K.In s.heap)(hm:PySem.W.makesIn K C=true)
  (hi:Zy5 K (.ref C) "__init__" = some (some (.ref f))) (hf:PySem.W.typeIn K (.ref f)=some (.type "function"))
  (h:codeAny (model prog w) (A.under (.builtin "type.__call__" ⟨.ref C::vs,kw⟩)) (.call (.ref f) ⟨.ref (s.heap.objs.size+1)::vs,kw⟩) (PySem.W.InitBack (s.heap.objs.size+1) R)
   {s with heap:=(s.heap.push Zxr).push (Zx6 C s.heap.objs.size)}) :
  codeAny (model prog w) A (.call (.ref C) ⟨vs,kw⟩) R s:=by
 obtain⟨hh,g,d,t,os⟩:=s;exact PySem.W.make_core (PySem.W.makes_of X hm) (PySem.W.looks_findIn X hi) (λself=>PySem.W.bind_fn X self hf) (.inl rfl) h
end
def L5(f:Str)(v:V):List (Str×V)->List (Str×V)
 |[]=>[(f,v)]
 | (g,x)::r=>if g=f then (g,v)::r else (g,x)::L5 f v r
theorem Ot(f g:Str)(v:V):∀fs:List (Str×V),(L5 f v fs).lookup g=if g=f then some v else fs.lookup g
 |[]=>by
  show Zx7 g [(f,v)]=_;by_cases h:g=f
  ·have hb:(g == f)=true:=beq_iff_eq.mpr h
   simp only[Zx7,hb,FT h]
  ·have hb:(g == f)=false:=beq_eq_false_iff_ne.mpr h
   simp only[Zx7,hb,FS h]
 | (k,x)::r=>by
  have ih:=Ot f g v r;rw[show L5 f v ((k,x)::r)=(if k=f then (k,v)::r else (k,x)::L5 f v r) from rfl];by_cases hk:k=f
  ·rw[FT hk];by_cases h:g=k
   ·have hb:(g == k)=true:=beq_iff_eq.mpr h
    simp only[Zx7,hb,FT (h.trans hk)]
   ·have hb:(g == k)=false:=beq_eq_false_iff_ne.mpr h
    simp only[Zx7,hb,FS (λe:g=f=>h (e.trans hk.symm))]
  ·rw[FS hk];by_cases h:g=k
   ·have hb:(g == k)=true:=beq_iff_eq.mpr h
    simp only[Zx7,hb,FS (λe:g=f=>hk (h.symm.trans e))]
   ·have hb:(g == k)=false:=beq_eq_false_iff_ne.mpr h
    simp only[Zx7,hb];exact ih
theorem Nr(f:Str)(v:V):∀fs:List (Str×V),f∈(L5 f v fs).map (·.1)/\∀g,g∈fs.map (·.1)->g∈(L5 f v fs).map (·.1)
 |[]=>⟨by simp[L5],λg h=>by simp at h⟩
 | (k,x)::r=>by
  obtain⟨i1,i2⟩:=Nr f v r;rw[show L5 f v ((k,x)::r)=(if k=f then (k,v)::r else (k,x)::L5 f v r) from rfl];by_cases hk:k=f
  ·rw[FT hk];subst hk;exact⟨by simp,λg h=>by simpa using h⟩
  ·rw[FS hk];refine⟨?_,λg h=>?_⟩
   ·rw[Zz9];exact Zzl _ i1
   ·rw[Zz9] at h ⊢;rcases Zzu.mp h with e | e
    ·exact Zzu.mpr (.inl e)
    ·exact Zzl _ (i2 g e)
theorem Ow(f:Str)(v:V):∀fs:List (Str×V),(L5 f v fs).length<=fs.length+1
 |[]=>by simp[L5]
 | (k,x)::r=>by
  have ih:=Ow f v r;rw[show L5 f v ((k,x)::r)=(if k=f then (k,v)::r else (k,x)::L5 f v r) from rfl];by_cases hk:k=f
  ·rw[FT hk,Zz3,Zz3];lia
  ·rw[FS hk,Zz3,Zz3];lia
theorem AZ.some_of{o:Option Value}(r:AZ (some v) o):∃u,o=some u/\AC v u:=by
 cases o with
 |none=>exact(show False from r).elim
 |some u=>exact⟨u,rfl,r⟩
theorem AZ.none_of{o:Option Value}(r:AZ none o):o=none:=by
 cases o with
 |none=>rfl
 |some u=>exact(show False from r).elim
theorem jc(r:AC v u):PySem.W.handedIn u=true:=by
 cases v with
 |non=>cases (show u=Value.none from r);rfl
 |bl b=>cases (show u=Value.bool b from r);rfl
 |int i=>obtain⟨t,e⟩:=(show ∃t,u=Value.int i t from r);cases e;rfl
 |str x=>obtain⟨t,e⟩:=(show ∃t,u=Value.str x t from r);cases e;rfl
 |byt b=>obtain⟨t,e⟩:=(show ∃t,u=Value.bytes b t from r);cases e;rfl
 |flt b=>obtain⟨t,e⟩:=(show ∃t,u=Value.float b t from r);cases e;rfl
 |ref a=>cases (show u=Value.ref a from r);rfl
 |ty n=>cases (show u=Value.type n from r);rfl
section
variable {fs fs':List (Str×V)}
theorem Pw(hok:HOk P w H h)(e:H a=some (.ins C dx fs)):∃mA,DK h a dx C mA/\(∀f,AZ (fs.lookup f) (mA f))/\PySem.Within mA (fs.map (·.1))/\fs.length<=1000/\H dx=some (.own a):=by
 obtain⟨d,z,ne,ob,mA,n,r,q⟩:=(show AF P w H h a (.ins C dx fs) from hok a _ e);exact⟨mA,⟨ob,n,ne⟩,r,q,z,d⟩
end
structure Cls(K:Zzy)(C:Addr):Prop where
 pg:Zw1 K C Str.empty=true
 hd:Zv7 K C=true
 po:PySem.W.plainOver K C=true
 sa:Zy5 K (.ref C) "__setattr__" = some (some (.builtin "object.__setattr__"))
theorem Cls.get(c:Cls K C)(f:Str):Zw1 K C f=true:=c.pg
def BT(K:Zzy)(C:Addr)(f:Str):Prop:=Zy5 K (.ref C) f=some none
theorem BT.taker{f:Str}(n:BT K C f):PySem.W.takerIn K C f=some none:=by
 unfold PySem.W.takerIn;rw[show Zy5 K (.ref C) f=some none from n];rfl
structure A15(K:Zzy)(C:Addr)(m:Str)(f:Addr):Prop where
 at_:Zy5 K (.ref C) m=some (some (.ref f))
 fn:Zuw K (.ref f)=true
 kp:Zx9 K (.ref f)=true
section
variable {fs:List (Str×V)}{f:Str}
theorem af{b:Bool}(I:Inv X pins Z H s)(e:H a=some (.ins C dx fs))(c:Cls X.K C)(n:BT X.K C f)(l:fs.lookup f=some v)
  (h:∀u s',Inv X pins Z H s'->AC v u->Q u s'):wpAny (model X.prog X.w) A (getAttr (.ref a) f b) Q E s:=by
 obtain⟨mA,O,r,_,_,_⟩:=Pw I.hok e;obtain⟨u,hu,ru⟩:=AZ.some_of (v:=v) (o:=mA f) (by rw[<- l];exact r f);exact xq I.kIn O (c.get f) c.hd n hu (jc ru) (h u _ (I.tok _) ru)
theorem ae{m:Str}{g:Addr}{pl:Sem Bool}{Q:Value×List Value->Shared->Prop}(I:Inv X pins Z H s)(e:H a=some (.ins C dx fs))(c:Cls X.K C)(k:A15 X.K C m g)(l:fs.lookup m=none)
  (h:Q (.ref g,[.ref a]) s):wpAny (model X.prog X.w) A (getMethod (.ref a) m pl) Q E s:=by
 obtain⟨mA,O,r,_,_,_⟩:=Pw I.hok e;have hn:mA m=none:=AZ.none_of (by rw[<- l];exact r m);exact qv I.kIn O (c.get m) k.at_ k.fn hn h
theorem Za{y:V}{Q:Unit->Shared->Prop}(I:Inv X pins Z H s)(e:H a=some (.ins C dx fs))(c:Cls X.K C)(n:BT X.K C f)(hl:fs.length<1000)(ry:AC y u)
  (h:∀s',Inv X pins Z (upd H a (.ins C dx (L5 f y fs))) s'->Q () s'):wpAny (model X.prog X.w) A (setAttr (.ref a) f u) Q E s:=by
 obtain⟨mA,O,r,wi,_,ho⟩:=Pw I.hok e;have hz:(fs.map (·.1)).length<=sizeLine:=by rw[Zzz,sizeLine_eq];lia
 refine vc I.kIn O c.sa c.po n.taker c.hd wi hz λh' O' sb=>h _ ?_;have hd:∃o,h'.get? dx=some o:=by obtain⟨o,_,_,e',_⟩:=O'.ns;exact⟨o,e'⟩
 refine I.write (x:=a) (e:=dx) (by rw[e];exact True.intro) (.inr ho) (λb q hb z=>(sb.2 b hb).trans z) hd ?_;refine⟨by rw[Ab O.ne];exact ho,?_,O.ne,O'.obj,_,O'.ns,λg=>?_,λg hg=>?_⟩
 ·have:=Ow f y fs;lia
 ·show AZ ((L5 f y fs).lookup g) (if g=f then some u else mA g)
  rw[Ot];by_cases q:g=f
  ·rw[FT q,FT q];exact ry
  ·rw[FS q,FS q];exact r g
 ·by_cases q:g=f
  ·rw[q];exact(Nr f y fs).1
  ·refine(Nr f y fs).2 g (wi g λz=>hg ?_);show (if g=f then some u else mA g)=none;rw[FS q];exact z
theorem Inv.made(I:Inv X pins Z H s):Inv X pins Z (upd (upd H s.heap.objs.size (.own (s.heap.objs.size+1))) (s.heap.objs.size+1) (.ins C s.heap.objs.size []))
  {s with heap:=(s.heap.push Zxr).push (Zx6 C s.heap.objs.size)}:=by
 have e1:(s.heap.push Zxr).get? s.heap.objs.size=some Zxr:=Zzh s.heap rfl;have e2:((s.heap.push Zxr).push (Zx6 C s.heap.objs.size)).get? (s.heap.objs.size+1)=some (Zx6 C s.heap.objs.size):=by
  have:=Zzh (s.heap.push Zxr) (o:=Zx6 C s.heap.objs.size) rfl;rwa [Zy2] at this
 have e3:(s.heap.push Zxr).Ns s.heap.objs.size (λ_=>none):=⟨Zxr,#[],_,e1,rfl,(λe he=>absurd he (by simp)),λ_=>rfl⟩;have I1:=I.laid (a:=s.heap.objs.size) (o:=.own (s.heap.objs.size+1)) (h':=s.heap.push Zxr) (t':=s.toks) (λb u q=>Zzv _ q) (Zzx _) ⟨_,e1⟩;refine I1.laid (a:=s.heap.objs.size+1) (o:=.ins C s.heap.objs.size []) (t':=s.toks) (λb u q=>Zzv _ q) (Nat.le_of_eq (Zy2 _ _)) ?_;have ne:s.heap.objs.size≠s.heap.objs.size+1:=Zyv (Zv1 _);refine⟨by rw[Ab ne,A1],Zym _,ne,e2,λ_=>none,(Heap.Ns1.of_empty e3).at λo q=>Zzv _ q,λ_=>True.intro,λy hy=>absurd rfl hy⟩
theorem yj{f:Str}(hb:attributeBase e f env (eval e env)=eval e env)
  (h:wpAny (model prog w) A (eval e env) (λo s₁=>wpAny (model prog w) A (getAttr o f true) Q E s₁) E s):wpAny (model prog w) A (eval (.Attribute e f pos) env) Q E s :=
 Attribute_any_ h (by rw[arm_eval_Attribute,hb])
end
def lc(K:Zzy)(ta:TE)(f:Str):TE:=λZ H Q=>ta Z H λx H1=>∃a C dx fs v,x=.ref a/\H1 a=some (.ins C dx fs)/\Cls K C/\BT K C f/\fs.lookup f=some v/\Q v H1
def mm(K:Zzy)(ta tv:TE)(f:Str):TS:=λD Z H=>tv Z H λy H1=>ta Z H1 λx H2=>∃a C dx fs,x=.ref a/\H2 a=some (.ins C dx fs)/\Cls K C/\BT K C f/\fs.length<1000 /\
 D.nx Z (upd H2 a (.ins C dx (L5 f y fs)))
section
variable {o value:Expr}{f:Str}{tpos:Pos}{tv:TE}
theorem Vf(he:PE X e ta)(hb:attributeBase e f X.env (eval e X.env)=eval e X.env):PE X (.Attribute e f pos) (lc X.K ta f):=by
 intro pins s Z H Q I h;refine yj hb (thn (he pins s Z H _ I h) λu s1 z0=>?_);obtain⟨x,H1,I1,rx,a,C,dx,fs,v,ex,ea,c,n,l,q⟩:=z0;subst ex;obtain rfl:u=Value.ref a:=rx;exact af I1 ea c n l λu' s2 I2 ru=>⟨v,H1,I2,ru,q⟩
theorem Vc(ha:PE X o ta)(hv:PE X value tv)(hs:swapsWith value (some (.Attribute o f pos')) pos.line X.env=pure false):PS X (.Assign [.Attribute o f pos'] value pos) (mm X.K ta tv f):=by
 intro pins s Z H D I h;refine plainObj_wpAny_Assign_Attribute (thn (hv pins s Z H _ I h) λu s1 ⟨y,H1,I1,ry,q⟩=>thn (ha pins s1 Z H1 _ I1 q) λov s2 ⟨x,H2,I2,rx,a,C,dx,fs,ex,ea,c,n,l,q2⟩=>?_) hs;subst ex;obtain rfl:ov=Value.ref a:=rx;exact Za I2 ea c n l ry λs3 I3=>⟨Z,_,I3,q2⟩
end
section
variable {c:Value}{b:Bool}
inductive O2 (K:Zzy) (H:Hp):V->Value->Prop where
 |non:O2 K H .non (.type "NoneType")
 |bl (x:Bool):O2 K H (.bl x) (.type "bool")
 |int (i:Int):O2 K H (.int i) (.type "int")
 |str (x:Str):O2 K H (.str x) (.type "str")
 |flt (x:UInt64):O2 K H (.flt x) (.type "float")
 |lst {a:Addr} {xs:List V} (e:H a=some (.lst xs)):O2 K H (.ref a) (.type "list")
 |frz {a:Addr} {o:Obj} {xs:List V} (e:H a=some (.frz o (.lst xs))):O2 K H (.ref a) (.type "list")
 |tup {a:Addr} {xs:List V} (e:H a=some (.tup xs)):O2 K H (.ref a) (.type "tuple")
 |dK {a:Addr} {kvs:List (Key×V)} (e:H a=some (.dK kvs)):O2 K H (.ref a) (.type "dict")
 |dT {a:Addr} {kvs:List (List Key×V)} (e:H a=some (.dT kvs)):O2 K H (.ref a) (.type "dict")
 |ins {a C dx:Addr} {fs:List (Str×V)} (e:H a=some (.ins C dx fs)) (cl:Cls K C) (ha:Zy5 K (.ref C) "__class__" = some (some (.builtin "object.__class__")))
   (hn:PySem.W.specialIn K (.builtin "object.__class__") "__get__" = some (some (.builtin "getset_descriptor.__get__"))) (htk:PySem.W.takesIn K (.builtin "object.__class__")=some true)
   (hm:PySem.W.mroIn K C (.type "object")=some true):O2 K H (.ref a) (.ref C)
theorem j8{x:V}{t:Value}(I:Inv X pins Z H s)(rx:AC x u)(ty:O2 X.K H x t)(e:PySem.W.kitOne X.K t c=some b)(h:∀tk,Q (.bool b) {s with toks:=tk}) :
  wpAny (model X.prog X.w) A (call (.builtin "isinstance") [u,c]) Q E s:=by
 cases ty with
 |non=>cases (show u=Value.none from rx);exact Zxv PySem.W.kitx_none I.kIn True.intro e (λz=>nomatch z) h
 |bl y=>cases (show u=Value.bool y from rx);exact Zxv PySem.W.kitx_bool I.kIn True.intro e (λz=>nomatch z) h
 |int i=>obtain⟨t,q⟩:=(show ∃t,u=Value.int i t from rx);cases q;exact Zxv PySem.W.kitx_int I.kIn True.intro e (λz=>nomatch z) h
 |str y=>obtain⟨t,q⟩:=(show ∃t,u=Value.str y t from rx);cases q;exact Zxv PySem.W.kitx_str I.kIn True.intro e (λz=>nomatch z) h
 |flt y=>obtain⟨t,q⟩:=(show ∃t,u=Value.float y t from rx);cases q;exact Zxv PySem.W.kitx_float I.kIn True.intro e (λz=>nomatch z) h
 |@lst a xs ea =>
  cases (show u=Value.ref a from rx);obtain⟨_,_,n,_,h1⟩:=(show AF X.prog X.w H s.heap a (.lst xs) from I.hok a _ ea);exact Zxv PySem.W.kitx_list I.kIn ⟨_,h1,rfl⟩ e (λz=>nomatch z) h
 |@frz a ob xs ea =>
  cases (show u=Value.ref a from rx);obtain⟨_,_,_,n,_,h1⟩:=(show AF X.prog X.w H s.heap a (.frz ob (.lst xs)) from I.hok a _ ea);exact Zxv PySem.W.kitx_list I.kIn ⟨_,h1,rfl⟩ e (λz=>nomatch z) h
 |@tup a xs ea =>
  cases (show u=Value.ref a from rx);obtain⟨_,_,_,p⟩:=(show AF X.prog X.w H s.heap a (.tup xs) from I.hok a _ ea);obtain⟨o,h1,h2,_⟩:=p;exact Zxv PySem.W.kitx_tuple I.kIn ⟨o,h1,h2⟩ e (λz=>nomatch z) h
 |@dK a kvs ea =>
  cases (show u=Value.ref a from rx);obtain⟨_,_,vs,_,p⟩:=(show AF X.prog X.w H s.heap a (.dK kvs) from I.hok a _ ea);obtain⟨o,es,ep,h1,h2,_⟩:=p;exact Zxv PySem.W.kitx_dict I.kIn ⟨o,h1,h2.1⟩ e (λz=>nomatch z) h
 |@dT a kvs ea =>
  cases (show u=Value.ref a from rx);obtain⟨_,_,xs,_,o,es,ep,h1,h2,_⟩:=(show AF X.prog X.w H s.heap a (.dT kvs) from I.hok a _ ea);exact Zxv PySem.W.kitx_dict I.kIn ⟨o,h1,h2.1⟩ e (λz=>nomatch z) h
 |@ins a C dx fs ea cl ha hn htk hm =>
  cases (show u=Value.ref a from rx);obtain⟨mA,O,_⟩:=Pw I.hok ea;obtain⟨od,J,_⟩:=O.look;exact Zxv (PySem.W.kitx_own (cl.get _) cl.hd ha hn htk hm) I.kIn J e (λz=>nomatch z) h
end
structure AN(k:Nat)(A:Around):Prop where
 hd:A.handled=none
 dp:A.depth+3*k+5<recursionLimit
 un:A.units+16*k+200<cLine
theorem AN.mono{k:Nat}(r:AN k A)(h:j<=k):AN j A:=⟨r.hd,by have:=r.dp;lia,by have:=r.un;lia⟩
theorem AN.deeper{k:Nat}(r:AN (k+1) A)(env:Env):AN k (A.deeper env) :=
 ⟨r.hd,by have:=r.dp;show A.depth+1+3*k+5<_;lia,by have:=r.un;show A.units+3+16*k+200<_;lia⟩
theorem Zy:(A.under (.builtin "type.__call__" ⟨.ref C::us,kw⟩)).depth=A.depth+1:=by
 first | rfl | simp[Around.under,Code.weight,Code.isCreation,Code.isGuard,Code.isCaller,Code.frames,Code.isFrame,guardIds]
theorem Zx:(A.under (.builtin "type.__call__" ⟨.ref C::us,kw⟩)).units=A.units+1:=by
 first | rfl | simp[Around.under,Code.cUnits,Code.frames,Code.isFrame]
theorem AN.make{k:Nat}(r:AN (k+1) A)(C:Addr)(us:List Value)(kw:List (Str×Value)):AN k (A.under (.builtin "type.__call__" ⟨.ref C::us,kw⟩)) :=
 ⟨r.hd,by have:=r.dp;rw[Zy];lia,by have:=r.un;rw[Zx];lia⟩
theorem AN.depth{k:Nat}(r:AN k A):A.depth<recursionLimit:=by have:=r.dp;lia
theorem AN.units{k:Nat}(r:AN k A):A.units+64<cLine:=by have:=r.un;lia
def EB:TA:=λ_ H Q=>Q [] H
def Qc(ta:TE)(tr:TA):TA:=λZ H Q=>ta Z H λx H1=>tr Z H1 λxs H2=>Q (x::xs) H2
theorem A0:PA X [] EB:=λ_ _ _ _ H Q I h=>Calls.spliced_nil ⟨[],H,I,.nil,h⟩
theorem w9(ha:PE X e te)(hr:PA X es t)(hs:starEach (e::es) X.env=(false,eval e X.env)::starEach es X.env:=by rfl):PA X (e::es) (Qc te t):=by
 intro pos pins s Z H Q I h;rw[hs];show wpAny _ _ (spliced ((false,eval e X.env)::backTo pos (starEach es X.env))) _ _ s;refine Calls.spliced_cons (thn (ha pins s Z H _ I h) λu s1 z0=>?_);obtain⟨x,H1,I1,r1,q1⟩:=z0;exact thn (hr pos pins s1 Z H1 _ I1 q1) λus s2 ⟨xs,H2,I2,r2,q2⟩=>⟨x::xs,H2,I2,.cons r1 r2,q2⟩
def kj(t:TA):TE:=λZ H Q=>t Z H λxs H1=>xs.length<=sizeLine/\∀p,H1 p=none->Q (.ref p) (upd H1 p (.tup xs))
def l7(t:TA):TE:=λZ H Q=>t Z H λxs H1=>xs.length<=sizeLine/\∀p,H1 p=none->Q (.ref p) (upd H1 p (.lst xs))
theorem As{x1}(h:PA X es t):PE X (.Tuple es x1 pos) (kj t):=by
 intro pins s Z H Q I hq;refine wpAny_Tuple_spliced (thn (h pos pins s Z H _ I hq) λus s1 ⟨xs,H1,I1,r,z,q⟩=>⟨by rw[<- r.length];exact z,?_⟩);have hf:H1 s1.heap.objs.size=none:=I1.hok.fresh (Zzx _);refine⟨.ref s1.heap.objs.size,upd H1 s1.heap.objs.size (.tup xs),I1.laid (t':=s1.toks) (λb u e=>Zzv _ e) (Zzx _) ?_,rfl,q _ hf⟩;exact⟨z,us,r,⟨_,Zzh _ rfl,rfl,_,rfl⟩⟩
theorem B7(h:PA X es t):PE X (.List es pos) (l7 t):=by
 intro pins s Z H Q I hq;refine wpAny_List_spliced (thn (h pos pins s Z H _ I hq) λus s1 ⟨xs,H1,I1,r,z,q⟩=>⟨by rw[<- r.length];exact z,?_⟩);have hf:H1 s1.heap.objs.size=none:=I1.hok.fresh (Zzx _);refine⟨.ref s1.heap.objs.size,upd H1 s1.heap.objs.size (.lst xs),I1.laid (t':=s1.toks) (λb u e=>Zzv _ e) (Zzx _) ?_,rfl,q _ hf⟩;exact⟨z,us,0,r,Zzh _ rfl⟩
abbrev Sp:=List V->Hp->VK->XK->Prop
abbrev CXT:=List Env->Hp->Shared->XK->Value->Shared->Prop
variable {CX:CXT}
structure DL(P:Program)(w:World)(K:Zzy)(mg:Str->Option Value)(base:Heap)(A:Around)(outer:List Env)(s:Shared)(H:Hp):Prop where
 frames:A.frames=some outer
 mod:Mod K mg base
 bs:∀b o,base.get? b=some o->s.heap.get? b=some o/\H b=none
 bsz:base.objs.size<=s.heap.objs.size
 funs:s.heap.FunFrames base outer
 frf:∀b∈frs outer,H b=none
 hok:HOk P w H s.heap
 bare:AllBare s.gens
def CE(outer:List Env)(P:Program)(w:World)(H:Hp)(s:Shared)(Q:VK)(u:Value)(s':Shared):Prop :=
 ∃v H',s'.os=s.os/\AllBare s'.gens/\Un (frs outer) [] H H' s.heap s'.heap/\HOk P w H' s'.heap/\AC v u/\Q v H'
def CR(CX:CXT)(outer:List Env)(P:Program)(w:World)(H:Hp)(s:Shared)(Q:VK)(E:XK)(r:Result)(s':Shared):Prop :=
 match r with
 |.ok (.ret u)=>CE outer P w H s Q u s'
 |.ok _=>False
 |.error e=>CX outer H s E e s'
structure Ax(P:Program)(w:World)(K:Zzy)(mg:Str->Option Value)(base:Heap)(CX:CXT)(k:Nat)(f:Addr)(fd:FuncData)(ps:List Str)(sp:Sp):Prop where
 len:∀vs H Q E,sp vs H Q E->vs.length=ps.length
 run:∀(A:Around) (outer:List Env) (s:Shared) (H:Hp) (args:Args) (us:List Value) (vs:List V) (Q:VK) (E:XK),AN k A->DL P w K mg base A outer s H->BindsTo s fd args (ps.zip us)->AB vs us->sp vs H Q E ->
  codeAny (model P w) A (.call (.ref f) args) (CR CX outer P w H s Q E) s
theorem DL.make(e:DL P w K mg base A outer s H)(C:Addr)(us:List Value)(kw:List (Str×Value)) :
  DL P w K mg base (A.under (.builtin "type.__call__" ⟨.ref C::us,kw⟩)) outer s H:=⟨by first | exact e.frames | (simpa [Around.under,Code.envs,Code.isFrame,pushEnvs] using e.frames),e.mod,e.bs,e.bsz,e.funs,e.frf,e.hok,e.bare⟩
theorem Inv.env0(I:Inv X pins Z H s):DL X.prog X.w X.K X.mg X.base X.A X.stack s H :=
 ⟨I.ok.frames,I.ok.mod,I.bs,Zzk I.ok.bsz I.sz,I.stack,I.stkFree,I.hok,I.bare⟩
theorem Inv.after{Q:VK}(I:Inv X pins Z H s)(h:CE X.stack X.prog X.w H s Q u s'):EP X pins Z Q u s':=by
 obtain⟨v,H',os,bare,un,hok,r,q⟩:=h;obtain⟨hh,g,d,t,os'⟩:=s';obtain rfl:os'=s.os:=os;exact⟨v,H',I.call (h':=hh) (g':=g) (d':=d) (t':=t) (ch:=[]) un hok bare (λb z=>absurd z (by simp)),r,q⟩
def Qe(sp:Sp)(dvs:List V)(E:XK)(t:TA):TE:=λZ H Q=>t Z H λvs H1=>sp (vs++dvs) H1 Q E
def bx(C:Addr)(m:Str)(sp:Sp)(dvs:List V)(E:XK)(ta:TE)(t:TA):TE:=λZ H Q=>ta Z H λx H1=>∃a dx fs,x=.ref a/\H1 a=some (.ins C dx fs)/\fs.lookup m=none /\
 t Z H1 λvs H2=>sp (x::(vs++dvs)) H2 Q E
def Tq(C:Addr)(sp:Sp)(dvs:List V)(E:XK)(t:TA):TE:=λZ H Q=>t Z H λvs H1=>∀x dx,H1 x=none->H1 dx=none->dx≠x ->
 sp (.ref x::(vs++dvs)) (upd (upd H1 dx (.own x)) x (.ins C dx [])) (λv H2=>v=.non/\Q (.ref x) H2) E
def BD(K:Zzy)(fd:FuncData)(ps:List Str)(ds:List Value):Prop :=
 ∀(s:Shared) (us:List Value),K.In s.heap->(us++ds).length=ps.length->BindsTo s fd ⟨us,[]⟩ (ps.zip (us++ds))
theorem BD.all(h:∀us:List Value,us.length=ps.length->bindArgs fd ⟨us,[]⟩=pure (ps.zip us)):BD K fd ps []:=λs us _ hl=>by
 rw[Zyw] at hl ⊢;exact .of_eq (h us hl)
def Se(CX:CXT)(X:Cx)(E:XK):Prop:=∀(pins:List (Addr×Obj)) (Z:St) (H:Hp) (s:Shared) (e:Value) (s':Shared),Inv X pins Z H s->CX X.stack H s E e s'->X.xe e s'
section
variable {k:Nat}{sp:Sp}{dvs:List V}{ds:List Value}{E:XK}{m:Str}{p:Pos}{o:Expr}
theorem A08{Q:VK}{vs:List V}(F:Ax X.prog X.w X.K X.mg X.base CX k f fd ps sp)(hr:AN k X.A)(hb:BD X.K fd ps ds)(hd:AB dvs ds)(hx:Se CX X E)
  (I:Inv X pins Z H s) (r:AB vs us) (h:sp (vs++dvs) H Q E):wpAny (model X.prog X.w) X.A (call (.ref f) us) (EP X pins Z Q) X.xe s:=by
 have r2:AB (vs++dvs) (us++ds):=r.append hd;have hl:(us++ds).length=ps.length:=by rw[<- r2.length];exact F.len _ _ _ _ h
 refine wpAny_call (codeAny_mono (F.run X.A X.stack s H ⟨us,[]⟩ (us++ds) (vs++dvs) Q E hr I.env0 (hb s us I.kIn hl) r2 h) λr s' hq=>?_);cases r with
 |error e=>exact hx pins Z H s e s' I hq
 |ok fl =>
  cases fl with
  |ret u=>exact I.after hq
  |next=>exact False.elim hq
  |brk=>exact False.elim hq
  |cont=>exact False.elim hq
theorem vx(F:Ax X.prog X.w X.K X.mg X.base CX k f fd ps sp)(hr:AN k X.A)(hg:Gl X x)(hm:X.mg x=some (.ref f))(hk:Zx9 X.K (.ref f)=true)(hb:BD X.K fd ps ds)(hd:AB dvs ds)(hx:Se CX X E)
  (ha:PA X (e::es) t) (hdb:(x == ("__debug__" : Str))=false:=by decide) (he:starEach (e::es) X.env=(false,eval e X.env)::starEach es X.env:=by rfl) (hpl:(backTo pos (starEach es X.env)).any (·.1)=false:=by rfl) :
  PE X (.Call (.Name x p) (e::es) [] pos) (Qe sp dvs E t):=by
 intro pins s Z H Q I h;refine wpAny_Call_Name_kw (Kx I hg hm ?_ hdb);refine Zue (h₀:=X.base) I.ok.mod.kin hk (thn (ha pos pins s Z H _ I h) λus s1 ⟨vs,H1,I1,r,q⟩=>⟨I1.kIn,?_⟩) he hpl;exact A08 F hr hb hd hx I1 r q
structure Mk(K:Zzy)(C f:Addr):Prop where
 makes:PySem.W.makesIn K C=true
 init:Zy5 K (.ref C) "__init__" = some (some (.ref f))
 fn:Zuw K (.ref f)=true
 kp:Zx9 K (.ref C)=true
theorem mn{Q:VK}{vs:List V}(M:Mk X.K C f)(F:Ax X.prog X.w X.K X.mg X.base CX k f fd ps sp)(hr:AN (k+1) X.A)(hb:BD X.K fd ps ds)(hd:AB dvs ds)
  (hx:Se CX X E) (I:Inv X pins Z H s) (r:AB vs us)
  (h:∀x dx,H x=none->H dx=none->dx≠x->sp (.ref x::(vs++dvs)) (upd (upd H dx (.own x)) x (.ins C dx [])) (λv H2=>v=.non/\Q (.ref x) H2) E) :
  wpAny (model X.prog X.w) X.A (call (.ref C) us) (EP X pins Z Q) X.xe s:=by
 have hq:=h (s.heap.objs.size+1) s.heap.objs.size (I.hok.fresh (Nat.le_succ _)) (I.hok.fresh (Zzx _)) (Zyv (Zv1 _));have I2:=Inv.made (C:=C) I;have r2:AB (V.ref (s.heap.objs.size+1)::(vs++dvs)) (Value.ref (s.heap.objs.size+1)::(us++ds)):=.cons rfl (r.append hd);have hl:(Value.ref (s.heap.objs.size+1)::us++ds).length=ps.length:=by
  have e:=r2.length;rw[F.len _ _ _ _ hq] at e;exact e.symm
 refine wpAny_call (ph (f:=f) I.kIn M.makes M.init (beq_iff_eq.mp M.fn) (codeAny_mono (F.run _ X.stack _ _ ⟨Value.ref (s.heap.objs.size+1)::us,[]⟩ (Value.ref (s.heap.objs.size+1)::(us++ds)) _ _ E (hr.make C us [])
  (I2.env0.make C us []) (hb _ (Value.ref (s.heap.objs.size+1)::us) I2.kIn hl) r2 hq) λr s' hq'=>?_))
 cases r with
 |error e=>exact hx pins Z _ _ e s' I2 hq'
 |ok fl =>
  cases fl with
  |ret u =>
   obtain⟨v,H',I3,rv,ev,q3⟩:=I2.after hq';subst ev;exact⟨rv,⟨V.ref (s.heap.objs.size+1),H',I3,rfl,q3⟩⟩
  |next=>exact False.elim hq'
  |brk=>exact False.elim hq'
  |cont=>exact False.elim hq'
theorem nt(M:Mk X.K C f)(F:Ax X.prog X.w X.K X.mg X.base CX k f fd ps sp)(hr:AN (k+1) X.A)(hg:Gl X x)(hm:X.mg x=some (.ref C))(hb:BD X.K fd ps ds)(hd:AB dvs ds)(hx:Se CX X E)
  (hdb:(x == ("__debug__" : Str))=false:=by decide):PE X (.Call (.Name x p) [] [] pos) (Tq C sp dvs E EB):=by
 intro pins s Z H Q I h;refine wpAny_Call_Name_kw (Kx I hg hm ?_ hdb);exact PySem.W.callWith_K0 I.kIn M.kp (mn (us:=[]) M F hr hb hd hx I .nil h)
end
section
variable {k:Nat}{ks:List Str}{sp:Sp}{E:XK}{m:Str}{p kpos:Pos}{o:Expr}{kws:List Keyword}{tk:TA}{nm:Option Str}
variable {g:List Value->List Value->List Value}{gV:List V->List V->List V}
end
structure Ce(N P:List Str)(sc:Scope):Prop where
 kind:sc.kind=.function
 co:sc.isCoroutine=false
 gen:sc.isGenerator=false
 nd:N.Nodup
 pre:N.take P.length=P
 par:∀x∈P,sc.names.lookup x=some .local\/sc.names.lookup x=some .cell
 nofree:∀y∈sc.names,y.2≠.free
theorem Ur:∀{binds:List (Str×Value)} {m:Str->Option Value},(∀v,(x,v)∉binds)->bindL kindOf binds m x=m x
 |[],_,_=>rfl
 | (n,v)::r,m,h=>by
  unfold bindL;rw[Ur λw hw=>h w (Zzl _ hw)];split
  ·have:x≠n:=by rintro rfl;exact h v Zzj
   simp[this]
  ·rfl
theorem Ut:∀{binds:List (Str×Value)} {m:Str->Option Value},(∀v,(x,v)∉binds)->bindC kindOf binds m x=m x
 |[],_,_=>rfl
 | (n,v)::r,m,h=>by
  unfold bindC;rw[Ut λw hw=>h w (Zzl _ hw)];split
  ·rfl
  ·have:x≠n:=by rintro rfl;exact h v Zzj
   simp[this]
theorem Us{kindOf:Str->Option NameKind}{x:Str}{v:Value}:∀{P:List Str} {vs:List Value} {i:Nat} {m:Str->Option Value},P.Nodup->P[i]?=some x->vs[i]?=some v->kindOf x=some .local ->
  bindL kindOf (P.zip vs) m x=some v
 |[],_,_,_,_,h,_,_=>by simp at h
 |_::_,[],_,_,_,_,h,_=>by simp at h
 |p::P,w::vs,0,m,nd,h1,h2,hk=>by
  simp at h1 h2;subst h1;subst h2;show bindL kindOf ((p,w)::P.zip vs) m p=_;unfold bindL;rw[Ur λv hv=>(Zyg.mp nd).1 (List.of_mem_zip hv).1,FT hk];simp
 |p::P,w::vs,i+1,m,nd,h1,h2,hk=>by
  show bindL kindOf ((p,w)::P.zip vs) m x=_;unfold bindL;exact Us (i:=i) (Zyg.mp nd).2 (by simpa using h1) (by simpa using h2) hk
theorem Uu{kindOf:Str->Option NameKind}{x:Str}{v:Value}:∀{P:List Str} {vs:List Value} {i:Nat} {m:Str->Option Value},P.Nodup->P[i]?=some x->vs[i]?=some v->kindOf x≠some .local ->
  bindC kindOf (P.zip vs) m x=some v
 |[],_,_,_,_,h,_,_=>by simp at h
 |_::_,[],_,_,_,_,h,_=>by simp at h
 |p::P,w::vs,0,m,nd,h1,h2,hk=>by
  simp at h1 h2;subst h1;subst h2;show bindC kindOf ((p,w)::P.zip vs) m p=_;unfold bindC;rw[Ut λv hv=>(Zyg.mp nd).1 (List.of_mem_zip hv).1,FS hk];simp
 |p::P,w::vs,i+1,m,nd,h1,h2,hk=>by
  show bindC kindOf ((p,w)::P.zip vs) m x=_;unfold bindC;exact Uu (i:=i) (Zyg.mp nd).2 (by simpa using h1) (by simpa using h2) hk
def Hm(N:List Str)(vs:List V):St:=vs.map some++Zyb (N.length - vs.length) none
def Nx(CX:CXT)(P:Program)(w:World)(K:Zzy)(mg:Str->Option Value)(base:Heap)(N:List Str)(qual:Str)(scope:Scope)(f:Addr)(cd:Value)(A:Around)(outer:List Env)(s:Shared)(H:Hp)(E:XK):Cx where
 prog:=P
 w:=w
 K:=K
 mg:=mg
 base:=base
 A:=A.deeper (envOfC qual scope s.heap.objs.size f cd)
 N:=N
 s₀:=s
 H₀:=H
 env:=envOfC qual scope s.heap.objs.size f cd
 outer:=outer
 stack:=envOfC qual scope s.heap.objs.size f cd::outer
 ex:=[]
 calm:=true
 fn:=λ_=>true
 pn:=[]
 xe:=λe s'=>wpAny (model P w) (A.deeper (envOfC qual scope s.heap.objs.size f cd)) (leaving (envOfC qual scope s.heap.objs.size f cd) e) (λ_ s''=>CX outer H s E e s'') (λe' s''=>CX outer H s E e' s'') s'
theorem Yu(h:sc.names.lookup x=some .cell):∃c,(cellsFrom n sc.names []).lookup x=some c:=by
 have q:=PySem.W.cellsFrom_some sc.names n [] (.inl h);exact Zwn.mp q
theorem j9{s1:Shared}{E:XK}{vs:List V}
  (S:Ce N ps scope) (hd:A.handled=none) (e0:DL P w K mg base A outer s H) (hl:vs.length=ps.length) (r:AB vs us)
  (x:InCallC s s.heap.objs.size (bindL (envOfC qual scope s.heap.objs.size f cd).kindOf (ps.zip us) λ_=>none) (cellsFrom (s.heap.objs.size+1) scope.names []) (bindC (envOfC qual scope s.heap.objs.size f cd).kindOf (ps.zip us) λ_=>none) s1) :
  Inv (Nx CX P w K mg base N qual scope f cd A outer s H E) [] (Hm N vs) H s1:=by
 have hpl:ps.length<=N.length:=by have:=congrArg Zug S.pre;rw[Zz5] at this;lia
 obtain⟨h1,tk,rfl,hk⟩:=x.done;have noA:∀b:Addr,b∉(Nx CX P w K mg base N qual scope f cd A outer s H E).ex:=λb z=>absurd (show b∈([]:List Addr) from z) (by simp);refine⟨⟨e0.mod,S.kind,rfl,rfl,Zzx _,λy z c h1 h2=>?_,λy hy=>?_,λy c _ h=>?_,λ_=>hd,Around.frames_deeper e0.frames,.inr ⟨rfl,rfl⟩,λb z=>absurd z (noA b),e0.bs,e0.bsz,λb _ _=>noA b,λb z=>absurd z (noA b),e0.funs,e0.frf⟩,
  rfl,e0.bare,Un.kept hk,⟨_,x.toInCall.ns,λi y v h1 h2 h3=>?_⟩,λy c h=>⟨_,x.cell y c h⟩,e0.hok.fresh (Zzx _),λy c h=>?_,λp hp=>absurd (show p∈([]:List (Addr×Obj)) from hp) (by simp),e0.hok.kept hk,?_⟩
 ·exact name_of_addr x.apart (Zxe h1) (Zxe h2)
 ·have hy:scope.names.lookup y=some .cell\/scope.names.lookup y=some .free:=hy
  rcases hy with hy | hy
  ·exact Yu hy
  ·exact absurd rfl (S.nofree _ (Zxe hy))
 ·exact Nat.le_of_lt (x.above y c (Zxe h))
 ·have hi:i<vs.length:=by
   unfold Hm at h2;by_cases hi:i<vs.length
   ·exact hi
   ·rw[Zyi (by simpa using hi)] at h2;rw[List.getElem?_replicate] at h2;split at h2<;>cases h2
  have ha:vs[i]?=some v:=by
   unfold Hm at h2;rw[Zy0 (by simpa using hi),Zzw] at h2;cases e:vs[i]? with
   |none=>rw[e] at h2;cases h2
   |some a=>rw[e] at h2;cases h2;rfl
  obtain⟨u,hu,rv⟩:=r.get ha;have hp:ps[i]?=some y:=by
   rw[<- S.pre,Zxx (by lia)];exact h1
  have ndP:ps.Nodup:=by rw[<- S.pre];exact S.nd.sublist (List.take_sublist _ _)
  refine⟨u,rv,?_⟩;rcases S.par y (Zzt hp) with k | k
  ·exact .inl ⟨k,Us ndP hp hu k⟩
  ·obtain⟨c,e⟩:=Yu (n:=s.heap.objs.size+1) k;refine .inr ⟨.inl k,c,e,?_⟩;have q:=x.cell y c e;rw[Uu ndP hp hu (by show scope.names.lookup y≠_;rw[k];decide)] at q;exact q
 ·exact e0.hok.fresh (Nat.le_of_lt (x.above y c (Zxe h)))
 ·unfold Hm;show _=N.length;rw[Zzc,Zzz,List.length_replicate];lia
theorem qz{k:Nat}{name:Str}{dV kV doc pm cdv ct:Value}{an:Option Addr}
  {osl:Array (Option Value)} {N ps:List Str} {sp:Sp} (lk:K.lookup f=some ⟨oc,od,.func (Zy1 name qual params body scope dV kV doc pm an cdv ct),osl⟩) (hcd:Zui K cdv qual=true) (S:Ce N ps scope)
  (len:∀vs H Q E,sp vs H Q E->vs.length=ps.length)
  (hbody:∀(A:Around) (outer:List Env) (s:Shared) (H:Hp) (vs:List V) (Q:VK) (E:XK),AN k (A.deeper (envOfC qual scope s.heap.objs.size f cdv))->sp vs H Q E ->
   ∃t,PSs (Nx CX P w K mg base N qual scope f cdv A outer s H E) body t/\t {nx:=λ_ H'=>Q .non H',rt:=Q} (Hm N vs) H) :
  Ax P w K mg base CX (k+1) f (Zy1 name qual params body scope dV kV doc pm an cdv ct) ps sp:=by
 refine⟨len,λA outer s H args us vs Q E hr e0 hb r hsp=>?_⟩;have hl:=len _ _ _ _ hsp;have KX:K.In s.heap:=e0.mod.kin.keeps λb o e=>(e0.bs b o e).1;have lim:s.heap.NoLimit:=e0.mod.nolimit.keeps λb o e=>(e0.bs b o e).1;have hkind:∀y∈ps.zip us,scope.names.lookup y.1=some .local\/(scope.names.lookup y.1=some .cell/\((cellsFrom (s.heap.objs.size+1) scope.names []).lookup y.1).isSome=true):=λ⟨n,v⟩ hy=>by
  rcases S.par n (List.of_mem_zip hy).1 with q | q
  ·exact .inl q
  ·exact .inr ⟨q,PySem.W.cellsFrom_some _ _ _ (.inl q)⟩
 refine codeAny_call_function hr.depth (KX _ _ lk) rfl S.co S.gen rfl (PySem.W.codeRec_of KX hcd) (hb _ _ _ _ ?_);refine wpAny_newFunctionEnv_cells S.kind hkind λenv he s1 x=>?_;subst he;refine⟨lim.keeps x.toInCall.keep,codeAny_func ?_⟩;obtain⟨t,ht,hq⟩:=hbody A outer s H vs Q E (hr.deeper _) hsp;have I:Inv (Nx CX P w K mg base N qual scope f cdv A outer s H E) [] (Hm N vs) H s1:=j9 S hr.hd e0 hl r x;refine wpAny_mono (ht [] s1 (Hm N vs) H _ I hq) (λfl s' hs=>?_) λe s' hs=>hs;have fin:∀{Z':St} {H':Hp} {v:V} {u:Value},Inv (Nx CX P w K mg base N qual scope f cdv A outer s H E) [] Z' H' s'->AC v u->Q v H'->CE outer P w H s Q u s' :=
  λ{Z' H' v u} J rv q=>⟨v,H',J.os,J.bare,J.base,J.hok,rv,q⟩
 cases fl with
 |ret u =>
  obtain⟨v,Z',H',J,rv,q⟩:=hs;exact fin J rv q
 |next =>
  obtain⟨Z',H',J,q⟩:=hs;exact fin (v:=V.non) (u:=Value.none) J rfl q
 |brk =>
  obtain⟨_,_,_,q⟩:=hs;exact False.elim q
 |cont =>
  obtain⟨_,_,_,q⟩:=hs;exact False.elim q
section
variable {p:Pos}{id:String}{r:List V->Hp->VK->Prop}
def tCB(r:List V->Hp->VK->Prop)(t:TA):TE:=λZ H Q=>t Z H λvs H1=>r vs H1 Q
theorem o6(hc:AK X (.builtin id) r)(hg:Gl X x)(hm:X.mg x=none)(hv:bootBuiltins x=some (.builtin id))(ha:PA X (e::es) t)(hn:x ≠ "__name__" := by decide)(hdb:(x == ("__debug__" : Str))=false:=by decide)
  (he:starEach (e::es) X.env=(false,eval e X.env)::starEach es X.env:=by rfl) (hpl:(backTo pos (starEach es X.env)).any (·.1)=false:=by rfl):PE X (.Call (.Name x p) (e::es) [] pos) (tCB r t):=by
 intro pins s Z H Q I h;refine wpAny_Call_Name_kw (Jf I hg hm hv ?_ hn hdb);exact PyProof.Rows.callWith_builtin1 (thn (ha pos pins s Z H _ I h) λus s1 z0=>by obtain⟨vs,H1,I1,r1,q1⟩:=z0;exact hc pins s1 Z H1 vs us Q I1 r1 q1) he hpl
theorem ie(hc:AK X (.type T) r)(hg:Gl X x)(hm:X.mg x=none)(hv:bootBuiltins x=some (.type T))(ha:PA X (e::es) t)(hn:x ≠ "__name__" := by decide)(hdb:(x == ("__debug__" : Str))=false:=by decide)
  (he:starEach (e::es) X.env=(false,eval e X.env)::starEach es X.env:=by rfl) (hpl:(backTo pos (starEach es X.env)).any (·.1)=false:=by rfl):PE X (.Call (.Name x p) (e::es) [] pos) (tCB r t):=by
 intro pins s Z H Q I h;refine wpAny_Call_Name_kw (Jf I hg hm hv ?_ hn hdb);exact Zxf (thn (ha pos pins s Z H _ I h) λus s1 z0=>by obtain⟨vs,H1,I1,r1,q1⟩:=z0;exact hc pins s1 Z H1 vs us Q I1 r1 q1) he hpl
end
end L2
open L2
variable {xs:List V}{H H' H1 H2:Hp}{g:TG}{X:Cx}{Z:St}{v y:V}{t:TA}{ta te:TE}{r:Str×List Key}{kvs:List (Key×V)}{CX:CXT}{sp:Sp}{ks:List Key}{tt:TT}{J:It}{yl:Nat->V->Prop}{rm:V->List V->Hp->VK->Prop}
namespace HT
open PySem PyProof.Rows
def zc:List Int->List Int->Bool
 |[],[]=>false
 |[],_::_=>true
 |_::_,[]=>false
 |x::xs,y::ys=>if x=y then zc xs ys else decide (x<y)
section
open PySem.SeqAt
open PySem.AutoSeq1 (wpAny_loadPart')
open PySem.MeetsSeq PySem.MeetsSeq2 PySem.MeetsSeq3
end
theorem yh{t b:Addr}{vs ws:List Value}(ht:IsTup s.heap t vs.toArray)(hb:IsTup s.heap b ws.toArray)(hv:vs≠[])
  (h1:ws=[]->Q (.ref t) s) (h2:ws≠[]->Q (.ref s.heap.objs.size) {s with heap:=s.heap.push {cls:=.type "tuple",data:=.seq (vs++ws).toArray}})
  (hsz:vs.length+ws.length<=sizeLine):wpAny (model prog w) A (binaryOp .Add (.ref t) (.ref b)) Q E s:=by
 obtain⟨⟨cls,dd,data,sl⟩,ho,hc,n,hd⟩:=id ht;obtain⟨⟨cls2,dd2,data2,sl2⟩,ho2,hc2,n2,hd2⟩:=id hb;simp only at hc hd hc2 hd2;subst hc hd hc2 hd2;have e:vs.toArray++ws.toArray=(vs++ws).toArray:=by simp
 by_cases hw:ws=[]
 ·exact concat_meets ⟨_,ho,rfl⟩ ⟨_,ho2,rfl⟩ noFill_tuple_add seq_tuple_add Zv5 Zv8 (Zvj _ _)
   (tuple_addW1 t b vs.toArray ws.toArray n n2 dd dd2 sl sl2 (by simpa using hv) (by simp[hw])) ⟨ho,ho2,h1 hw⟩
 ·refine concat_meets ⟨_,ho,rfl⟩ ⟨_,ho2,rfl⟩ noFill_tuple_add seq_tuple_add Zv5 Zv8 (Zvj _ _)
   (tuple_addW2 t b vs.toArray ws.toArray n n2 dd dd2 sl sl2 (by simpa using hv) (by simpa using hw) (by rw[Zzs,Zzs];exact hsz)) ⟨ho,ho2,?_⟩
  rw[e];exact h2 hw
def sIx(n d:Nat):Option Int->Nat
 |none=>d
 |some v=>if v<0 then (v+(n:Int)).toNat else min v.toNat n
theorem mj(n d:Nat):sIx n d none=d:=rfl
theorem ml(n d:Nat)(hd:d<=n)(o:Option Int):sIx n d o<=n:=by
 cases o with
 |none=>exact hd
 |some v =>
  show (if v<0 then (v+(n:Int)).toNat else min v.toNat n)<=n;by_cases hv:v<0
  ·rw[FT hv];lia
  ·rw[FS hv];exact Nat.min_le_right _ _
theorem gh(v:Int)(n d:Nat):(if v<0 then max (v+(n:Int)) 0 else min v (n:Int))=((sIx n d (some v):Nat):Int):=by
 show (if v<0 then max (v+(n:Int)) 0 else min v (n:Int))=(((if v<0 then (v+(n:Int)).toNat else min v.toNat n):Nat):Int);by_cases hv:v<0
 ·simp only[FT hv];lia
 ·simp only[FS hv];lia
theorem bf(lo hi:Option Int)(n:Nat):Zvl lo hi 1 (n:Int)=(((sIx n 0 lo:Nat):Int),((sIx n n hi:Nat):Int)):=by
 have h1:¬ ((1:Int)<0):=by lia
 unfold Zvl;simp only[h1,if_false];refine Prod.ext ?_ ?_
 ·cases lo with
  |none=>rfl
  |some v=>exact gh v n 0
 ·cases hi with
  |none=>rfl
  |some v=>exact gh v n n
theorem Zf(i j:Nat):Zwr (i:Int) (j:Int) 1=j - i:=by
 unfold Zwr;have h1:(1:Int) > 0:=by lia
 simp only[h1,if_true,Int.ediv_one];split<;>lia
theorem Qg{v:Value}{o:Option Int}{Q:Option Int->Shared->Prop}(p:IsPart v o)(h:Q o s):wpAny (model prog w) A (Builtin.Slice.slicePartIndex v) Q E s:=by
 cases p with
 |none=>exact slicePart_none h
 |int i t=>exact slicePart_int h
theorem Iu{sl:Addr}{vl vu:Value}{Q:Int×Int×Nat->Shared->Prop}(hs:s.heap.IsSliceOf sl vl vu .none)(pl:IsPart vl lo)(pu:IsPart vu hi)
  (h:Q (((sIx n 0 lo:Nat):Int),1,sIx n n hi - sIx n 0 lo) s):wpAny (model prog w) A (Builtin.Slice.sliceApplied (.ref sl) (pure (n:Int))) Q E s:=by
 obtain⟨os,hos,hcs,hds⟩:=id hs;unfold Builtin.Slice.sliceApplied Builtin.Slice.sliceFields;refine FU (FU (wpAny_field hos hds (x:=vl) rfl (FU (wpAny_field hos hds (x:=vu) rfl (FU (wpAny_field hos hds (x:=.none) rfl (FV ?_)))))));refine FU (slicePart_none ?_);show wpAny _ _ (if ((1:Int) == 0)=true then _ else _) _ _ s;rw[FS (by decide)];refine FU (Qg pl (FU (Qg pu (FU (FV ?_)))));show wpAny _ _ (match Zvl lo hi 1 (n:Int) with | (lo,hi)=>pure (lo,(1:Int),Zwr lo hi 1)) _ _ s;rw[bf lo hi n];show wpAny _ _ (pure (((sIx n 0 lo:Nat):Int),(1:Int),Zwr ((sIx n 0 lo:Nat):Int) ((sIx n n hi:Nat):Int) 1)) _ _ s;rw[Zf];exact FV h
theorem mz(xs:Array Value)(i k:Nat):((Zyo k).filterMap λ(m:Nat)=>xs[((i:Int)+(m:Int)*1).toNat]?).toArray=((xs.toList.drop i).take k).toArray:=by
 have e:(λ(m:Nat)=>xs[((i:Int)+(m:Int)*1).toNat]?)=λm=>xs[i+m]?:=by
  funext m;have:((i:Int)+(m:Int)*1).toNat=i+m:=by lia
  rw[this]
 rw[e];have:=pick_run xs i k;rw[List.filterMap_map] at this;have e2:((λx=>xs[x]?)∘λx=>i+x)=λm=>xs[i+m]?:=rfl;rw[e2] at this;rw[this]
theorem N0{t sl:Addr}{vl vu:Value}(ht:IsTup s.heap t items)(hs:s.heap.IsSliceOf sl vl vu .none)(pl:IsPart vl lo)(pu:IsPart vu hi)
  (hw:¬ (sIx items.size 0 lo=0/\sIx items.size items.size hi=items.size))
  (h:Q (.ref s.heap.objs.size) {s with heap:=s.heap.push {cls:=.type "tuple",data:=.seq ((items.toList.drop (sIx items.size 0 lo)).take (sIx items.size items.size hi - sIx items.size 0 lo)).toArray}})
  (hsz:items.size<=sizeLine):wpAny (model prog w) A (getItem (.ref t) (.ref sl)) Q E s:=by
 have htake:sizeOk (.seq ((items.toList.drop (sIx items.size 0 lo)).take (sIx items.size items.size hi - sIx items.size 0 lo)).toArray):=by
  show ((items.toList.drop (sIx items.size 0 lo)).take (sIx items.size items.size hi - sIx items.size 0 lo)).toArray.size<=sizeLine;rw[Zzs,Zz5,Zyj,Zxz];lia
 have hj:sIx items.size items.size hi<=items.size:=ml _ _ (Zzx _) hi;obtain⟨os,hos,hcs,hds⟩:=id hs;have hTs:s.TypeIs (.ref sl) "slice" := ⟨os,hos,hcs⟩;unfold getItem;try with_reducible refine wpAny_holding ?_
 first | refine FU (FV ?_) | skip
 refine FU (wpAny_sequenceKey ht.typeIs (by decide) ?_);refine FU (wpAny_callSpecial?_slot (name:=Str.ofString "__getitem__") ht.typeIs Zy3
  (wpAny_call_entry Zy3 ht.typeIs entry_tuple_getitem ?_ (args_tuple_getitem _ _)))
 show wpAny _ _ (Builtin.Tuple.tupleItemsOf (.ref t) >>= _) _ _ s;refine FU (tupleItemsOf_ ht ?_);refine FU (wpAny_typeOf hTs ?_);rw[FT (by decide)];refine FU (Iu hs pl pu ?_);have hno:¬ ((((sIx items.size 0 lo:Nat):Int) == 0&&(1:Int) == 1&&(sIx items.size items.size hi - sIx items.size 0 lo) == items.size)=true):=by
  intro q;rw[Zyy,Zyy] at q;have q1:((sIx items.size 0 lo:Nat):Int)=0:=eq_of_beq q.1.1;have q2:sIx items.size items.size hi - sIx items.size 0 lo=items.size:=eq_of_beq q.2;exact hw ⟨by lia,by lia⟩
 show wpAny _ _ (if (((sIx items.size 0 lo:Nat):Int) == 0&&(1:Int) == 1&&(sIx items.size items.size hi - sIx items.size 0 lo) == items.size)=true then _ else _) _ _ s;rw[FS hno,mz];first
  |exact FU (m:=Zwm _) (wpAny_newObj_type (FV ⟨_,rfl,FV h⟩) htake)
  |exact FU (m:=Zwm _) (wpAny_newObj_type (FU (FV (FV ⟨_,rfl,FV h⟩))) htake)
  |exact FU (FU (m:=Zwm _) (wpAny_newObj_type (FV (FV ⟨_,rfl,FV h⟩)) htake))
  |exact FU (FU (m:=Zwm _) (wpAny_newObj_type (FV ⟨_,rfl,FV h⟩) htake))
end HT
namespace L2
open PySem PySem.Spec PyProof.Rows
abbrev TO:=St->Hp->(Option Int->Hp->Prop)->Prop
def PO(X:Cx)(e:Option Expr)(t:TO):Prop :=
 ∀(pins:List (Addr×Obj)) (s:Shared) (Z:St) (H:Hp) (Q:Option Int->Hp->Prop),Inv X pins Z H s->t Z H Q ->
  wpAny (model X.prog X.w) X.A (evalPart e X.env) (λu s'=>∃o H',Inv X pins Z H' s'/\IsPart u o/\Q o H') X.xe s
def EL:TO:=λ_ H Q=>Q none H
def Wv(t:TE):TO:=λZ H Q=>t Z H λx H1=>∃i,x=.int i/\Q (some i) H1
section
variable {lo hi:Option Expr}{tl th:TO}{p2:Pos}
theorem Cc:PO X none EL:=by
 intro pins s Z H Q I h;rw[evalPart_none];exact FV ⟨none,H,I,.none,h⟩
theorem Br(h:PE X e te):PO X (some e) (Wv te):=by
 intro pins s Z H Q I hw;rw[evalPart_some];refine thn (h pins s Z H _ I hw) λu s1 z0=>?_;obtain⟨x,H1,I1,r1,q1⟩:=z0;obtain⟨i,rfl,q⟩:=q1;obtain⟨t,rfl⟩:=r1;exact⟨some i,H1,I1,.int i t,q⟩
def SlR(X:Cx)(r:V->Option Int->Option Int->Hp->VK->Prop):Prop :=
 ∀(pins:List (Addr×Obj)) (s:Shared) (Z:St) (H:Hp) (x:V) (v vl vu:Value) (lo hi:Option Int) (sl:Addr) (Q:VK),Inv X pins Z H s->AC x v->s.heap.IsSliceOf sl vl vu .none->IsPart vl lo->IsPart vu hi->r x lo hi H Q ->
  ∃T id,typeLookup (.type T) "__getitem__" = pure (some (.builtin id))/\s.TypeIs v T/\wpAny (model X.prog X.w) X.A (getItem v (.ref sl)) (EP X pins Z Q) X.xe s
def tSl(r:V->Option Int->Option Int->Hp->VK->Prop)(te:TE)(tl th:TO):TE:=λZ H Q=>te Z H λx H1=>tl Z H1 λl H2=>th Z H2 λu H3=>r x l u H3 Q
theorem Bj{r:V->Option Int->Option Int->Hp->VK->Prop}(hr:SlR X r)(he:PE X e te)(hl:PO X lo tl)(hu:PO X hi th):PE X (.Subscript e (.Slice lo hi none p2) pos) (tSl r te tl th):=by
 intro pins s Z H Q I h;refine Subscript_ (thn (he pins s Z H _ I h) λv s1 z0=>?_);obtain⟨x,H1,I1,r1,q1⟩:=z0;refine wpAny_Slice (thn (hl pins s1 Z H1 _ I1 q1) λvl s2 ⟨l,H2,I2,pl,q2⟩=>thn (hu pins s2 Z H2 _ I2 q2) λvu s3 z0=>?_);obtain⟨u,H3,I3,pu,q3⟩:=z0;rw[evalPart_none];refine FV ?_;have I4:Inv X pins Z H3 {s3 with heap:=s3.heap.push {cls:=.type "slice",data:=.fields #[vl,vu,.none]}}:=I3.kept (t':=s3.toks) λb ob q=>Zzv _ q;obtain⟨T,id,hT,ht,hg⟩:=hr pins {s3 with heap:=s3.heap.push {cls:=.type "slice",data:=.fields #[vl,vu,.none]}} Z H3 x v vl vu l u s3.heap.objs.size Q I4 r1 (Heap.IsSliceOf.new ..) pl pu q3;show wpAny (model X.prog X.w) X.A (subscriptTail e (.Slice lo hi none p2) v (.ref s3.heap.objs.size)) (EP X pins Z Q) X.xe {s3 with heap:=s3.heap.push {cls:=.type "slice",data:=.fields #[vl,vu,.none]}};exact tail_any (ops:=[.ref s3.heap.objs.size,v]) ht hT hg (by with_unfolding_all rfl)
def Ds(xs:List V)(lo hi:Option Int):List V:=(xs.drop (HT.sIx xs.length 0 lo)).take (HT.sIx xs.length xs.length hi - HT.sIx xs.length 0 lo)
theorem Ki(xs:List V)(lo hi:Option Int):(Ds xs lo hi).length<=xs.length:=by
 unfold Ds;rw[Zz5,Zyj];lia
def rSlT(K:Zzy):V->Option Int->Option Int->Hp->VK->Prop:=λx lo hi H Q=>∃a xs,x=.ref a/\SqT K H a xs /\
 ¬ (HT.sIx xs.length 0 lo=0/\HT.sIx xs.length xs.length hi=xs.length)/\∀p,H p=none->Q (.ref p) (upd H p (.tup (Ds xs lo hi)))
theorem A06:SlR X (rSlT X.K):=by
 intro pins s Z H x v vl vu lo hi sl Q I rx hs pl pu h;obtain⟨a,xs,rfl,hx,hw,q⟩:=h;cases rx;obtain⟨its,r,ht,hz⟩:=I.tuple hx;have hlen:its.toArray.size=xs.length:=by rw[Zzs];exact r.length.symm
 refine⟨"tuple",_,Zy3.lookup,ht.typeIs,?_⟩;refine HT.N0 ht hs pl pu (by rw[hlen];exact hw) ?_ (by rw[hlen];exact hz);rw[hlen];refine⟨.ref s.heap.objs.size,_,I.laid (t':=s.toks) (o:=.tup (Ds xs lo hi)) (λb ob q=>Zzv _ q) (Zzx _) ?_,rfl,q _ (I.hok.fresh (Zzx _))⟩;exact⟨Zzk (Ki xs lo hi) hz,_,(r.drop (HT.sIx xs.length 0 lo)).take (HT.sIx xs.length xs.length hi - HT.sIx xs.length 0 lo),IsTup.new _ _⟩
def vn(K:Zzy):R2:=λx y H Q=>∃a b ns ms,x=.ref a/\y=.ref b/\SqT K H a (ns.map V.int)/\SqT K H b (ms.map V.int)/\Q (.bl (HT.zc ns ms)) H
def A1h(K:Zzy):R2:=λx y H Q=>∃a b xs ys,x=.ref a/\y=.ref b/\SqT K H a xs/\SqT K H b ys/\xs≠[]/\xs.length+ys.length<=sizeLine /\
 (ys=[]->Q (.ref a) H)/\(ys≠[]->∀p,H p=none->Q (.ref p) (upd H p (.tup (xs++ys))))
theorem AB.nil_iff(r:AB xs us):us=[]↔xs=[]:=by
 cases r with
 |nil=>simp
 |cons _ _=>simp
theorem wc:OpR X (binaryOp .Add) (A1h X.K):=by
 intro pins s Z H x y v u Q I rx ry h;obtain⟨a,b,xs,ys,rfl,rfl,ha,hb,hx,hz,q1,q2⟩:=h;cases rx;cases ry;obtain⟨its,r1,p1,_⟩:=I.tuple ha;obtain⟨its2,r2,p2,_⟩:=I.tuple hb;refine HT.yh p1 p2 (λz=>hx (r1.nil_iff.mp z)) (λz=>⟨.ref a,H,I,rfl,q1 (r2.nil_iff.mp z)⟩) (λz=>?_) (by rw[<- r1.length,<- r2.length];exact hz);refine⟨.ref s.heap.objs.size,_,I.laid (t':=s.toks) (o:=.tup (xs++ys)) (λb ob q=>Zzv _ q) (Zzx _) ?_,rfl,q2 (λw=>z (r2.nil_iff.mpr w)) _ (I.hok.fresh (Zzx _))⟩;exact⟨by rw[Zzc];exact hz,_,r1.append r2,IsTup.new _ _⟩
end
def ixN(n:Nat)(i:Int):Option Nat:=if 0<=i then (if i<n then some i.toNat else none) else if -(n:Int)<=i then some (i+n).toNat else none
def atI{α:Type}(xs:List α)(i:Int):Option α:=(ixN xs.length i).bind λj=>xs[j]?
theorem f6{i:Int}(h:ixN n i=some j):seqIndex? i n=some j/\j<n/\-(n:Int)<=i/\i<n:=by
 unfold ixN at h;by_cases h0:0<=i
 ·rw[FT h0] at h;by_cases h1:i<n
  ·rw[FT h1] at h;have e:i.toNat=j:=Zzm h;exact⟨by rw[seqIndex_of h0 h1,e],by lia,by lia,h1⟩
  ·rw[FS h1] at h;cases h
 ·rw[FS h0] at h;by_cases h1:-(n:Int)<=i
  ·rw[FT h1] at h;have e:(i+n).toNat=j:=Zzm h;exact⟨by rw[seqIndex_neg (by lia) h1,e],by lia,h1,by lia⟩
  ·rw[FS h1] at h;cases h
theorem Wf{α:Type}{xs:List α}{i:Int}{v:α}(h:atI xs i=some v):∃j,seqIndex? i xs.length=some j/\xs[j]?=some v/\j<xs.length/\-(xs.length:Int)<=i/\i<xs.length:=by
 unfold atI at h;cases e:ixN xs.length i with
 |none=>rw[e] at h;cases h
 |some j =>
  rw[e] at h;obtain⟨h1,h2,h3,h4⟩:=f6 e;exact⟨j,h1,h,h2,h3,h4⟩
theorem L3{α:Type}{xs:List α}{v:α}(h:xs[j]?=some v):atI xs (j:Int)=some v:=by
 have hj:j<xs.length:=(Zzb.mp h).1;have e:ixN xs.length (j:Int)=some j:=by
  unfold ixN;rw[FT (by lia),FT (by lia)];simp
 unfold atI;rw[e];exact h
def Wh(b:Expr):Prop:=∀o i,subscripted b false o i=operate [o,i] (getItem o i)
def IxR(X:Cx)(r:R2):Prop :=
 ∀(value slice:Expr) (pins:List (Addr×Obj)) (s:Shared) (Z:St) (H:Hp) (x y:V) (v u:Value) (Q:VK),Inv X pins Z H s->AC x v->AC y u->r x y H Q ->
  subscripted slice false v u=operate [v,u] (getItem v u)->wpAny (model X.prog X.w) X.A (subscriptTail value slice v u) (EP X pins Z Q) X.xe s
def MtR(X:Cx)(id:String)(r:V->List V->Hp->VK->Prop):Prop :=
 ∀(pins:List (Addr×Obj)) (s:Shared) (Z:St) (H:Hp) (x:V) (xs:List V) (v:Value) (us:List Value) (Q:VK),Inv X pins Z H s->AC x v->AB xs us->r x xs H Q ->
  wpAny (model X.prog X.w) X.A (call (.builtin id) (v::us)) (EP X pins Z Q) X.xe s
section
variable {a b:Expr}{tb:TE}
theorem db{r:R2}(hr:IxR X r)(ha:PE X a ta)(hb:PE X b tb)(hs:Wh b):PE X (.Subscript a b pos) (tOp r ta tb):=by
 intro pins s Z H Q I h;exact Subscript_ (A13 ha hb I h λv u s2 x y H2 I2 rx ry q=>hr a b pins s2 Z H2 x y v u Q I2 rx ry q (hs _ _))
def A1g(K:Zzy):R2:=λx y H Q=>∃p xs i v,x=.ref p/\y=.int i/\SqL K H p xs/\atI xs i=some v/\Q v H
def rIxT(K:Zzy):R2:=λx y H Q=>∃p xs i v,x=.ref p/\y=.int i/\SqT K H p xs/\atI xs i=some v/\Q v H
def rIxS:R2:=λx y H Q=>∃z i c,x=.str z/\y=.int i/\z.length<=sizeLine/\atI z.cps.toList i=some c/\Q (.str ⟨#[c]⟩) H
theorem W8:IxR X (A1g X.K):=by
 intro value slice pins s Z H x y v u Q I rx ry h hs;obtain⟨p,xs,i,z,rfl,rfl,hq,he,q⟩:=h;cases rx;obtain⟨t,rfl⟩:=ry;obtain⟨its,r,pl,hz⟩:=I.list hq;obtain⟨j,h1,h2,h3,h4,h5⟩:=Wf he;obtain⟨w,ew,rw'⟩:=r.get h2;have hl:=r.length;have hn:=Kf;have fin:EP X pins Z Q w s:=⟨z,H,I,rw',q⟩;by_cases h0:0<=i
 ·have hj:i.toNat=j:=by
   rw[seqIndex_of h0 h5] at h1;exact Zzm h1
  exact item_listR pl.isList h0 (by lia) (by rw[hj];simpa using ew) fin hs
 ·have hj:(i+(its.toArray.size:Int)).toNat=j:=by
   rw[seqIndex_neg (by lia) h4] at h1;rw[Zzs,<- hl];exact Zzm h1
  exact subscriptTail_builtinR (x:=w) pl.isList.typeIs slot_list_getitem.lookup
   (wpAny_getItem_list_neg (Q:=λr s'=>r=w/\EP X pins Z Q r s') pl.isList (by lia) (by rw[Zzs]<;>lia) (by lia) (by rw[hj];simpa using ew) ⟨rfl,fin⟩) hs
theorem A0q:IxR X (rIxT X.K):=by
 intro value slice pins s Z H x y v u Q I rx ry h hs;obtain⟨p,xs,i,z,rfl,rfl,hq,he,q⟩:=h;cases rx;obtain⟨t,rfl⟩:=ry;obtain⟨its,r,pl,hz⟩:=I.tuple hq;obtain⟨j,h1,h2,h3,h4,h5⟩:=Wf he;obtain⟨w,ew,rw'⟩:=r.get h2;have hl:=r.length;have hn:=Kf;have fin:EP X pins Z Q w s:=⟨z,H,I,rw',q⟩;exact subscriptTail_builtinR (x:=w) pl.typeIs slot_tuple_getitem.lookup
  (getItem_tuple (j:=j) (Q:=λr s'=>r=w/\EP X pins Z Q r s') pl (by lia) (by lia) (by rw[Zzs,<- hl];exact h1) (by simpa using ew) ⟨rfl,fin⟩) hs
theorem A0s:IxR X rIxS:=by
 intro value slice pins s Z H x y v u Q I rx ry h hs;obtain⟨z,i,c,rfl,rfl,hz,he,q⟩:=h;obtain⟨t,rfl⟩:=rx;obtain⟨t',rfl⟩:=ry;obtain⟨j,h1,h2,h3,h4,h5⟩:=Wf he;have hl:z.cps.toList.length=z.length:=by simp[Str.length]
 rw[hl] at h1 h4 h5;have hn:=Kf;exact tail_any (typeIs_str s z t) slot_str_getitem.lookup (getItem_str (c:=c) (by
  have e1:decide (i < -(2^63:Int))=false:=FR (by lia)
  have e2:decide (i≥2^63)=false:=FR (by lia)
  rw[e1,e2,Bool.or_false]) (by rw[h1];simpa using h2) ⟨.str ⟨#[c]⟩,H,I.tok _,⟨_,rfl⟩,q⟩) hs
theorem Zw(its:List Value)(n j:Nat)(u:Value):Obj.mapSeq (·.setIfInBounds j u) {cls:=.type "list",data:=.seq its.toArray n}={cls:=.type "list",data:=.seq (its.set j u).toArray n}:=by
 simp[Obj.mapSeq]
theorem Inv.lst(I:Inv X pins Z H s)(h:H p=some (.lst xs)) :
  ∃(its:List Value) (n:Nat),AB xs its/\s.heap.get? p=some {cls:=.type "list",data:=.seq its.toArray n}/\xs.length<=sizeLine:=by
 obtain⟨z,its,n,r,e⟩:=I.hok p _ h;exact⟨its,n,r,e,z⟩
theorem Inv.lstUpd{ys:List V}{its':List Value}{n':Nat}{f:Obj->Obj}(I:Inv X pins Z H s)(h:H p=some (.lst xs))
  (ho:s.heap.get? p=some {cls:=.type "list",data:=.seq its.toArray n}) (hf:f {cls:=.type "list",data:=.seq its.toArray n}={cls:=.type "list",data:=.seq its'.toArray n'}) (r:AB ys its') (hz:ys.length<=sizeLine) (t:Nat) :
  Inv X pins Z (upd H p (.lst ys)) {s with heap:=s.heap.update p f,toks:=t}:=by
 have e:(s.heap.update p f).get? p=some {cls:=.type "list",data:=.seq its'.toArray n'}:=by
  rw[Zxn f ho (by rw[hf]<;>rfl),hf]
 refine I.write (x:=p) (e:=p) (by rw[h];trivial) (.inl rfl) (λb u hb q=>(Zyt _ _ (Zza hb)).trans q) ⟨_,e⟩ ?_;exact⟨hz,its',n',r,e⟩
def EH:V->V->V->Hp->(Hp->Prop)->Prop:=λo i v H Q=>∃p xs k j,o=.ref p/\i=.int k/\H p=some (.lst xs)/\ixN xs.length k=some j/\Q (upd H p (.lst (xs.set j v)))
theorem Hn:ug X EH:=by
 intro pins s Z H o i v ov iv u Q I ro ri rv h;obtain⟨p,xs,k,j,rfl,rfl,hp,hj,q⟩:=h;cases ro;obtain⟨t,rfl⟩:=ri;obtain⟨its,n,r,ho,hz⟩:=I.lst hp;obtain⟨h1,h2,h3,h4⟩:=f6 hj;have hl:=r.length;have hn:=Kf;have I':Inv X pins Z (upd H p (.lst (xs.set j v))) {s with heap:=s.heap.update p (Obj.mapSeq (·.setIfInBounds j u))} :=
  I.lstUpd hp ho (Zw its n j u) (r.set rv j) (by rw[Zuv];exact hz) s.toks
 by_cases h0:0<=k
 ·have hk:k.toNat=j:=by
   rw[seqIndex_of h0 h4] at h1;exact Zzm h1
  exact PySem.W.ki_setAt ho h0 (by lia) (by rw[Zzs,<- hl];exact h4) (by rw[hk];exact⟨_,I',q⟩)
 ·have hk:(k+(its.toArray.size:Int)).toNat=j:=by
   rw[seqIndex_neg (by lia) h3] at h1;rw[Zzs,<- hl];exact Zzm h1
  exact PySem.W.ki_setBack ho (by lia) (by rw[Zzs,<- hl];exact h3) (by lia) (by rw[hk];exact⟨_,I',q⟩)
theorem V3(lo hi:Option Int)(n:Nat):(sliceBounds lo hi none n).1=((HT.sIx n 0 lo:Nat):Int)/\(sliceBounds lo hi none n).2.1=((HT.sIx n n hi:Nat):Int)/\(sliceBounds lo hi none n).2.2=1:=by
 refine⟨?_,?_,rfl⟩
 ·cases lo with
  |none=>simp[sliceBounds,HT.sIx]
  |some i =>
   simp only[sliceBounds,HT.sIx,Option.getD_none,show (1:Int) > 0 by decide,if_true];by_cases h:i<0
   ·simp only[h,if_true]<;>lia
   ·simp only[h,if_false]<;>lia
 ·cases hi with
  |none=>simp[sliceBounds,HT.sIx]
  |some i =>
   simp only[sliceBounds,HT.sIx,Option.getD_none,show (1:Int) > 0 by decide,if_true];by_cases h:i<0
   ·simp only[h,if_true]<;>lia
   ·simp only[h,if_false]<;>lia
theorem Sl(its:List Value)(lo hi:Option Int):slicePick its.toArray lo hi none=((its.drop (HT.sIx its.length 0 lo)).take (HT.sIx its.length its.length hi - HT.sIx its.length 0 lo)).toArray:=by
 obtain⟨h1,h2,h3⟩:=V3 lo hi its.toArray.size;unfold slicePick;rw[h1,h2,h3];simp only[sliceRange_one,pick_run,Zzs]<;>rfl
def A1f(K:Zzy):V->Option Int->Option Int->Hp->VK->Prop:=λx lo hi H Q=>∃a xs,x=.ref a/\SqL K H a xs/\∀p,H p=none->Q (.ref p) (upd H p (.lst (Ds xs lo hi)))
theorem c6:SlR X (A1f X.K):=by
 intro pins s Z H x v vl vu lo hi sl Q I rx hs pl pu h;obtain⟨a,xs,rfl,hx,q⟩:=h;cases rx;obtain⟨its,r,ht,hz⟩:=I.list hx;have hlen:=r.length;refine⟨"list",_,slot_list_getitem.lookup,ht.isList.typeIs,?_⟩;refine wpAny_getItem_list_slice ht.isList hs pl pu .none (by simp) ?_ (by rw[Zzs]<;>lia);rw[Sl,<- hlen];refine⟨.ref s.heap.objs.size,_,I.laid (t':=s.toks) (o:=.lst (Ds xs lo hi)) (λb ob q=>Zzv _ q) (Zzx _) ?_,rfl,q _ (I.hok.fresh (Zzx _))⟩;exact⟨Zzk (Ki xs lo hi) hz,_,0,(r.drop (HT.sIx xs.length 0 lo)).take (HT.sIx xs.length xs.length hi - HT.sIx xs.length 0 lo),Zzh _ rfl⟩
def Gj:V->Bool
 |.non=>true
 |.bl _=>true
 |.int _=>true
 |.str _=>true
 |_=>false
def eqV:V->V->Bool
 |.non,.non=>true
 |.bl a,.bl b=>a == b
 |.bl a,.int b=>(if a then 1 else 0) == b
 |.int a,.bl b=>a == (if b then 1 else 0)
 |.int a,.int b=>a == b
 |.str a,.str b=>a == b
 |_,_=>false
theorem A0v{x:V}{v:Value}(ry:AC y u)(rx:AC x v)(fy:Gj y=true)(fx:Gj x=true):SeqAt.EqAt A s u v (eqV y x):=by
 cases y with
 |non =>
  cases ry;cases x with
  |non=>cases rx;exact SeqAt.EqAt.same _
  |bl b=>cases rx;exact SeqAt.EqAt.none_bool b
  |int b=>obtain⟨t,rfl⟩:=rx;exact SeqAt.EqAt.none_int b t
  |str b=>obtain⟨t,rfl⟩:=rx;exact SeqAt.EqAt.none_str b t
  |_=>exact absurd (show false=true from fx) Zzd
 |bl a =>
  cases ry;cases x with
  |non=>cases rx;exact SeqAt.EqAt.bool_none a
  |bl b=>cases rx;exact SeqAt.EqAt.bool_bool a b
  |int b=>obtain⟨t,rfl⟩:=rx;exact SeqAt.EqAt.bool_int a b t
  |str b=>obtain⟨t,rfl⟩:=rx;exact SeqAt.EqAt.bool_str a b t
  |_=>exact absurd (show false=true from fx) Zzd
 |int a =>
  obtain⟨t',rfl⟩:=ry;cases x with
  |non=>cases rx;exact SeqAt.EqAt.int_none a t'
  |bl b=>cases rx;exact SeqAt.EqAt.int_bool a t' b
  |int b=>obtain⟨t,rfl⟩:=rx;exact SeqAt.EqAt.int_int a t' b t
  |str b=>obtain⟨t,rfl⟩:=rx;exact SeqAt.EqAt.int_str a t' b t
  |_=>exact absurd (show false=true from fx) Zzd
 |str a =>
  obtain⟨t',rfl⟩:=ry;cases x with
  |non=>cases rx;exact SeqAt.EqAt.str_none a t'
  |bl b=>cases rx;exact SeqAt.EqAt.str_bool a t' b
  |int b=>obtain⟨t,rfl⟩:=rx;exact SeqAt.EqAt.str_int a t' b t
  |str b=>obtain⟨t,rfl⟩:=rx;exact SeqAt.EqAt.str_str a t' b t
  |_=>exact absurd (show false=true from fx) Zzd
 |_=>exact absurd (show false=true from fy) Zzd
def eqU(x:V)(u:Value):Bool:=match u with
 |.none=>eqV .non x
 |.bool b=>eqV (.bl b) x
 |.int i _=>eqV (.int i) x
 |.str z _=>eqV (.str z) x
 |_=>false
theorem ag{x:V}(r:AC y u)(f:Gj y=true):eqU x u=eqV y x:=by
 cases y with
 |non=>cases r;rfl
 |bl b=>cases r;rfl
 |int i=>obtain⟨t,rfl⟩:=r;rfl
 |str z=>obtain⟨t,rfl⟩:=r;rfl
 |_=>exact absurd (show false=true from f) Zzd
theorem N8{x:V}:∀{xs:List V} {us:List Value},AB xs us->xs.all Gj=true->us.any (eqU x)=xs.any λy=>eqV y x
 |_,_,.nil,_=>rfl
 |y::xs,u::us,.cons r t,f=>by
  rw[Zwu,Zyy] at f;rw[Zwe,Zwe,ag r f.1,N8 t f.2]
theorem G5{x:V}{v:Value}(rx:AC x v)(fx:Gj x=true):∀{xs:List V} {us:List Value},AB xs us->xs.all Gj=true->∀u∈us,SeqAt.EqAt A s u v (eqU x u)
 |_,_,.nil,_=>λu hu=>by cases hu
 |y::xs,u::us,.cons r t,f=>λu' hu=>by
  rw[Zwu,Zyy] at f;rcases Zzu.mp hu with rfl | hu
  ·rw[ag r f.1];exact A0v r rx f.1 fx
  ·exact G5 rx fx t f.2 u' hu
def inV(x:V)(xs:List V):Bool:=xs.any λy=>eqV y x
def rIn(K:Zzy)(neg:Bool):R2:=λx y H Q=>∃p xs,y=.ref p/\(SqL K H p xs\/SqT K H p xs)/\Gj x=true/\xs.all Gj=true/\Q (.bl (if neg then !inV x xs else inV x xs)) H
theorem ij:OpR X (compareOp .In) (rIn X.K false):=by
 intro pins s Z H x y v u Q I rx ry h;obtain⟨p,xs,rfl,hq,fx,fs,q⟩:=h;cases ry;rcases hq with hq | hq
 ·obtain⟨its,r,pl,hz⟩:=I.list hq;refine SeqAt.in_listAt (eqU x) pl.isList (λw hw=>G5 rx fx r fs w (by simpa using hw)) ⟨.bl _,H,I,rfl,?_⟩;rw[show its.toArray.any (eqU x)=its.any (eqU x) by simp,N8 r fs];exact q
 ·obtain⟨its,r,pl,hz⟩:=I.tuple hq;refine SeqAt.in_tupleAt (eqU x) pl (λw hw=>G5 rx fx r fs w (by simpa using hw)) ⟨.bl _,H,I,rfl,?_⟩;rw[show its.toArray.any (eqU x)=its.any (eqU x) by simp,N8 r fs];exact q
theorem Vj:OpR X (compareOp .NotIn) (rIn X.K true):=by
 intro pins s Z H x y v u Q I rx ry h;obtain⟨p,xs,rfl,hq,fx,fs,q⟩:=h;cases ry;rcases hq with hq | hq
 ·obtain⟨its,r,pl,hz⟩:=I.list hq;refine SeqAt.notIn_listAt (eqU x) pl.isList (λw hw=>G5 rx fx r fs w (by simpa using hw)) ⟨.bl _,H,I,rfl,?_⟩;rw[show its.toArray.any (eqU x)=its.any (eqU x) by simp,N8 r fs];exact q
 ·obtain⟨its,r,pl,hz⟩:=I.tuple hq;refine SeqAt.notIn_tupleAt (eqU x) pl (λw hw=>G5 rx fx r fs w (by simpa using hw)) ⟨.bl _,H,I,rfl,?_⟩;rw[show its.toArray.any (eqU x)=its.any (eqU x) by simp,N8 r fs];exact q
theorem Vi:OpR X (compareOp .NotIn) (λx y H Q=>∃i j,x=.str i/\y=.str j/\Q (.bl (!(!(Zv9 j i 0 j.length 1).isEmpty))) H):=by
 intro pins s Z H x y v u Q I rx ry h;obtain⟨i,j,rfl,rfl,q⟩:=h;obtain⟨t,rfl⟩:=rx;obtain⟨t',rfl⟩:=ry;exact notIn_str ⟨.bl _,H,I,rfl,q⟩
theorem Jj:AK X (.builtin "len") (λxs H Q=>∃p ys,xs=[.ref p]/\(SqL X.K H p ys\/SqT X.K H p ys)/\Q (.int ys.length) H):=by
 intro pins s Z H xs us Q I r h;obtain⟨p,ys,rfl,hq,q⟩:=h;obtain⟨u,rfl,rx⟩:=Gf r;cases rx;have hn:=Kf;rcases hq with hq | hq
 ·obtain⟨its,r',pl,hz⟩:=I.list hq;have hlen:=r'.length;exact Calls.call_len_list pl.isList (by simp only[Zzs]<;>lia) ⟨.int ys.length,H,I.tok _,⟨s.toks+1,by rw[Zzs,hlen]⟩,q⟩
 ·obtain⟨its,r',pl,hz⟩:=I.tuple hq;have hlen:=r'.length;exact len_tuple pl (by simp only[Zzs]<;>lia) ⟨.int ys.length,H,I.tok _,⟨s.toks+1,by rw[Zzs,hlen]⟩,q⟩
theorem Wd:AK X (.builtin "len") (λxs H Q=>∃z,xs=[.str z]/\z.length<=sizeLine/\Q (.int z.length) H):=by
 intro pins s Z H xs us Q I r h;obtain⟨z,rfl,hz,q⟩:=h;obtain⟨u,rfl,t,rfl⟩:=Gf r;have hn:=Kf;exact len_str (by lia) ⟨.int z.length,H,I.tok _,⟨_,rfl⟩,q⟩
theorem Wc:AK X (.type "list") (λxs H Q=>∃p ys,xs=[.ref p]/\(SqL X.K H p ys\/SqT X.K H p ys)/\∀l,H l=none->Q (.ref l) (upd H l (.lst ys))):=by
 intro pins s Z H xs us Q I r h;obtain⟨p,ys,rfl,hq,q⟩:=h;obtain⟨u,rfl,rx⟩:=Gf r;cases rx;have fin:∀(its:List Value),AB ys its->ys.length<=sizeLine->∀(h':Heap) (c':Nat),(∀b o',s.heap.get? b=some o'->h'.get? b=some o') ->
   h'.get? s.heap.objs.size=some {cls:=.type "list",dict:=none,data:=.seq its.toArray c',slots:=#[]}->EP X pins Z Q (.ref s.heap.objs.size) {s with heap:=h'}:=λits r' hz h' c' kp e =>
  ⟨.ref s.heap.objs.size,_,I.laid (t':=s.toks) kp (Zzx _) (show AF X.prog X.w _ h' _ (.lst ys) from ⟨hz,its,c',r',e⟩),rfl,q _ (I.hok.fresh (Zzx _))⟩
 rcases hq with hq | hq
 ·obtain⟨its,r',pl,hz⟩:=I.list hq;have hlen:=r'.length;obtain⟨o,ho,hc,n,hd⟩:=pl.isList;exact call_list_seq p (.inl rfl) ho hc hd (λh' c' kp e=>fin its r' hz h' c' kp e) (by simp only[Zzs]<;>lia)
 ·obtain⟨its,r',pl,hz⟩:=I.tuple hq;have hlen:=r'.length;obtain⟨o,ho,hc,n,hd⟩:=pl;exact call_list_seq p (.inr rfl) ho hc hd (λh' c' kp e=>fin its r' hz h' c' kp e) (by simp only[Zzs]<;>lia)
theorem Ta:AK X (.type "tuple") (λxs H Q=>∃p ys,xs=[.ref p]/\((SqL X.K H p ys/\∀l,H l=none->Q (.ref l) (upd H l (.tup ys)))\/(SqT X.K H p ys/\Q (.ref p) H))):=by
 intro pins s Z H xs us Q I r h;obtain⟨p,ys,rfl,h⟩:=h;obtain⟨u,rfl,rx⟩:=Gf r;cases rx;rcases h with ⟨hq,q⟩ | ⟨hq,q⟩
 ·obtain⟨its,r',pl,hz⟩:=I.list hq;have hlen:=r'.length;refine call_tuple_list pl.isList (λh' kp=>?_) (by simp only[Zzs]<;>lia);have I1:Inv X pins Z H {s with heap:=h'}:=I.kept (t':=s.toks) kp;have I2:Inv X pins Z (upd H h'.objs.size (.tup ys)) {s with heap:=h'.push {cls:=.type "tuple",data:=.seq its.toArray}} :=
   I1.laid (t':=s.toks) (λb o e=>Zzv _ e) (Zzx _) (show AF X.prog X.w _ _ _ (.tup ys) from ⟨hz,its,r',IsTup.new _ _⟩)
  exact⟨.ref h'.objs.size,_,I2,rfl,q _ (I1.hok.fresh (Zzx _))⟩
 ·obtain⟨its,r',pl,hz⟩:=I.tuple hq;exact call_tuple_same pl ⟨.ref p,H,I,rfl,q⟩
def tyV(K:Zzy)(T:String)(x:V)(H:Hp):Prop:=match x with
 |.str _=>T = "str"
 |.int _=>T = "int"
 |.ref p=>(T = "list" /\ ∃xs,SqL K H p xs)\/(T = "tuple" /\ ∃o,K.lookup p=some o/\o.cls=.type "tuple" /\ o.dict=none) \/
   (T = "dict" /\ ((∃kvs,H p=some (.dK kvs))\/∃kvs,H p=some (.dT kvs)))\/(T = "set" /\ ∃S n,H p=some (.set S n))
 |_=>False
theorem A00{x:V}{v:Value}(I:Inv X pins Z H s)(r:AC x v)(ty:tyV X.K T x H) :
  s.TypeIs v T/\∀a,v=.ref a->∃ob,s.heap.get? a=some ob/\ob.dict=none:=by
 cases x with
 |str z =>
  obtain⟨t,rfl⟩:=r;cases (show T = "str" from ty);exact⟨typeIs_str s z t,λ_ e=>nomatch e⟩
 |int i =>
  obtain⟨t,rfl⟩:=r;cases (show T = "int" from ty);exact⟨typeIs_int s i t,λ_ e=>nomatch e⟩
 |ref p =>
  cases r;rcases ty with ⟨rfl,xs,hq⟩ | ⟨rfl,o,hk,hc,hd⟩ | ⟨rfl,hk⟩ | ⟨rfl,S,n,hk⟩
  ·obtain⟨its,_,pl,_⟩:=I.list hq;refine⟨pl.isList.typeIs,λa e=>?_⟩;cases e;obtain⟨o,n,e,c,hd,_⟩:=pl;exact⟨o,e,hd⟩
  ·refine⟨⟨o,I.kIn p o hk,hc⟩,λa e=>?_⟩;cases e;exact⟨o,I.kIn _ o hk,hd⟩
  ·have z:∃o,s.heap.get? p=some o/\o.ExactDict:=by
    rcases hk with ⟨kvs,hk⟩ | ⟨kvs,hk⟩
    ·obtain⟨_,_,_,_,o,_,_,e,ex,_⟩:=I.hok p _ hk;exact⟨o,e,ex⟩
    ·obtain⟨_,_,_,_,o,_,_,e,ex,_⟩:=I.hok p _ hk;exact⟨o,e,ex⟩
   obtain⟨o,e,ex⟩:=z;refine⟨⟨o,e,ex.1⟩,λa e2=>?_⟩;cases e2;exact⟨o,e,ex.2.1⟩
  ·obtain⟨o,_,_,_,e,ex,_⟩:=I.hok p _ hk;refine⟨⟨o,e,ex.1⟩,λa e2=>?_⟩;cases e2;exact⟨o,e,ex.2.1⟩
 |_=>exact False.elim ty
variable {o:Expr}{to:TE}{name:Str}{cpos:Pos}{id:String}{r:V->List V->Hp->VK->Prop}
end
def MtM(X:Cx)(id:String)(r:V->List V->Hp->VK->Prop):Prop :=
 ∀(pins:List (Addr×Obj)) (s:Shared) (Z:St) (H:Hp) (x:V) (xs:List V) (v:Value) (us:List Value) (Q:VK),Inv X pins Z H s->AC x v->AB xs us->r x xs H Q ->
  wpAny (model X.prog X.w) X.A (call (.builtin id) (v::us)) (EP X pins Z Q) X.xe s
theorem AB.one:∀{x:V} {us:List Value},AB [x] us->∃u,us=[u]/\AC x u
 |_,_,.cons r .nil=>⟨_,rfl,r⟩
theorem AB.eraseIdx:∀{xs:List V} {us:List Value} (i:Nat),AB xs us->AB (xs.eraseIdx i) (us.eraseIdx i)
 |_,_,_,.nil=>.nil
 |_,_,0,.cons _ t=>t
 |_,_,i+1,.cons r t=>.cons r (AB.eraseIdx i t)
theorem AB.rep(h:AB xs us):∀k:Nat,AB (Zyb k xs).flatten (Zyb k us).flatten
 |0=>.nil
 |k+1=>by
  rw[Zxy,Zxy,Zw6,Zw6];exact AB.append h (AB.rep h k)
theorem Uc{α:Type}:∀(l:List α) (i:Nat),(l.eraseIdx i).length<=l.length
 |[],_=>Zzx _
 |_::_,0=>Nat.le_succ _
 |_::r,i+1=>Nat.succ_le_succ (Uc r i)
theorem Uj(its:List Value):∀(k:Nat) (acc:List Value),
  List.foldl (λx1 x2=>x1++x2) acc.toArray (Zyb k its.toArray)=(acc++(Zyb k its).flatten).toArray
 |0,acc=>by simp
 |k+1,acc=>by
  have e:acc.toArray++its.toArray=(acc++its).toArray:=by simp
  have e2:(acc++its)++(Zyb k its).flatten=acc++(Zyb (k+1) its).flatten:=by
   rw[Zxy,Zw6,Zwt]
  rw[<- e2,<- Uj its k (acc++its),<- e,Zxy,List.foldl_cons]
section
variable {l b:Addr}{ys zs:List V}
theorem Inv.lset{its':List Value}{f:Array Value->Array Value}(I:Inv X pins Z H s)(hH:H l=some (.lst xs))
  (e:s.heap.get? l=some {cls:=.type "list",data:=.seq its.toArray n}) (hf:f its.toArray=its'.toArray) (hv:AB ys its') (hz:ys.length<=sizeLine) :
  Inv X pins Z (upd H l (.lst ys)) {s with heap:=s.heap.update l (Obj.mapSeq f),toks:=t'}:=by
 have q:=Zv0 e f;rw[hf] at q;refine I.write (x:=l) (e:=l) (by rw[hH];exact trivial) (.inl rfl) (λb' u hb hu=>(Zyt s.heap (Obj.mapSeq f) (Zza hb)).trans hu) ⟨_,q⟩ ?_;exact⟨hz,its',_,hv,q⟩
theorem Inv.lnew(I:Inv X pins Z H s)(hv:AB ys its)(hz:ys.length<=sizeLine) :
  Inv X pins Z (upd H s.heap.objs.size (.lst ys)) {s with heap:=s.heap.push {cls:=.type "list",data:=.seq its.toArray},toks:=t'} :=
 I.laid (λ_ _ q=>Zzv _ q) (Zzx _) ⟨hz,its,0,hv,Zzh _ rfl⟩
theorem Inv.fresh(I:Inv X pins Z H s):H s.heap.objs.size=none:=I.hok.fresh (Zzx _)
theorem Inv.lstM(I:Inv X pins Z H s)(hH:H l=some (.lst xs)):xs.length<=sizeLine/\∃(its:List Value) (n:Nat),AB xs its/\xs.length=its.length/\s.heap.get? l=some {cls:=.type "list",data:=.seq its.toArray n}:=by
 obtain⟨z,its,n,r,e⟩:=I.hok l _ hH;exact⟨z,its,n,r,r.length,e⟩
theorem Rm(h:n<=sizeLine):Zx4 n=false:=by
 unfold Zx4;exact FR (by lia)
end
def EM:V->List V->Hp->VK->Prop:=λx vs H Q=>∃l xs y,x=.ref l/\vs=[y]/\H l=some (.lst xs)/\xs.length<sizeLine/\Q .non (upd H l (.lst (xs++[y])))
theorem By:MtM X "list.append" EM:=by
 intro pins s Z H x vs v us Q I rx rv h;obtain⟨l,xs,y,rfl,rfl,hH,hz,q⟩:=h;cases rx;obtain⟨u,rfl,ru⟩:=rv.one;obtain⟨z,its,n,r,hl,e⟩:=I.lstM hH;refine call_meets F.slot_list_append ⟨_,e,rfl⟩ F.entry_list_append (F.args_list_append_2 _ _) (Zv6 l its.toArray n u (by rw[Zzs];lia)) ⟨e,?_⟩;refine⟨.non,_,I.lset (its':=its++[u]) hH e (by simp) (r.append (.cons ru .nil)) ?_,rfl,q⟩;rw[Zzc,Zya];lia
def EN:V->List V->Hp->VK->Prop:=λx vs H Q=>∃l b xs zs,x=.ref l/\vs=[.ref b]/\H l=some (.lst xs)/\H b=some (.lst zs)/\xs.length+zs.length<=sizeLine/\Q .non (upd H l (.lst (xs++zs)))
theorem Kv:MtM X "list.extend" EN:=by
 intro pins s Z H x vs v us Q I rx rv h;obtain⟨l,b,xs,zs,rfl,rfl,hH,hB,hz,q⟩:=h;cases rx;obtain⟨u,rfl,ru⟩:=rv.one;cases ru;obtain⟨z,its,n,r,hl,e⟩:=I.lstM hH;obtain⟨z2,its2,n2,r2,hl2,e2⟩:=I.lstM hB;have hsz:its.toArray.size+its2.toArray.size<=sizeLine:=by rw[Zzs,Zzs];lia
 have hlong:¬ (!its.toArray.isEmpty&&Zx4 (its.toArray.size+its2.toArray.size))=true:=by
  rw[Rm hsz,Zva];exact Zzd
 refine call_meets F.slot_list_extend ⟨_,e,rfl⟩ F.entry_list_extend (F.args_list_extend_2 _ _)
  (AutoSeq1.list_extend_list_list_0 l its.toArray n b its2.toArray n2 hlong (by rw[Zzs];lia) (by lia)) ⟨e,e2,?_⟩
 refine⟨.non,_,I.lset (its':=its++its2) hH e (by simp) (r.append r2) ?_,rfl,q⟩;rw[Zzc];lia
def EU:V->List V->Hp->VK->Prop:=λx vs H Q=>∃l xs i k y,x=.ref l/\vs=[.int i]/\H l=some (.lst xs)/\-(2^63)<=i/\i<2^63/\seqIndex? i xs.length=some k/\xs[k]?=some y/\Q y (upd H l (.lst (xs.eraseIdx k)))
theorem ox:MtM X "list.pop" EU:=by
 intro pins s Z H x vs v us Q I rx rv h;obtain⟨l,xs,i,k,y,rfl,rfl,hH,h1,h2,hk,hy,q⟩:=h;cases rx;obtain⟨u,rfl,ru⟩:=rv.one;obtain⟨t,rfl⟩:=ru;obtain⟨z,its,n,r,hl,e⟩:=I.lstM hH;obtain⟨w,hw,rw'⟩:=r.get hy;refine call_meets F.slot_list_pop ⟨_,e,rfl⟩ F.entry_list_pop (F.args_list_pop_2 _ _)
  (MeetsSeq.list_pop_at l its.toArray n i t k w (fitsIndex_both h1 h2) (by rw[Zzs,<- hl];exact hk) (by rw[<- Zw3];exact hw) (by rw[Zzs];lia)) ⟨e,?_⟩
 refine⟨y,_,I.lset (its':=its.eraseIdx k) hH e ?_ (r.eraseIdx k) ?_,rw',q⟩
 ·show its.toArray.eraseIdxIfInBounds k=(its.eraseIdx k).toArray
  rw[List.eraseIdxIfInBounds_toArray]
 ·have:=Uc xs k
  lia
def Mg:V->List V->Hp->VK->Prop:=λx vs H Q=>∃l xs,x=.ref l/\vs=[]/\H l=some (.lst xs)/\Q .non (upd H l (.lst xs.reverse))
def rCat:R2:=λx y H Q=>∃l b xs zs,x=.ref l/\y=.ref b/\H l=some (.lst xs)/\H b=some (.lst zs)/\xs.length+zs.length<=sizeLine/\∀p,H p=none->Q (.ref p) (upd H p (.lst (xs++zs)))
theorem Kb:OpR X (binaryOp .Add) rCat:=by
 intro pins s Z H x y v u Q I rx ry h;obtain⟨l,b,xs,zs,rfl,rfl,hH,hB,hz,q⟩:=h;cases rx;cases ry;obtain⟨z,its,n,r,hl,e⟩:=I.lstM hH;obtain⟨z2,its2,n2,r2,hl2,e2⟩:=I.lstM hB;refine PySem.P.add_list e e2 ?_ (by rw[Zzs,Zzs];lia);have ea:its.toArray++its2.toArray=(its++its2).toArray:=by simp
 rw[ea];exact⟨.ref _,_,I.lnew (t':=s.toks) (r.append r2) (by rw[Zzc];lia),rfl,q _ I.fresh⟩
def rRep:R2:=λx y H Q=>∃l k xs,x=.ref l/\y=.int k/\H l=some (.lst xs)/\-(2^63)<=k/\k<2^63/\xs.length*k.toNat<=sizeLine /\
 ∀p,H p=none->Q (.ref p) (upd H p (.lst (Zyb k.toNat xs).flatten))
theorem wy{α:Type}(xs:List α)(k:Nat):(Zyb k xs).flatten.length=k*xs.length:=by
 induction k with
 |zero=>simp
 |succ k ih=>rw[Zxy,Zw6,Zzc,ih,Nat.succ_mul,Nat.add_comm]
theorem Zh:OpR X (binaryOp .Mult) rRep:=by
 intro pins s Z H x y v u Q I rx ry h;obtain⟨l,k,xs,rfl,rfl,hH,h1,h2,hz,q⟩:=h;cases rx;obtain⟨t,rfl⟩:=ry;obtain⟨z,its,n,r,hl,e⟩:=I.lstM hH;have hlen:its.toArray.size*k.toNat<=sizeLine:=by rw[Zzs,<- hl];exact hz
 have hcap:¬ its.toArray.size*k.toNat > (2^63 - 1) / 8:=by
  have:(sizeLine:Nat)<=(2^63 - 1) / 8:=by decide
  lia
 have hfit:¬ (!Builtin.List.listFitsIndex k)=true:=by
  rw[fitsIndex_both h1 h2];exact Zzd
 have hlong:¬ Zx4 (its.toArray.size*k.toNat)=true:=by
  rw[Rm hlen];exact Zzd
 have hnew:List.foldl (λx1 x2=>x1++x2) #[] (Zyb (if its.toArray.isEmpty=true then 0 else k.toNat) its.toArray)=(Zyb k.toNat its).flatten.toArray:=by
  have f0:∀m:Nat,List.foldl (λx1 x2=>x1++x2) #[] (Zyb m its.toArray)=(Zyb m its).flatten.toArray:=λm=>by
   have:=Uj its m [];rw[Zx3] at this;exact this
  rw[f0];cases its with
  |nil=>simp
  |cons a r'=>rw[FS (by simp)]
 refine wpAny_binaryOp_repeat_ref (T := "list") (U := "int") (by decide) ⟨_,e,rfl⟩ (λs'=>typeIs_int s' k t) noFill_list_mul F.fills_int_mul F.slot_int_rmul repeat_list F.slot_int_index.lookup
  (call_meets F.slot_int_rmul (typeIs_int s k t) F.entry_int_rmul (F.args_int_rmul_2 _ _) (int___rmul___int_list k t l its.toArray n)
   ⟨e,rfl,⟨_,e,rfl⟩,call_meets F.slot_list_mul ⟨_,e,rfl⟩ F.entry_list_mul (F.args_list_mul_2 _ _) (AutoListH.list___mul___list_int_3 l its.toArray n k t hfit hcap hlong) ⟨e,?_⟩⟩)
 rw[hnew];exact⟨.ref _,_,I.lnew (t':=s.toks) (r.rep k.toNat) (by rw[wy,Nat.mul_comm];exact hz),rfl,q _ I.fresh⟩
section
variable {κ:Type}[DecidableEq κ]
def C4(kvs:List (κ×V))(k:κ):Option V:=(kvs.find? λkv=>decide (kv.1=k)).map (·.2)
def Gp(kvs:List (κ×V))(k:κ)(v:V):List (κ×V) :=
 if (kvs.any λkv=>decide (kv.1=k))=true then kvs.map (λkv=>if kv.1=k then (kv.1,v) else kv) else kvs++[(k,v)]
theorem Cf{p:κ×V}{r:List (κ×V)}{k:κ}(e:p.1=k):C4 (p::r) k=some p.2:=by simp[C4,Zwc,e]
theorem C7{p:κ×V}{r:List (κ×V)}{k:κ}(e:¬ p.1=k):C4 (p::r) k=C4 r k:=by simp[C4,Zwc,e]
theorem G1(k:κ):∀kvs:List (κ×V),(kvs.any λkv=>decide (kv.1=k))=(C4 kvs k).isSome
 |[]=>rfl
 |p::r=>by
  rw[Zwe];by_cases e:p.1=k
  ·simp only[Cf e,FQ e,Bool.true_or,Option.isSome_some]
  ·rw[C7 e,FR e,Bool.false_or];exact G1 k r
theorem Wn(k j:κ)(y:V):∀kvs:List (κ×V),C4 (kvs.map λkv=>if kv.1=k then (kv.1,y) else kv) j=(C4 kvs j).map λx=>if j=k then y else x
 |[]=>rfl
 |p::r=>by
  have ih:=Wn k j y r;rw[Zz9];by_cases h:p.1=k
  ·rw[FT h];by_cases e:p.1=j
   ·rw[Cf (p:=(p.1,y)) e,Cf e,Zwd,FT (e.symm.trans h)]
   ·rw[C7 (p:=(p.1,y)) e,C7 e,ih]
  ·rw[FS h];by_cases e:p.1=j
   ·rw[Cf (p:=p) e,Cf e,Zwd,FS (λz=>h (e.trans z))]
   ·rw[C7 (p:=p) e,C7 e,ih]
theorem Tj(k j:κ)(y:V):∀kvs:List (κ×V),C4 kvs k=none->C4 (kvs++[(k,y)]) j=if j=k then some y else C4 kvs j
 |[],_=>by
  by_cases e:k=j
  ·rw[FT e.symm];exact Cf (p:=(k,y)) e
  ·rw[FS (λz=>e z.symm)];exact C7 (p:=(k,y)) e
 |p::r,hn=>by
  rw[Zxa];have hk:¬ p.1=k:=λz=>by rw[Cf z] at hn;cases hn
  rw[C7 hk] at hn;have ih:=Tj k j y r hn;by_cases e:p.1=j
  ·rw[Cf e,Cf e,FS (λz=>hk (e.trans z))]
  ·rw[C7 e,C7 e,ih]
theorem Jv(kvs:List (κ×V))(k j:κ)(y:V):C4 (Gp kvs k y) j=if j=k then some y else C4 kvs j:=by
 unfold Gp;by_cases a:(kvs.any λkv=>decide (kv.1=k))=true
 ·rw[FT a,Wn];rw[G1] at a;by_cases e:j=k
  ·obtain⟨x,hx⟩:=Zwn.mp a;rw[FT e,e,hx,Zwd,FT rfl]
  ·rw[FS e];cases C4 kvs j with
   |none=>rfl
   |some x=>rw[Zwd,FS e]
 ·rw[FS a];refine Tj k j y kvs ?_;rw[G1] at a;cases q:C4 kvs k with
  |none=>rfl
  |some x=>rw[q] at a;exact(a rfl).elim
theorem Ov(kvs:List (κ×V))(k:κ)(v:V):(Gp kvs k v).length<=kvs.length+1:=by
 unfold Gp;split
 ·rw[Zzz];lia
 ·rw[Zzc,Zz3,Zxo];lia
theorem R7{kvs:List (κ×V)}{k:κ}(v:V)(h:C4 kvs k=none):Gp kvs k v=kvs++[(k,v)]:=by
 unfold Gp;rw[G1,h];exact FS (by decide)
theorem AZ.isSome_eq{o:Option V}{u:Option Value}(r:AZ o u):o.isSome=u.isSome:=by
 cases o with
 |none=>cases u with
  |none=>rfl
  |some _=>exact(show False from r).elim
 |some _=>cases u with
  |none=>exact(show False from r).elim
  |some _=>rfl
theorem KV.val{kvs:List (κ×V)}{vs:List (κ×Value)}(r:KV kvs vs)(k:κ):AZ (C4 kvs k) (valueAt vs k):=by
 unfold KV at r;induction r with
 |nil=>exact True.intro
 |@cons p q ps qs h t ih =>
  obtain⟨h1,h2⟩:=h;by_cases e:p.1=k
  ·have e':q.1=k:=h1.symm.trans e
   have b:valueAt (q::qs) k=some q.2:=by simp[valueAt,Zwc,e']
   rw[Cf e,b];exact h2
  ·have e':¬ q.1=k:=λz=>e (h1.trans z)
   have b:valueAt (q::qs) k=valueAt qs k:=by simp[valueAt,Zwc,e']
   rw[C7 e,b];exact ih
theorem KV.any{kvs:List (κ×V)}{vs:List (κ×Value)}(r:KV kvs vs)(k:κ):(kvs.any λkv=>decide (kv.1=k))=vs.any λkv=>decide (kv.1=k):=by
 unfold KV at r;induction r with
 |nil=>rfl
 |cons h t ih=>rw[Zwe,Zwe,ih,h.1]
theorem KV.repl{kvs:List (κ×V)}{vs:List (κ×Value)}(r:KV kvs vs)(k:κ)(ry:AC y u) :
  KV (kvs.map λkv=>if kv.1=k then (kv.1,y) else kv) (vs.map λkv=>if kv.1=k then (kv.1,u) else kv):=by
 unfold KV at r ⊢;induction r with
 |nil=>exact .nil
 |@cons p q ps qs h t ih =>
  rw[Zz9,Zz9];refine .cons ?_ ih;obtain⟨h1,h2⟩:=h;by_cases e:p.1=k
  ·rw[FT e,FT (h1.symm.trans e)];exact⟨h1,ry⟩
  ·rw[FS e,FS (λz=>e (h1.trans z))];exact⟨h1,h2⟩
theorem KV.put{kvs:List (κ×V)}{vs:List (κ×Value)}(r:KV kvs vs)(k:κ)(ry:AC y u):KV (Gp kvs k y) (stored vs k u):=by
 unfold Gp stored;rw[r.any k];by_cases e:(vs.any λkv=>decide (kv.1=k))=true
 ·rw[FT e,FT e];exact r.repl k ry
 ·rw[FS e,FS e];exact Paired.snoc r ⟨rfl,ry⟩
theorem KV.length{kvs:List (κ×V)}{vs:List (κ×Value)}(r:KV kvs vs):kvs.length=vs.length:=Paired.length r
end
theorem Ue{k:Key}(r:AC (kV k) u):(B5 P w).is k u=true:=by
 cases k with
 |inl i=>obtain⟨t,e⟩:=(show ∃t,u=Value.int i t from r);subst e;exact Y3 P w i t
 |inr x=>obtain⟨t,e⟩:=(show ∃t,u=Value.str x t from r);subst e;exact G4 P w x t
theorem Uf:∀{ks:List Key} {us:List Value},AB (ks.map kV) us->ItemsAre (B5 P w) ks us
 |[],_,r=>by rw[Zxs] at r;cases r;exact .nil
 |k::ks,_,r=>by
  rw[Zz9] at r;cases r with
  |cons h t=>exact .cons (Ue h) (Uf t)
abbrev KT(H:Hp):List (List Key×V)->List (List Key×Addr×Value)->Prop:=Paired λp q=>p.1=q.1/\H q.2.1=some (.tup (p.1.map kV))/\AC p.2 q.2.2
theorem KT.val{kvs:List (List Key×V)}{xs:List (List Key×Addr×Value)}(r:KT H kvs xs)(k:List Key):AZ (C4 kvs k) ((atKey xs k).map (·.2)):=by
 induction r with
 |nil=>exact True.intro
 |@cons p q ps qs h t ih =>
  obtain⟨h1,_,h2⟩:=h;by_cases e:p.1=k
  ·have e':q.1=k:=h1.symm.trans e
   have b:atKey (q::qs) k=some q.2:=by simp[atKey,Zwc,e']
   rw[Cf e,b];exact h2
  ·have e':¬ q.1=k:=λz=>e (h1.trans z)
   have b:atKey (q::qs) k=atKey qs k:=by simp[atKey,Zwc,e']
   rw[C7 e,b];exact ih
theorem KT.repl{kvs:List (List Key×V)}{xs:List (List Key×Addr×Value)}(r:KT H kvs xs)(k:List Key)(ry:AC y u) :
  KT H (kvs.map λkv=>if kv.1=k then (kv.1,y) else kv) (xs.map (putAt k u)):=by
 induction r with
 |nil=>exact .nil
 |@cons p q ps qs h t ih =>
  rw[Zz9,Zz9];refine .cons ?_ ih;obtain⟨h1,h2,h3⟩:=h;unfold putAt;by_cases e:p.1=k
  ·rw[FT e,FT (h1.symm.trans e)];exact⟨h1,h2,ry⟩
  ·rw[FS e,FS (λz=>e (h1.trans z))];exact⟨h1,h2,h3⟩
theorem KT.put{kvs:List (List Key×V)}{xs:List (List Key×Addr×Value)}(r:KT H kvs xs)(k:List Key){b:Addr}(hb:H b=some (.tup (k.map kV)))(ry:AC y u) :
  KT H (Gp kvs k y) (storedH xs k b u):=by
 have e:(kvs.any λkv=>decide (kv.1=k))=(atKey xs k).isSome:=by
  rw[G1,(r.val k).isSome_eq,Option.isSome_map]
 unfold Gp storedH;rw[e];by_cases q:(atKey xs k).isSome=true
 ·rw[FT q,FT q];exact r.repl k ry
 ·rw[FS q,FS q];exact Paired.snoc r ⟨rfl,hb,ry⟩
theorem KT.keeps{kvs:List (List Key×V)}{xs:List (List Key×Addr×Value)}(r:KT H kvs xs)(ht:∀b ys,H b=some (.tup ys)->H' b=some (.tup ys)):KT H' kvs xs :=
 Paired.mapP r λ_ _ z=>⟨z.1,ht _ _ z.2.1,z.2.2⟩
theorem z9{u:HO}(ok:HOk P w H h)(e:Rd H a u):AF P w H h a u:=e.ok ok
theorem S5(ok:HOk P w H h)(e:Rd H a (.dK kvs)):kvs.length<=sizeLine/\(a == sysModules)=false/\∃vs,KV kvs vs/\h.DictOf (B5 P w) a vs :=
 show AF P w H h a (.dK kvs) from z9 ok e
theorem A1w(ok:HOk P w H h)(e:H a=some (.dK kvs)):kvs.length<=sizeLine/\(a == sysModules)=false/\∃vs,KV kvs vs/\h.DictOf (B5 P w) a vs:=S5 ok (.inl e)
theorem Rt(ok:HOk P w H h)(e:H a=some (.tup (ks.map kV))):(tupleKind (B5 P w)).is h ks a:=by
 obtain⟨_,its,r,o,h1,h2,n,h3⟩:=(show AF P w H h a (.tup (ks.map kV)) from ok a _ e);exact⟨o,its.toArray,n,h1,h2,h3,by simpa using Uf r⟩
theorem Yl{kvs:List (List Key×V)}(ok:HOk P w H h)(e:Rd H a (.dT kvs)):kvs.length<=sizeLine/\(a == sysModules)=false /\
  ∃xs,KT H kvs xs/\h.DictOfH (tupleKind (B5 P w)) a xs:=by
 obtain⟨z,y,xs,r,o,es,ep,h1,h2,h3,h4,h5⟩:=(show AF P w H h a (.dT kvs) from z9 ok e);refine⟨z,y,xs,r,o,es,ep,h1,h2,h3,h4,λx hx=>?_,h5⟩;have all:∀{l:List (List Key×V)} {m:List (List Key×Addr×Value)},KT H l m->∀x∈m,(tupleKind (B5 P w)).is h x.1 x.2.1:=by
  intro l m q;induction q with
  |nil=>intro x hx;exact nomatch hx
  |@cons p q ps qs hq t ih =>
   intro x hx;rcases Zzu.mp hx with e | hx
   ·subst e;exact Rt ok (by rw[<- hq.1];exact hq.2.1)
   ·exact ih x hx
 exact all r x hx
theorem A1v{kvs:List (List Key×V)}(ok:HOk P w H h)(e:H a=some (.dT kvs)):kvs.length<=sizeLine/\(a == sysModules)=false /\
  ∃xs,KT H kvs xs/\h.DictOfH (tupleKind (B5 P w)) a xs:=Yl ok (.inl e)
def jz(H:Hp)(a:Addr)(y:V)(r:Option V):Prop :=
 (∃kvs k,Rd H a (.dK kvs)/\y=kV k/\r=C4 kvs k)\/∃kvs k b,Rd H a (.dT kvs)/\y=.ref b/\H b=some (.tup (k.map kV))/\r=C4 kvs k
def EC(H:Hp)(a:Addr)(y v:V)(H':Hp):Prop :=
 (∃kvs k,H a=some (.dK kvs)/\y=kV k/\kvs.length<sizeLine/\H'=upd H a (.dK (Gp kvs k v))) \/
 ∃kvs k b,H a=some (.dT kvs)/\y=.ref b/\H b=some (.tup (k.map kV))/\kvs.length<sizeLine/\H'=upd H a (.dT (Gp kvs k v))
theorem EC.k{k:Key}(e:H a=some (.dK kvs))(hl:kvs.length<sizeLine):EC H a (kV k) v (upd H a (.dK (Gp kvs k v))):=.inl ⟨kvs,k,e,rfl,hl,rfl⟩
section
variable {r:Value}{o:Option V}
theorem Inv.big(I:Inv X pins Z H s):sysModules<s.heap.objs.size:=by
 have h:mainGlobals<s.heap.objs.size:=(I.mod.glob.keeps I.bk).lt;exact Nat.lt_trans (by decide) h
theorem jl(hu:A.units+1<cLine)(I:Inv X pins Z H s)(g:jz H a y (some v))(ry:AC y u)(h:∀w' s',Inv X pins Z H s'->AC v w'->Q w' s') :
  wpAny (model X.prog X.w) A (getItem (.ref a) u) Q E s:=by
 rcases g with ⟨kvs,k,e,ey,l⟩ | ⟨kvs,k,b,e,ey,eb,l⟩
 ·subst ey;obtain⟨z,hd,vs,rel,dd⟩:=S5 I.hok e;obtain⟨w',hw,rw'⟩:=AZ.some_of (v:=v) (o:=valueAt vs k) (by rw[l];exact rel.val k);exact wpAny_getItem_of (Ue ry) dd.mapOf hw (h w' _ (I.tok _) rw')
 ·subst ey;cases (show u=Value.ref b from ry);obtain⟨z,hd,xs,rel,dd⟩:=Yl I.hok e;obtain⟨w',hw,rw'⟩:=AZ.some_of (v:=v) (o:=(atKey xs k).map (·.2)) (by rw[l];exact rel.val k);obtain⟨p,hp,hp2⟩:=Option.map_eq_some_iff.mp hw;refine wpAny_getItem_heap (tupleKind_room_in1 hu) (Rt I.hok eb) dd hp ?_;rw[hp2];exact h w' _ (I.tok _) rw'
theorem d_in(hu:A.units+1<cLine)(I:Inv X pins Z H s)(g:jz H a y o)(ry:AC y u)(h:∀s',Inv X pins Z H s'->Q (.bool o.isSome) s') :
  wpAny (model X.prog X.w) A (compareOp .In u (.ref a)) Q E s:=by
 rcases g with ⟨kvs,k,e,ey,l⟩ | ⟨kvs,k,b,e,ey,eb,l⟩
 ·subst ey;obtain⟨z,hd,vs,rel,dd⟩:=S5 I.hok e;refine wpAny_in_of (Ue ry) hd dd.mapOf ?_;rw[<- (rel.val k).isSome_eq,<- l];exact h _ (I.tok _)
 ·subst ey;cases (show u=Value.ref b from ry);obtain⟨z,hd,xs,rel,dd⟩:=Yl I.hok e;refine wpAny_in_heap (tupleKind_room_in1 hu) (Rt I.hok eb) hd dd ?_;have q:=(rel.val k).isSome_eq;rw[Option.isSome_map] at q;rw[<- q,<- l];exact h _ (I.tok _)
theorem ye(hu:A.units+1<cLine)(I:Inv X pins Z H s)(g:jz H a y o)(ry:AC y u)(h:∀s',Inv X pins Z H s'->Q (.bool (!o.isSome)) s') :
  wpAny (model X.prog X.w) A (compareOp .NotIn u (.ref a)) Q E s:=by
 rcases g with ⟨kvs,k,e,ey,l⟩ | ⟨kvs,k,b,e,ey,eb,l⟩
 ·subst ey;obtain⟨z,hd,vs,rel,dd⟩:=S5 I.hok e;refine wpAny_notIn_of (Ue ry) hd dd.mapOf ?_;rw[<- (rel.val k).isSome_eq,<- l];exact h _ (I.tok _)
 ·subst ey;cases (show u=Value.ref b from ry);obtain⟨z,hd,xs,rel,dd⟩:=Yl I.hok e;refine wpAny_notIn_heap (tupleKind_room_in1 hu) (Rt I.hok eb) hd dd ?_;have q:=(rel.val k).isSome_eq;rw[Option.isSome_map] at q;rw[<- q,<- l];exact h _ (I.tok _)
theorem gg{ob:HO}(I:Inv X pins Z H s)(mu:Mut (H a))(hs:Zxd a s.heap h')(he:∃q,h'.get? a=some q)(new:AF X.prog X.w (upd H a ob) h' a ob) :
  Inv X pins Z (upd H a ob) {s with heap:=h',toks:=t'} :=
 I.write (x:=a) (e:=a) mu (.inl rfl) (λb q hb z=>(hs.2 b hb).trans z) he new
theorem A0w{vs:List (Key×Value)}(z:kvs.length<=sizeLine)(hd:(a == sysModules)=false)(rel:KV kvs vs)(dd:h'.DictOf (B5 P w) a vs) :
  AF P w H' h' a (.dK kvs):=⟨z,hd,vs,rel,dd⟩
theorem jk{Q:Unit->Shared->Prop}(hu:A.units+1<cLine)(I:Inv X pins Z H s)(g:EC H a y v H')(ry:AC y u)(rv:AC v r)(h:∀s',Inv X pins Z H' s'->Q () s') :
  wpAny (model X.prog X.w) A (setItem (.ref a) u r) Q E s:=by
 rcases g with ⟨kvs,k,e,ey,l,eH⟩ | ⟨kvs,k,b,e,ey,eb,l,eH⟩
 ·subst ey eH;obtain⟨z,hd,vs,rel,dd⟩:=A1w I.hok e;have hz:vs.length<=sizeLine:=by rw[<- rel.length];exact z
  have hl:(Gp kvs k v).length<=sizeLine:=by have:=Ov kvs k v;lia
  refine wpAny_setItem_pairs (hsz:=hz) (Ue ry) dd λh' dd' hs=>h _ ?_;have he:∃q,h'.get? a=some q:=by obtain⟨q,_,_,hq,_⟩:=dd';exact⟨q,hq⟩
  exact gg I (by rw[e];exact True.intro) hs he (A0w hl hd (rel.put k rv) dd')
 ·subst ey eH;cases (show u=Value.ref b from ry);obtain⟨z,hd,xs,rel,dd⟩:=A1v I.hok e;have hz:xs.length<=sizeLine:=by rw[<- Paired.length rel];exact z
  have hl:(Gp kvs k v).length<=sizeLine:=by have:=Ov kvs k v;lia
  refine wpAny_setItem_heap (hsz:=hz) (tupleKind_room_in1 hu) (Rt I.hok eb) dd λh' dd' hs=>h _ ?_;obtain⟨q,es,ep,hq,h2,h3,h4,_,h5⟩:=dd';refine gg I (by rw[e];exact True.intro) hs ⟨q,hq⟩ ⟨hl,hd,_,(rel.put k eb rv).keeps λc ys ec=>?_,q,es,ep,hq,h2,h3,h4,h5⟩;rw[Ab (Y1 ec e (λz=>nomatch z))];exact ec
end
section
variable {k:Key}
theorem A1x(I:Inv X pins Z H s)(e:Rd H a (.dK kvs))(h:∀t s',Inv X pins Z H s'->Q (.int kvs.length t) s'):wpAny (model X.prog X.w) A (call (.builtin "len") [.ref a]) Q E s:=by
 obtain⟨z,hd,vs,rel,dd⟩:=S5 I.hok e;refine call_len_dict hd dd (by rw[<- rel.length];rw[sizeLine_eq] at z;lia) ?_;rw[<- rel.length];exact h _ _ (I.tok _)
end
theorem Ym{o:Option V}(I:Inv X pins Z H s)(g:jz H a y o):s.TypeIs (.ref a) "dict" := by
 rcases g with ⟨kvs,k,e,_,_⟩ | ⟨kvs,k,b,e,_,_,_⟩
 ·obtain⟨_,_,vs,_,dd⟩:=S5 I.hok e;exact dd.typeIs
 ·obtain⟨_,_,xs,_,dd⟩:=Yl I.hok e;exact dd.typeIs
section
variable {o i value:Expr}{tpos:Pos}{td ty tv:TE}
end
theorem rj(h:Heap)(hb:sysModules<h.objs.size):AF P w H (h.push {cls:=.type "dict",data:=.dict #[]}) h.objs.size (.dK []) :=
 ⟨Zym _,beq_eq_false_iff_ne.mpr (Zza (Zyv hb)),[],.nil,Heap.DictOf.new h⟩
def EV:TE:=λ_ H Q=>∀p,H p=none->Q (.ref p) (upd H p (.dK []))
theorem Mm:PE X (.Dict [] [] pos) EV:=λpins s Z H Q I h =>
 wpAny_Dict_empty ⟨.ref s.heap.objs.size,_,I.laid (a:=s.heap.objs.size) (o:=.dK []) (t':=s.toks) (λ_ _ q=>Zzv _ q) (Zzx _) (rj s.heap I.big),rfl,h _ (I.hok.fresh (Zzx _))⟩
structure M1(X:Cx)(o:Expr)(m:Str)(apos:Pos)(e:Expr)(cpos:Pos):Prop where
 base:attributeBase o m X.env (eval o X.env)=eval o X.env
 few:((backTo cpos (starEach [e] X.env)).all (λx=>!x.1)&&(backToKw cpos (keywordEach [] X.env)).all (λx=>x.1.isSome)
  && decide (([e]:List Expr).length+([]:List Keyword).length+(if ([]:List Keyword).isEmpty then 0 else 1)<30))=true
 line:(apos.endLine == cpos.line)=true
 trees:backTo cpos (starEach [e] X.env)=[(false,eval e X.env)]
structure M2(X:Cx)(o:Expr)(m:Str)(apos:Pos)(e f:Expr)(cpos:Pos):Prop where
 base:attributeBase o m X.env (eval o X.env)=eval o X.env
 few:((backTo cpos (starEach [e,f] X.env)).all (λx=>!x.1)&&(backToKw cpos (keywordEach [] X.env)).all (λx=>x.1.isSome)
  && decide (([e,f]:List Expr).length+([]:List Keyword).length+(if ([]:List Keyword).isEmpty then 0 else 1)<30))=true
 line:(apos.endLine == cpos.line)=true
 trees:backTo cpos (starEach [e,f] X.env)=[(false,eval e X.env),(false,eval f X.env)]
section
variable {d:V}{r:Value}{o:Option V}
end
section
variable {o f:Expr}{cpos:Pos}{td ty tx:TE}
end
end L2
namespace Att
open PySem PySem.W PySem.Calls PyProof.Rows
theorem Pc{P:Params}:∀(ns:List Int) (vs:List Value),WellAll P h vs (ns.map WData.int)->IntsAre vs ns:=by
 intro ns;induction ns with
 |nil =>
  intro vs w;rw[Zxs] at w;cases w;exact .nil
 |cons n ns ih =>
  intro vs w;rw[Zz9] at w;cases w with
  |cons a b =>
   cases a;exact .cons _ _ (ih _ b)
theorem i8{l:OpenLaw}(hn:l.most=some n){P:Params}{args:List WData}{vals:List Value}
  (hpre:l.row.toRowW.claim.pre args=true) (hwl:WellAll P h vals args) :
  ∃a vs ns,vals=[Value.ref a]/\args=[WData.list (ns.map WData.int)]/\h.get? a=some {cls:=.type "list",data:=.seq vs.toArray}/\IntsAre vs ns/\ns.length<=n:=by
 have hsh:WShape.hasAll [] args [.list .int]=true:=(pre_splitW hpre).1;have hc:l.pre.holds [] {args:=args}=true:=(pre_splitW hpre).2;obtain⟨d,r,rfl,h1,h2⟩:=hasAllW_cons hsh;obtain rfl:=hasAllW_nil h2;obtain⟨xs,rfl,h3⟩:=hasW_list h1;obtain⟨ns,rfl⟩:=items_int h3;have hlen:ns.length<=n:=by
  unfold OpenLaw.pre at hc;have h4:(WTm.not (.lt (.lit (.int (n:Int))) (.len (.arg 0)))).holds [] {args:=[.list (ns.map .int)]}=true:=by
   have h4:=(holds_andW hc).1;rw[hn] at h4;exact h4
  have h5:=condW_of h4 (w_not (w_lt w_lit (w_len_list (w_arg rfl))));rw[Zzz] at h5;refine Nat.le_of_not_lt λq=>?_;have q':(n:Int)<((ns.length:Nat):Int):=by lia
  first
   | (rw[FQ q'] at h5;exact absurd h5 (by decide))
   | (simp at h5;lia)
 cases hwl with
 |cons w1 w2 =>
  cases w2;cases w1 with
  |list ho hall=>exact⟨_,_,ns,rfl,rfl,ho,Pc ns _ hall,hlen⟩
theorem ib(l:OpenLaw)(args:List WData):l.row.toRowW.claim.post args (.bool true) args=true :=
 postW_of (r:=l.row.toRowW) (X:=(true == true))
  (show WShape.has [] (.bool true) .bool=true by first | rfl | decide | simp[WShape.has,WShape.arms,WShape.armsAll])
  (show (WTm.eq .res (.lit (.bool true))).value [] {args:=args,res:=some (.bool true),after:=args}=some (.bool (true == true)) from w_eq_bool (w_res rfl) w_lit) rfl
theorem attach_call{l:OpenLaw}{q:Program}{d:DefRec}
  (hn:l.most=some n) (hdf:d.params.defaults=[])
  (call:∀(w:World) (s₀ s₁:Shared) (mg mb:Str->Option Value) (fa:Addr) (o:Obj) (pm cd doc:Value) (a:Addr) (vs:List Value) (ns:List Int),
   Ground q loose [] XP w s₀ mg mb s₁.heap->YP w s₁.heap ->
   s₁.heap.get? fa=some o->o.data=.func (docDef d.name d.params d.body d.scope pm cd doc)->s₁.heap.CodeRec cd d.name->mg d.name=some (.ref fa) ->
   s₁.heap.get? a=some {cls:=.type "list",data:=.seq vs.toArray}->IntsAre vs ns->ns.length<=n->s₁.gens=#[] ->
   codeAny (model l.prog w) callerA (.call (.ref fa) ⟨[.ref a],[]⟩) (λr s'=>r=.ok (.ret (.bool true))/\OldK s₁.heap s'.heap/\s'.os=s₁.os/\AllBare s'.gens) s₁) :
  WalkO q loose XP YP l.row.toRowW d [] (λf vs=>PySem.call f vs):=by
 intro w s₀ s₁ mg mb G Y fa o pm cd doc dV kV ho hd hcd hD hmg hg args vals as hpre hlay hrd hwl hlo;obtain rfl:dV=.none:=Dflts.none hD hdf;obtain rfl:kV=.none:=Dflts.noKw hD;obtain⟨a,vs,ns,rfl,rfl,hobj,hints,hlen⟩:=i8 hn hpre hwl;refine enter_call (codeAny_mono (call w s₀ s₁ mg mb fa o pm cd doc a vs ns G Y ho (fd_plain hd) hcd hmg hobj hints hlen hg) λr s' hq=>?_);obtain⟨rfl,h2,h3,h4⟩:=hq;exact⟨.inl ⟨.bool true,.bool true,[],rfl,λ_=>rfl,.bool true,ib l _,λ_=>⟨List.Pairwise.nil,λ_ hm=>(nomatch hm)⟩⟩,h2,h3,h4⟩
section
variable {K:Frag}
end
end Att
namespace L2
open PySem PySem.Spec PyProof.Rows
theorem Tg:∀{vs:List Value} {ns:List Int},IntsAre vs ns->AB (ns.map V.int) vs
 |_,_,.nil=>.nil
 |_,_,.cons n t h=>.cons ⟨t,rfl⟩ (Tg h)
def f9(s:Stmt)(j:Nat):Stmt:=match s with
 |.ClassDef _ _ _ body _ _ _ _ _ _ _=>body.getD j (.Pass ⟨0,0,0,0⟩)
 |_=>.Pass ⟨0,0,0,0⟩
def Dl(s:Stmt):Arguments:=match s with
 |.FunctionDef _ a _ _ _ _ _ _ _ _=>a
 |_=>{posonlyargs:=[],args:=[],vararg:=none,kwonlyargs:=[],kw_defaults:=[],kwarg:=none,defaults:=[]}
def C8(s:Stmt):List Stmt:=match s with
 |.FunctionDef _ _ b _ _ _ _ _ _ _=>b
 |_=>[]
def Ar(s:Stmt):Scope:=match s with
 |.FunctionDef _ _ _ _ _ _ sc _ _ _=>sc
 |_=>{kind:=.function,names:=[],isGenerator:=false,isCoroutine:=false}
abbrev CX0:CXT:=λ_ _ _ _ _ _=>False
abbrev E0:XK:=λ_ _ _=>False
theorem zb:Se CX0 X E0:=λ_ _ _ _ _ _ _ h=>h.elim
structure Fun(K:Zzy)(x qual:Str)(st:Stmt)(f:Addr)(fd:FuncData):Prop where
 ex:∃(oc:Value) (od:Option Addr) (kV doc pm:Value) (an:Option Addr) (cdv ct:Value) (osl:Array (Option Value)),
  fd=Zy1 x qual (Dl st) (C8 st) (Ar st) .none kV doc pm an cdv ct/\K.lookup f=some ⟨oc,od,.func fd,osl⟩/\Zui K cdv qual=true
 kp:Zx9 K (.ref f)=true
theorem Fun.ok{st:Stmt}{k:Nat}(F:Fun K x qual st f fd)(S:Ce N ps (Ar st))(len:∀vs H Q E,sp vs H Q E->vs.length=ps.length)
  (hbody:∀(cdv:Value) (A:Around) (outer:List Env) (s:Shared) (H:Hp) (vs:List V) (Q:VK) (E:XK),AN k (A.deeper (envOfC qual (Ar st) s.heap.objs.size f cdv))->sp vs H Q E ->
   ∃t,PSs (Nx CX0 P w K mg base N qual (Ar st) f cdv A outer s H E).nox (C8 st) t/\t {nx:=λ_ H'=>Q .non H',rt:=Q} (Hm N vs) H):Ax P w K mg base CX0 (k+1) f fd ps sp:=by
 obtain⟨oc,od,kV,doc,pm,an,cdv,ct,osl,rfl,lk,hcd⟩:=F.ex;refine qz lk hcd S len λA outer s H vs Q E hr hsp=>?_;obtain⟨t,h,q⟩:=hbody cdv A outer s H vs Q E hr hsp;exact⟨t,h.nox,q⟩
theorem Fun.binds{st:Stmt}(F:Fun K x qual st f fd)
  (h:∀(kV doc pm:Value) (an:Option Addr) (cdv ct:Value) (us:List Value),us.length=ps.length->bindArgs (Zy1 x qual (Dl st) (C8 st) (Ar st) .none kV doc pm an cdv ct) ⟨us,[]⟩=pure (ps.zip us)):BD K fd ps []:=by
 obtain⟨oc,od,kV,doc,pm,an,cdv,ct,osl,rfl,lk,hcd⟩:=F.ex;exact .all (h kV doc pm an cdv ct)
theorem Rz{st:Stmt}{an:Option Addr}{osl:Array (Option Value)}{kV doc pm cdv ct:Value}(l:K.lookup f=some ⟨oc,od,.func (Zy1 x qual (Dl st) (C8 st) (Ar st) .none kV doc pm an cdv ct),osl⟩)
  (c:Zui K cdv qual=true) (k:Zx9 K (.ref f)=true):Fun K x qual st f (Zy1 x qual (Dl st) (C8 st) (Ar st) .none kV doc pm an cdv ct):=⟨⟨oc,od,kV,doc,pm,an,cdv,ct,osl,rfl,l,c⟩,k⟩
theorem Aw{k:Nat}(hr:AN k A):A.units+1<cLine:=Zy6 (Nat.add_le_add_left (by decide:1<=64) _) hr.units
theorem pv(i:Nat)(hN:X.N[i]?=some x:=by rfl)(hv:Vis X.env.scope x:=by first | exact Zzq rfl | exact Or.inr (Zzq rfl) | exact Or.inr (Or.inr rfl))(hd:(x == ("__debug__" : Str))=false:=by decide)
  (hcd:(x == ("__classdict__" : Str))=false:=by decide):PE X (.Name x pos) (Z6 i):=A0e hN hv hd hcd
theorem jv:AK X (.builtin "len") (λxs H Q=>∃a kvs,xs=[V.ref a]/\H a=some (.dK kvs)/\Q (.int kvs.length) H):=by
 intro pins s Z H xs us Q I r h;obtain⟨a,kvs,rfl,ha,q⟩:=h;obtain⟨u,rfl,ru⟩:=Gf r;cases ru;exact A1x I (.inl ha) λt s' I'=>⟨.int kvs.length,H,I',⟨t,rfl⟩,q⟩
theorem iteF{A B:Prop}(h:B):if false=true then A else B:=by
 rw[FS Zzd];exact h
theorem iteT{A B:Prop}(h:A):if true=true then A else B:=by
 rw[FT rfl];exact h
theorem Du{c A B:Prop}[Decidable c](h1:c->A)(h2:¬ c->B):if c then A else B:=by
 by_cases h:c
 ·rw[FT h];exact h1 h
 ·rw[FS h];exact h2 h
theorem A1p{c A B:Prop}[Decidable c](hc:c)(h:B):if (!decide c)=true then A else B:=by
 rw[FQ hc];exact iteF h
def AA(H H':Hp):Prop:=∀b o,H b=some o->H' b=some o
theorem AA.refl(H:Hp):AA H H:=λ_ _ h=>h
theorem AA.trans(a:AA H H1)(b:AA H1 H2):AA H H2:=λc o h=>b c o (a c o h)
theorem AA.free(e:AA H H'){l:Addr}(h:H' l=Option.none):H l=Option.none:=by
 cases q:H l with
 |none=>rfl
 |some o =>
  rw[e l o q] at h;cases h
theorem AA.seq(e:AA H H')(h:SqL K H a xs):SqL K H' a xs:=by
 rcases h with (h | ⟨o,h⟩) | h
 ·exact .inl (.inl (e _ _ h))
 ·exact .inl (.inr ⟨o,e _ _ h⟩)
 ·exact .inr h
section
variable {κ:Type}[DecidableEq κ]
theorem uw{kvs:List (κ×V)}{k:κ}(h:C4 kvs k=some v):k∈kvs.map (·.1):=by
 have q:(kvs.any λkv=>decide (kv.1=k))=true:=by
  rw[G1,h];all_goals rfl
 obtain⟨p,hp,e⟩:=List.any_eq_true.mp q;exact Zzo.mpr ⟨p,hp,FP e⟩
end
theorem T9:∀(names:List (Str×NameKind)) (acc:List (Str×Addr)),(∀y∈names,y.2=.free->∃c,env.cells.lookup y.1=some c)->(∀x c,acc.lookup x=some c->env.cells.lookup x=some c) ->
  ∃cl,(forIn names acc (λx r=>if (x.2 == Zyx)=true then do let c <- cellOf env x.1;pure (ForInStep.yield ((x.1,c)::r)) else pure (ForInStep.yield r)):Sem _)=pure cl /\
   (∀x c,cl.lookup x=some c->env.cells.lookup x=some c)/\(∀x,((x,Zyx)∈names\/∃c,acc.lookup x=some c)->∃c,cl.lookup x=some c):=by
 intro names;induction names with
 |nil=>intro acc h ha;exact⟨acc,rfl,ha,λx hx=>by simpa using hx⟩
 |cons y r ih =>
  intro acc h ha;obtain⟨n,k⟩:=y;have hr:∀y∈r,y.2=.free->∃c,env.cells.lookup y.1=some c:=λy hy=>h y (Zzl _ hy);rw[Zuu];by_cases hk:k=.free
  ·subst hk;obtain⟨c,hc⟩:=h (n,.free) Zzj rfl;have e:cellOf env n=pure c:=by unfold cellOf;rw[hc]
   obtain⟨cl,e1,a,b⟩:=ih ((n,c)::acc) hr (λx c' hx=>by
    rw[Zy4] at hx
    cases hxn:x == n with
    |true =>
     rw[hxn] at hx
     cases hx
     rw[eq_of_beq hxn]
     exact hc
    |false =>
     rw[hxn] at hx
     exact ha x c' hx)
   refine⟨cl,?_,a,λx hx=>b x ?_⟩
   ·rw[<- e1];show (if (Zyx == Zyx)=true then (cellOf env n >>= _) else _) >>= _=_;rw[FT (show (Zyx == Zyx)=true from rfl),e];rfl
   ·rcases hx with hx | ⟨c',hx⟩
    ·rcases Zzu.mp hx with e2 | hx
     ·have e3:x=n:=congrArg Prod.fst e2
      exact .inr ⟨c,by rw[Zy4,e3];simp⟩
     ·exact .inl hx
    ·refine .inr ?_;rw[Zy4];cases x == n with
     |true=>exact⟨c,rfl⟩
     |false=>exact⟨c',hx⟩
  ·obtain⟨cl,e1,a,b⟩:=ih acc hr ha;refine⟨cl,?_,a,λx hx=>b x ?_⟩
   ·rw[<- e1];have hb:(k == Zyx)=false:=by simpa using hk
    show (if (k == Zyx)=true then _ else _) >>= _=_;rw[FS (by rw[hb];simp)];rfl
   ·rcases hx with hx | hx
    ·rcases Zzu.mp hx with e2 | hx
     ·exact absurd (congrArg Prod.snd e2).symm hk
     ·exact .inl hx
    ·exact .inr hx
theorem Dy(h:∀y∈scope.names,y.2=.free->∃c,env.cells.lookup y.1=some c) :
  ∃cl,closureFor scope env=pure cl/\(∀x c,cl.lookup x=some c->env.cells.lookup x=some c)/\(∀x,(x,Zyx)∈scope.names->∃c,cl.lookup x=some c):=by
 obtain⟨cl,e,a,b⟩:=T9 scope.names [] h (by intro x c e;cases e);refine⟨cl,?_,a,λx hx=>b x (.inl hx)⟩;unfold closureFor;exact congrArg (λm=>m >>= λx=>pure x) e
def cpN(N own:List Str)(cap:List Nat):List Str:=own++cap.map λj=>N.getD j ""
def E6(own:List Str)(cap:List Nat)(Z:St):St:=own.map (λ_=>none)++cap.map λj=>Z.getD j none
structure G0(N:List Str)(osc sc:Scope)(own:List Str)(cap:List Nat):Prop where
 kind:sc.kind=.function
 names:∀x∈sc.names,x.2=.local->sc.names.lookup x.1=some .local
 nocell:∀y∈sc.names,y.2≠.cell
 free:∀y∈sc.names,y.2=.free->osc.names.lookup y.1=some .cell\/osc.names.lookup y.1=some .free
 cap:∀j∈cap,j<N.length/\sc.names.lookup (N.getD j "")=some .free
def AD(X:Cx)(sc:Scope)(own:List Str)(cap:List Nat)(cl:List (Str×Addr))(C:Addr)(s:Shared)(H:Hp)(fp:List Addr)(pins:List (Addr×Obj)):Cx :=
 {X with N:=cpN X.N own cap,s₀:=s,H₀:=H,env:=compEnvC sc cl C X.env,outer:=X.stack,ex:=fp,fn:=λ_=>false,pn:=X.pn++pins,xe:=λ_ _=>False}
def PTs(X:Cx)(ifs:List Expr)(tt:TT):Prop :=
 ∀(pins:List (Addr×Obj)) (s:Shared) (Z:St) (H:Hp) (Q:Bool->Hp->Prop),Inv X pins Z H s->tt Z H Q ->
  wpAny (model X.prog X.w) X.A (forIn ifs true λc r=>if r=true then do let ok <- isTrue c X.env (eval c X.env);pure (ForInStep.yield ok) else pure (ForInStep.yield r)) (TP X pins Z Q) X.xe s
def EF:TT:=λ_ H Q=>Q true H
theorem Ba:PTs X [] EF:=λ_ _ _ H _ I h=>wpAny_tests_nil ⟨H,I,h⟩
theorem Mh{c:Expr}(h:PT X c tt):PTs X [c] tt:=λpins s Z H Q I hq=>wpAny_tests_one (h pins s Z H Q I hq)
def Wj(n:Nat)(g:TG):Prop:=∀v Z H Q,g v Z H Q->g v Z H λZ' H'=>(Z'.length=Z.length/\∀j,n<=j->Z'[j]?=Z[j]?)/\Q Z' H'
theorem At(h:i<n):Wj n (Eh i):=λv Z H Q q=>⟨⟨by simp,λj hj=>by rw[Zxt (by lia)]⟩,q⟩
def X5(own:List Str)(cap:List Nat)(wi:TI)(g:TG)(tt:TT)(te:TE):TE:=λZ H Q=>wi Z H λJ H1=>∃W:Nat->Nat->List V->Hp->Prop,(∃m,W 0 m [] H1)/\∀i m acc H,W i m acc H->acc.length<=sizeLine /\
 ((J.stop i H/\∀p,H p=none->Q (.ref p) (upd H p (.lst acc))) \/
  (J.go i H/\acc.length<sizeLine/\∃N:List V->Hp->Prop,(∀acc' H',N acc' H'->∃m',m'<m/\W (i+1) m' acc' H')/\∀x H',J.yld i H x H'->g x (E6 own cap Z) H' λσ2 H2=>tt σ2 H2 λb H3=>if b=true then te σ2 H3 λy H4=>N (acc++[y]) H4 else N acc H3))
theorem Gk{target:Expr}{it acc:Value}(I:Nat->Shared->Prop)
  (turn:∀n s,I n s->wpAny (model prog w) A (pyNext it) (λr s₁=>match r with
   |none=>R (.ok .next) s₁
   |some v=>wpAny (model prog w) A (letOwnedTupleGo target it v) (λ_ s₁'=>wpAny (model prog w) A (assign target env v) (λ_ s₂ =>
     wpAny (model prog w) A (forIn ifs true λc r=>if r=true then do let ok <- isTrue c env (eval c env);pure (ForInStep.yield ok) else pure (ForInStep.yield r)) (λok s₃ =>
      if ok=true then wpAny (model prog w) A (eval elt env) (λx s₄ =>
       wpAny (model prog w) A (call (.builtin "list.append") [acc,x]) (λ_ s₅=>∃m,m<n/\I m s₅) (λ_ _=>False) s₄) (λ_ _=>False) s₃
      else ∃m,m<n/\I m s₃) (λ_ _=>False) s₂) (λ_ _=>False) s₁') (λ_ _=>False) s₁) (λ_ _=>False) s)
  (n:Nat) (h:I n s) :
  codeAny (model prog w) A (.compLoop (.ListComp elt [⟨target,iter,ifs,0⟩] scope pos) 0 it acc env) R s:=by
 refine codeAny_loop rfl I (λn s hI=>?_) n h;show wpAny _ A ((compTurn (.ListComp elt [⟨target,iter,ifs,0⟩] scope pos) 0 it acc env).onRaise (λx=>do noteFrame x env;theTreesLotGoes x)) _ _ s;refine wpAny_noted ?_;rw[compTurn_list];refine FU (wpAny_standAt (FU (wpAny_mono (turn n s hI) (λr s₁ h₁=>?_) λ_ _ h'=>h'.elim)));cases r with
 |none=>exact FV h₁
 |some v =>
  refine FU (wpAny_mono h₁ (λ_ s₁' h₁'=>?_) λ_ _ h'=>h'.elim);refine FU (wpAny_mono h₁' (λ_ s₂ h₂=>FU (wpAny_mono h₂ (λok s₃ h₃=>?_) λ_ _ h'=>h'.elim)) λ_ _ h'=>h'.elim);cases ok with
  |false=>exact FV ⟨rfl,h₃⟩
  |true =>
   exact FU (FU (wpAny_mono h₃ (λx s₄ h₄=>FU (wpAny_mono h₄ (λ_ s₅ h₅=>FV (FV ⟨rfl,h₅⟩)) λ_ _ h'=>h'.elim)) λ_ _ h'=>h'.elim))
theorem Kz(h:(E6 own cap Z)[i]?=some (some v)):own.length<=i/\∃j,cap[i - own.length]?=some j/\Z[j]?=some (some v):=by
 unfold E6 at h;by_cases hi:i<own.length
 ·rw[Zy0 (by simpa using hi),Zzw] at h;cases e:own[i]? with
  |none=>rw[e] at h;cases h
  |some a=>rw[e] at h;cases h
 ·have hi':own.length<=i:=by lia
  rw[Zyi (by simpa using hi'),Zzz,Zzw] at h;refine⟨hi',?_⟩;cases e:cap[i - own.length]? with
  |none=>rw[e] at h;cases h
  |some j =>
   rw[e] at h;have h2:Z.getD j none=some v:=Zzm h;refine⟨j,rfl,?_⟩;rw[Zz8] at h2;cases e2:Z[j]? with
   |none=>rw[e2] at h2;cases h2
   |some o=>rw[e2] at h2;simp at h2;rw[h2]
theorem Ke{env:Env}{x:Str}{k:NameKind}:∀{names:List (Str×NameKind)},names.lookup x=some k ->
  (names.map λ(n,k)=>if (k == Zyx&&env.scope.kind == .function&&env.kindOf n == some .cell) then (n,Zvv) else (n,k)).lookup x=some (if (k == Zyx&&env.scope.kind == .function&&env.kindOf x == some .cell)=true then .cell else k)
 |[],h=>by simp at h
 | (n,k')::r,h=>by
  have ih:=@Ke env x k r;show Zx7 x ((if (k' == Zyx&&env.scope.kind == .function&&env.kindOf n == some .cell)=true then (n,Zvv) else (n,k'))::_)=_;cases hx:x == n with
  |true =>
   simp only[Zy4,hx] at h;cases h;have e:=eq_of_beq hx;subst e;by_cases hc:(k == Zyx&&env.scope.kind == .function&&env.kindOf x == some .cell)=true
   ·rw[FT hc,FT hc];simp[Zy4]
   ·rw[FS hc,FS hc];simp[Zy4]
  |false =>
   simp only[Zy4,hx] at h;by_cases hc:(k' == Zyx&&env.scope.kind == .function&&env.kindOf n == some .cell)=true
   ·rw[FT hc];simp only[Zy4,hx];exact ih h
   ·rw[FS hc];simp only[Zy4,hx];exact ih h
theorem Gi{env:Env}{x:Str}:∀{names:List (Str×NameKind)},(∀y∈names,y.2≠.cell) ->
  ((names.map λ(n,k)=>if (k == Zyx&&env.scope.kind == .function&&env.kindOf n == some .cell) then (n,Zvv) else (n,k)).lookup x=some .cell \/
   (names.map λ(n,k)=>if (k == Zyx&&env.scope.kind == .function&&env.kindOf n == some .cell) then (n,Zvv) else (n,k)).lookup x=some .free)->(x,Zyx)∈names
 |[],_,h=>by simp at h
 | (n,k')::r,hn,h=>by
  have ih:=@Gi env x r λy hy=>hn y (Zzl _ hy);have hk':k'≠.cell:=hn (n,k') Zzj;have h:Zx7 x ((if (k' == Zyx&&env.scope.kind == .function&&env.kindOf n == some .cell)=true then (n,Zvv) else (n,k'))::_)=some .cell \/
   Zx7 x ((if (k' == Zyx&&env.scope.kind == .function&&env.kindOf n == some .cell)=true then (n,Zvv) else (n,k'))::_)=some .free:=h
  cases hx:x == n with
  |true =>
   have e:=eq_of_beq hx;subst e;by_cases hc:(k' == Zyx&&env.scope.kind == .function&&env.kindOf x == some .cell)=true
   ·have:k'=.free:=by
     rw[Zyy,Zyy] at hc;exact eq_of_beq hc.1.1
    rw[this];exact Zzj
   ·rw[FS hc] at h;simp[Zy4] at h;rcases h with h | h
    ·exact absurd h hk'
    ·rw[h];exact Zzj
  |false =>
   by_cases hc:(k' == Zyx&&env.scope.kind == .function&&env.kindOf n == some .cell)=true
   ·rw[FT hc] at h;simp only[Zy4,hx] at h;exact Zzl _ (ih h)
   ·rw[FS hc] at h;simp only[Zy4,hx] at h;exact Zzl _ (ih h)
theorem Av{b:Addr}(h1:a<n)(h2:n<=b):a≠b:=Zyv (Zze h1 h2)
theorem rn(S:G0 X.N X.env.scope sc own cap)(cl1:∀x c,cl.lookup x=some c->X.env.cells.lookup x=some c)(cl2:∀x,(x,Zyx)∈sc.names->∃c,cl.lookup x=some c)
  (I:Inv X pins Z H s) (f:∀b∈fp,Ge X pins H b) (live:∀b∈fp,b<s.heap.objs.size) (hC:s.heap.objs.size<=C):(AD X sc own cap cl C s H fp pins).Ok where
 mod:=I.ok.mod
 kind:=S.kind
 glob:=I.ok.glob
 blt:=I.ok.blt
 above:=hC
 inj:=λx y c h1 h2=>I.ok.inj x y c (cl1 x c h1) (cl1 y c h2)
 has:=λx hx=>cl2 x (Gi S.nocell hx)
 cab:=λx c h=>by cases h
 hd:=I.ok.hd
 frames:=I.ok.frames
 stk:=.inl rfl
 exf:=λb hb=>⟨λz=>Av (live b hb) hC z,λx c e=>(f b hb).2.2.2.2.1 x c (cl1 x c e)⟩
 bs:=I.bs
 bsz:=Zzk I.ok.bsz I.sz
 noex:=λb o e hb=>by
  rcases(f b hb).2.2.2.1 with z | z
  ·exact I.ok.noex b o e z
  ·exact Av (Zze (Zzn e) I.ok.bsz) z rfl
 exfs:=λb hb z=>by
  rcases Zzu.mp (I.stkSub b z) with q | q
  ·exact(f b hb).2.1 q
  ·exact(f b hb).2.2.1 q
 funs:=I.stack;frf:=I.stkFree
theorem ai(S:G0 X.N X.env.scope sc own cap)(cl1:∀x c,cl.lookup x=some c->X.env.cells.lookup x=some c)(cl2:∀x,(x,Zyx)∈sc.names->∃c,cl.lookup x=some c)
  (I:Inv X pins Z H s) (ok:(AD X sc own cap cl C s H fp pins).Ok) (hC:s.heap.objs.size<=C) {h₁:Heap} {tk:Nat} {m:Str->Option Value} (hns:h₁.Ns C m) (old:∀b o,s.heap.get? b=some o->h₁.get? b=some o) :
  Inv (AD X sc own cap cl C s H fp pins) [] (E6 own cap Z) H {s with heap:=h₁,toks:=tk}:=by
 have Dv:∀x c v,X.env.cells.lookup x=some c->s.heap.IsCell c v->h₁.IsCell c v:=λx c v _ z=>by
  obtain⟨o,ho,hd⟩:=z;exact⟨o,old c o ho,hd⟩
 refine⟨ok,rfl,I.bare,Un.kept old,⟨m,hns,λi x v e1 e2 e3=>?_⟩,λx c e=>?_,I.hok.fresh hC,λx c e=>I.freeC x c (cl1 x c e),λp hp=>?_,I.hok.kept old,?_⟩
 ·have e1:(cpN X.N own cap)[i]?=some x:=e1
  obtain⟨hi,j,hj,hσ⟩:=Kz e2;unfold cpN at e1;rw[Zyi hi,Zzw,hj] at e1;have e1:X.N.getD j "" = x:=Zzm e1;obtain⟨hjl,hfr⟩:=S.cap j (Zzt hj);have hx:X.N[j]?=some x:=by rw[<- e1,Zz8];simp[hjl]
  rw[e1] at hfr;have hfree:=S.free (x,.free) (Zxe hfr) rfl;obtain⟨m0,_,hl⟩:=I.loc;obtain⟨u,r,l⟩:=hl j x v hx hσ (.inr hfree);refine⟨u,r,?_⟩;rcases l with ⟨k,_⟩ | ⟨k,c,hc,z⟩
  ·have k:X.env.scope.names.lookup x=some .local:=k
   rcases hfree with q | q<;>(rw[q] at k;cases k)
  ·obtain⟨c',hc'⟩:=cl2 x (Zxe hfr);have e4:=cl1 x c' hc';rw[hc] at e4;cases e4;refine .inr ⟨?_,c,hc',Dv x c _ hc z⟩;have q:=Ke (env:=X.env) hfr;show (relabel sc X.env).names.lookup x=some .cell\/(relabel sc X.env).names.lookup x=some .free;have q':(relabel sc X.env).names.lookup x=some (if (Zyx == Zyx&&X.env.scope.kind == .function&&X.env.kindOf x == some .cell)=true then .cell else .free):=q;rw[q'];split
   ·exact .inl rfl
   ·exact .inr rfl
 ·obtain⟨v,z⟩:=I.cell x c (cl1 x c e);exact⟨v,Dv x c v (cl1 x c e) z⟩
 ·have hp:p∈(X.pn++pins)++[]:=hp
  rw[Zyw] at hp;obtain⟨e,n,ne,nf,d⟩:=I.pin p hp;refine⟨old _ _ e,n,λz=>?_,λz=>?_,d⟩
  ·exact Av (Zzn e) hC z
  ·rcases Zzu.mp (I.stkSub p.1 z) with q | q
   ·exact ne q
   ·exact nf q
 ·show (E6 own cap Z).length=(cpN X.N own cap).length
  unfold E6 cpN;simp
theorem Wa(I:Inv X pins Z H s)(f:∀b∈fp,Ge X pins H b)(hC:s.heap.objs.size<=C){D:Addr}(hD:s.heap.objs.size<=D)(hDC:D≠C){Z':St}{acc:List V}{nn:Nat}
  (J:Inv (AD X sc own cap cl C s H fp pins) pl Z' H' s') (hDn:H' D=none) (hDo:s'.heap.get? D=some {cls:=.type "list",data:=.seq its.toArray nn}) (hv:AB acc its) (hz:acc.length<=sizeLine) :
  Inv X pins Z (upd H' D (.lst acc)) s'/\(∃m,s'.heap.Ns C m)/\Ge X pins (upd H' D (.lst acc)) C:=by
 have u:Un (frs X.stack) fp H H' s.heap s'.heap:=J.base;have lt:∀b o,s.heap.get? b=some o->b≠D:=λb o e z=>Av (Zzn e) hD z;have trk:∀b o,H b=some o->b≠D:=λb o e z=>Av (I.hok.lt e) hD z;have CH:H' C=none:=J.free;refine⟨I.call' (ch:=fp) J.os ⟨u.keep,u.slot,λb o e n hx=>by rw[Ab (lt b o e)];exact u.free b o e n hx,u.there,λb xs e=>by rw[Ab (trk b _ e)];exact u.tups b xs e,λb o xs e=>by rw[Ab (trk b _ e)];exact u.frzs b o xs e,λb ps e=>by rw[Ab (trk b _ e)];exact u.tbls b ps e⟩ (λb o e=>?_) J.bare λb hb=>?_,?_,?_⟩
 ·by_cases hb:b=D
  ·subst hb;rw[A1] at e;cases e;exact⟨hz,its,nn,hv,hDo⟩
  ·rw[Ab hb] at e;refine(J.hok b o e).stay (λc v _ q=>q) (λc q=>?_) λc xs q=>?_
   ·rw[Ab (A9 q hDn)];exact q
   ·rw[Ab (A9 q hDn)];exact q
 ·obtain⟨f0,f1,f2,f3,f4,f5⟩:=f b hb;exact⟨f3,f1,f4,f5⟩
 ·obtain⟨m,hn,_⟩:=J.loc;exact⟨m,hn⟩
 ·refine I.fpOk hC ?_;rw[Ab (Zza hDC)];exact CH
theorem S9
  {it:Addr} {tn:Nat->Heap->Prop} {J:It} {Q:VK} {RR:Value->Addr->Result->Shared->Prop}
  (hc:X.calm=true) (S:G0 X.N X.env.scope sc own cap) (hown:Wj own.length g)
  (cl1:∀x c,cl.lookup x=some c->X.env.cells.lookup x=some c) (cl2:∀x,(x,Zyx)∈sc.names->∃c,cl.lookup x=some c)
  (hb:∀cl C s H fp pins,PG (AD X sc own cap cl C s H fp pins) tg g/\PTs (AD X sc own cap cl C s H fp pins) ifs tt/\PE (AD X sc own cap cl C s H fp pins) elt te)
  (I:Inv X pins Z H s) (T:O3 X.prog X.w X.K tg J fp it tn) (st:tn 0 s.heap) (f:∀b∈fp,Ge X pins H b)
  (W:Nat->Nat->List V->Hp->Prop) (w0:∃m,W 0 m [] H)
  (turn:∀i m acc H,W i m acc H->acc.length<=sizeLine/\((J.stop i H/\∀p,H p=none->Q (.ref p) (upd H p (.lst acc)))\/(J.go i H/\acc.length<sizeLine/\∃N:List V->Hp->Prop,(∀acc' H',N acc' H'->∃m',m'<m/\W (i+1) m' acc' H')/\∀x H',J.yld i H x H'->g x (E6 own cap Z) H' λσ2 H2=>tt σ2 H2 λb H3=>if b=true then te σ2 H3 λy H4=>N (acc++[y]) H4 else N acc H3)))
  (hRR:∀D C H' s',Inv X pins Z H' s'->(∃m,s'.heap.Ns C m)->Ge X pins H' C->Q (.ref D) H'->RR (.ref D) C (.ok .next) s') :
  wpAny (model X.prog X.w) X.A (newList []) (λacc s₃=>wpAny (model X.prog X.w) X.A (newFunctionEnv sc X.env.globals cl [] X.env.qual none .none (some X.env)) (λcenv s₄ =>
   codeAny (model X.prog X.w) X.A (.compStart (.ListComp elt [⟨tg,iter,ifs,0⟩] sc pos) 0 (.ref it) acc {cenv with scope:=relabel sc X.env}) (RR acc cenv.locals) s₄) E s₃) E s:=by
 refine wpAny_newObj_type (wpAny_newFunctionEnv S.nocell (by intro y hy;simp at hy) (λh₁ hns₁ hsb₁=>?_) S.kind);dsimp only at hns₁ hsb₁ ⊢;generalize hH2:s.heap.push {cls:=.type "list",dict:=none,data:=.seq ([]:List Value).toArray}=H2 at hns₁ hsb₁ ⊢;have hCs:H2.objs.size=s.heap.objs.size+1:=by rw[<- hH2,Zy2]
 have hDC:s.heap.objs.size≠H2.objs.size:=by lia
 have hCle:s.heap.objs.size<=H2.objs.size:=by lia
 have old:∀b o,s.heap.get? b=some o->h₁.get? b=some o:=λb o e=>by
  exact hsb₁.extBut b o (Av (Zzn e) hCle) (Zzv _ (hH2▸Zzv _ e))
 have hacc:h₁.get? s.heap.objs.size=some {cls:=.type "list",data:=.seq ([]:List Value).toArray 0}:=hsb₁.extBut _ _ hDC (Zzv _ (hH2▸Zzh _ rfl));have live:∀b∈fp,b<s.heap.objs.size:=λb hb=>by
  obtain⟨o,e,_⟩:=T.obj _ _ st b hb;exact Zzn e
 have ok:=rn (C:=H2.objs.size) S cl1 cl2 I f live hCle;have hDst:s.heap.objs.size∉frs X.stack:=λz=>by
  rcases Zzu.mp (I.stkSub _ z) with q | q
  ·exact Av I.lt (Zzx _) q.symm
  ·exact I.nofs (Zzx _) q
 have fpX:∀(H':Hp) (pl:List (Addr×Obj)),(∀b∈fp,H' b=none)->(∀p∈pl,∀b∈fp,p.1≠b)->∀b∈fp,Ge (AD X sc own cap cl H2.objs.size s H fp pins) pl H' b:=λH' pl hn hp b hb=>by
  obtain⟨f0,f1,f2,f3,f4,f5⟩:=f b hb;refine⟨hn b hb,λz=>?_,λz=>?_,.inl hb,λx c e=>f4 x c (cl1 x c e),λp hpp=>?_⟩
  ·exact Av (live b hb) hCle z
  ·rcases Zzu.mp (I.stkSub b z) with q | q
   ·exact f1 q
   ·exact f2 q
  ·rcases Zz2.mp hpp with q | q
   ·exact f5 p q
   ·exact hp p q b hb
 have loop:∀s₃:Shared,s₃={s with heap:=h₁,toks:=s.toks+([]:List (Str×Value)).length} ->
   codeAny (model X.prog X.w) X.A (.compLoop (.ListComp elt [⟨tg,iter,ifs,0⟩] sc pos) 0 (.ref it) (.ref s.heap.objs.size) (compEnvC sc cl H2.objs.size X.env))
    (RR (.ref s.heap.objs.size) H2.objs.size) s₃:=by
  rintro s₃ rfl;obtain⟨m0,w0⟩:=w0;obtain⟨hg,ht,he⟩:=hb cl H2.objs.size s H fp pins;have I0:Inv (AD X sc own cap cl H2.objs.size s H fp pins) [] (E6 own cap Z) H {s with heap:=h₁,toks:=s.toks+([]:List (Str×Value)).length}:=ai S cl1 cl2 I ok hCle hns₁ old;refine Gk (λn s'=>∃i acc its nn H',Inv (AD X sc own cap cl H2.objs.size s H fp pins) [] (E6 own cap Z) H' s'/\tn i s'.heap/\(∀b∈fp,H' b=none) /\
   s'.heap.get? s.heap.objs.size=some {cls:=.type "list",data:=.seq its.toArray nn}/\AB acc its/\H' s.heap.objs.size=none/\W i n acc H') ?_ m0
   ⟨0,[],[],0,H,I0,T.keep _ _ _ st (λb _ o e=>old b o e),λb hb=>(f b hb).1,hacc,.nil,I.hok.fresh (Zzx _),w0⟩
  rintro n s3 ⟨i,acc,its,nn,H3,I3,st3,fr3,hD3,rv3,hDn,w3⟩;obtain⟨hz,hcase⟩:=turn i n acc H3 w3;have hpl:∀p∈[((s.heap.objs.size:Addr),({cls:=.type "list",data:=.seq its.toArray nn}:Obj))],∀b∈fp,p.1≠b:=λp hp b hb z=>by
   have e:p=_:=Zzr.mp hp;rw[e] at z;exact Av (live b hb) (Zzx _) z.symm
  have I3':Inv (AD X sc own cap cl H2.objs.size s H fp pins) [((s.heap.objs.size:Addr),({cls:=.type "list",data:=.seq its.toArray nn}:Obj))] (E6 own cap Z) H3 s3:=I3.pins_of λp hp=>by
   have e:p=_:=Zzr.mp hp;subst e;exact⟨hD3,hDn,hDC,hDst,λv z=>by cases z⟩
  rcases hcase with ⟨stop,fin⟩ | ⟨go,hlt,N,hN,step⟩
  ·refine thn (T.done (AD X sc own cap cl H2.objs.size s H fp pins) rfl rfl rfl hc i _ s3 _ H3 _ I3' (fpX H3 _ fr3 hpl) st3 stop) λr s4 z0=>?_;obtain⟨hr,I4⟩:=z0;subst hr;have hD4:=(I4.pin (_,_) (Zzg _ (Zzr.mpr rfl))).1;obtain⟨J1,J2,J3⟩:=Wa I f hCle (Zzx _) hDC I4 hDn hD4 rv3 hz;exact hRR _ _ _ _ J1 J2 J3 (fin _ hDn)
  ·refine thn (T.item (AD X sc own cap cl H2.objs.size s H fp pins) rfl rfl rfl hc i _ s3 _ H3 _ I3' (fpX H3 _ fr3 hpl) st3 go) λr s4 z0=>?_;obtain⟨u,hr,h4⟩:=z0;subst hr;refine thn h4 λ_ s5 z0=>?_;obtain⟨x,H5,I5,r5,y5,st5,fr5⟩:=z0;have I5':=I5.pinned (fpX H5 _ fr5 hpl) (T.obj _ _ st5);refine thn (hg _ s5 _ H5 x u _ I5' r5 (hown _ _ _ _ (step x H5 y5))) λ_ s6 z0=>?_;obtain⟨σ6,H6,I6,⟨hx1,hx2⟩,q6⟩:=z0;refine thn (ht _ s6 σ6 H6 _ I6 q6) λb s7 z0=>?_;obtain⟨H7,I7,q7⟩:=z0;have wk:∀{H7:Hp} {s7:Shared} {pl:List (Addr×Obj)},Inv (AD X sc own cap cl H2.objs.size s H fp pins) pl σ6 H7 s7->Inv (AD X sc own cap cl H2.objs.size s H fp pins) pl (E6 own cap Z) H7 s7:=λI=>I.weak hx1.symm λj v e=>by
    rw[hx2 j (Kz e).1];exact e
   have stay:∀{H7:Hp} {s7:Shared} {σ7:St},Inv (AD X sc own cap cl H2.objs.size s H fp pins) ([((s.heap.objs.size:Addr),({cls:=.type "list",data:=.seq its.toArray nn}:Obj))]++Im fp s5.heap) σ7 H7 s7 ->
     tn (i+1) s7.heap/\(∀b∈fp,H7 b=none)/\s7.heap.get? s.heap.objs.size=some {cls:=.type "list",data:=.seq its.toArray nn}/\H7 s.heap.objs.size=none:=λ{H7 s7 σ7} I7=>by
    refine⟨T.keep _ _ _ st5 λb hb o e=>(I7.pin (b,o) (Zzg _ (Zzg _ (Db hb e)))).1,λb hb=>?_,?_,?_⟩
    ·obtain⟨o,e,d⟩:=T.obj _ _ st5 b hb;exact(I7.pin (b,o) (Zzg _ (Zzg _ (Db hb e)))).2.1
    ·exact(I7.pin (_,_) (Zzg _ (Zyk _ (Zzr.mpr rfl)))).1
    ·exact(I7.pin (_,_) (Zzg _ (Zyk _ (Zzr.mpr rfl)))).2.1
   cases b with
   |false =>
    rw[FS Zzd] at q7 ⊢;obtain⟨m',hm,w7⟩:=hN _ _ q7;obtain⟨a1,a2,a3,a4⟩:=stay I7;exact⟨m',hm,i+1,acc,its,nn,H7,(wk I7).pins_of (λp hp=>absurd hp (by simp)),a1,a2,a3,rv3,a4,w7⟩
   |true =>
    rw[FT rfl] at q7 ⊢;refine thn (he _ s7 σ6 H7 _ I7 q7) λy s8 z0=>?_;obtain⟨v,H8,I8,r8,n8⟩:=z0;obtain⟨m',hm,w8⟩:=hN _ _ n8;obtain⟨a1,a2,a3,a4⟩:=stay I8;have hlen:=rv3.length;refine call_meets F.slot_list_append ⟨_,a3,rfl⟩ F.entry_list_append (F.args_list_append_2 _ _) (Zv6 s.heap.objs.size its.toArray nn y (by rw[Zzs];lia)) ⟨a3,?_⟩;obtain⟨n',q⟩:∃n',(s8.heap.update s.heap.objs.size (Obj.mapSeq (·.push y))).get? s.heap.objs.size=some {cls:=.type "list",data:=.seq (its++[y]).toArray n'}:=by
     have q:=Zv0 a3 (·.push y);have e:(its.toArray.push y)=(its++[y]).toArray:=by simp
     rw[<- e];exact⟨_,q⟩
    have I9:=(wk I8).pins_of (pins':=Im fp s5.heap) λp hp=>(wk I8).pin p (Zzg _ (Zzg _ hp));have kk:∀b o,b≠s.heap.objs.size->s8.heap.get? b=some o->(s8.heap.update s.heap.objs.size (Obj.mapSeq (·.push y))).get? b=some o:=λb o hb e=>(Zyt s8.heap (Obj.mapSeq (·.push y)) (Zza hb)).trans e;refine⟨m',hm,i+1,acc++[v],its++[y],n',H8,(I9.pins_of (pins':=[]) λp hp=>absurd hp (by simp)).turned (it:=s.heap.objs.size) kk a4 hDC (.inr (Zzx _)) (λx c e z=>?_) (λp hp z=>?_),T.keep _ _ _ a1 λb hb o e=>kk b o (λz=>?_) e,a2,q,rv3.append (.cons r8 .nil),a4,w8⟩
    ·have e:=cl1 x c e
     obtain⟨w',o,ho,_⟩:=I.cell x c e;exact Av (Zzn ho) (Zzx _) z
    ·have hp:p∈(X.pn++pins)++[]:=hp
     rw[Zyw] at hp;exact Av (Zzn (I.pin p hp).1) (Zzx _) z
    ·exact Av (live b hb) (Zzx _) z
 exact codeAny_compStart_list (loop _ rfl) (T.self _ 0 _ _ _ (T.keep _ _ _ st λb _ o e=>old b o e) (loop _ rfl))
theorem Bi{wi:TI}(hc:X.calm=true)(S:G0 X.N X.env.scope sc own cap)(hown:Wj own.length g)(hi:PI X tg iter wi)
  (hb:∀cl C s H fp pins,PG (AD X sc own cap cl C s H fp pins) tg g/\PTs (AD X sc own cap cl C s H fp pins) ifs tt/\PE (AD X sc own cap cl C s H fp pins) elt te)
  (hs:∀x,foldedSetIterable iter X.env x=pure x:=by intro _;rfl):PE X (.ListComp elt [⟨tg,iter,ifs,0⟩] sc pos) (X5 own cap wi g tt te):=by
 intro pins s Z H Q I h;obtain⟨cl,hcl,cl1,cl2⟩:=Dy (env:=X.env) (scope:=sc) λy hy hf=>I.ok.has y.1 (S.free y hy hf);rw[eval_ListComp];refine wpAny_comprehension_free (use:=none) rfl hs hcl S.kind S.names (thn (hi pins s Z H _ I h) λxv s1 h1=>thn h1 λitv s2 h2=>?_);obtain⟨it,fp,tn,J,H2,e,I2,T,st2,f2,W,w0,turn⟩:=h2;subst e;refine S9 (RR:=λacc C=>compPost (model X.prog X.w) X.A X.xe none (EP X pins Z Q) acc C) hc S hown cl1 cl2 hb I2 T st2 f2 W w0 turn ?_;intro D C H' s' J1 ⟨m,J2⟩ ⟨c0,c1,c2,c3,c4,c5⟩ q;exact⟨m,J2,λh' sb=>⟨.ref D,H',J1.turned (t':=s'.toks) (λb o hb e=>(sb.2 b hb).trans e) c0 c1 c3 c4 c5,rfl,q⟩⟩
theorem E2{spos:Pos}{wi:TI}(hc:X.calm=true)(S:G0 X.N X.env.scope sc own cap)(hown:Wj own.length g)(hN:X.N.Nodup)(hx:X.N[i]?=some x)(hl:X.env.scope.names.lookup x=some .local)(hi:PI X tg iter wi)
  (hb:∀cl C s H fp pins,PG (AD X sc own cap cl C s H fp pins) tg g/\PTs (AD X sc own cap cl C s H fp pins) ifs tt/\PE (AD X sc own cap cl C s H fp pins) elt te)
  (hsw:swapsWith (.ListComp elt [⟨tg,iter,ifs,0⟩] sc pos) (some (.Name x pos')) spos.line X.env=pure true:=by rfl)
  (hs:∀x,foldedSetIterable iter X.env x=pure x:=by intro _;rfl):PS X (.Assign [.Name x pos'] (.ListComp elt [⟨tg,iter,ifs,0⟩] sc pos) spos) (X7 (X5 own cap wi g tt te) (Eh i)):=by
 intro pins s Z H D I h;obtain⟨cl,hcl,cl1,cl2⟩:=Dy (env:=X.env) (scope:=sc) λy hy hf=>I.ok.has y.1 (S.free y hy hf);rw[exec_Assign_Name_used _ _ _ _ hsw];refine FU (wpAny_standAt (FU ?_));show wpAny _ _ (do let _ <- comprehension (.ListComp elt [⟨tg,iter,ifs,0⟩] sc pos) sc X.env _ (newList []) false (eval iter X.env) (some (assign (.Name x pos') X.env))) _ _ s;refine FU (wpAny_mono (wpAny_comprehension_free (use:=some (assign (.Name x pos') X.env)) (Q:=λ_ s'=>SP X pins D .next s') rfl hs hcl S.kind S.names (thn (hi pins s Z H _ I h) λxv s1 h1=>thn h1 λitv s2 h2=>?_)) (λ_ s' hq=>FV (FV hq)) λ_ _ e=>e);obtain⟨it,fp,tn,J,H2,e,I2,T,st2,f2,W,w0,turn⟩:=h2;subst e;refine S9 (Q:=λx H1=>Eh i x Z H1 D.nx) (RR:=λacc C=>compPost (model X.prog X.w) X.A X.xe (some (assign (.Name x pos') X.env)) (λ_ s'=>SP X pins D .next s') acc C) hc S hown cl1 cl2 hb I2 T st2 f2 W w0 turn ?_;intro L C H' s' J1 ⟨m,J2⟩ ⟨c0,c1,c2,c3,c4,c5⟩ q;show wpAny _ _ (assign (.Name x pos') X.env (.ref L)) _ _ s';refine wpAny_assign_Name (Nf (v:=.ref L) J1 hN hx (.inl hl) rfl (λs'' J3 ⟨a,sb,ha⟩=>?_) (.inr hl));have hCa:C≠a:=by
  rcases ha with z | z
  ·rw[z];exact c1
  ·exact Zza (c4 _ _ z)
 refine⟨m,J2.sameBut sb hCa,λh' sb'=>⟨_,H',J3.turned (t':=s''.toks) (λb o hb e=>(sb'.2 b hb).trans e) c0 c1 c3 c4 c5,q⟩⟩
def P4(H:Hp):V->Option String
 |.non=>some "NoneType"
 |.bl _=>some "bool"
 |.int _=>some "int"
 |.str _=>some "str"
 |.ref a=>match H a with
  |some (.lst _)=>some "list"
  |some (.tup _)=>some "tuple"
  |some (.dK _)=>some "dict"
  |_=>none
 |_=>none
def C6(t T:String):Bool:=t == T||(t == "bool" && T == "int")
theorem xb(K:Zzy){t:String}(ht:t∈["NoneType", "bool", "int", "str", "list", "tuple", "dict"])(hT:T∈["bool", "int", "str", "list", "tuple", "dict"]):PySem.W.kitOne K (.type t) (.type T)=some (C6 t T):=by
 simp only[Zzu,Zzf,or_false] at ht hT;rcases ht with rfl | rfl | rfl | rfl | rfl | rfl | rfl<;>rcases hT with rfl | rfl | rfl | rfl | rfl | rfl<;>first | rfl | decide +kernel
theorem Dh:AK X (.builtin "isinstance") (λxs H Q=>∃x T t,xs=[x,.ty T]/\P4 H x=some t/\T∈["bool", "int", "str", "list", "tuple", "dict"]/\Q (.bl (C6 t T)) H):=by
 intro pins s Z H xs us Q I r h;obtain⟨x,T,t,rfl,ht,hT,q⟩:=h;obtain⟨u,w',rfl,ru,rw'⟩:=Ti r;have rw':w'=Value.type T:=rw';subst rw';have key:∀{t':String},O2 X.K H x (.type t')->t'=t->t∈["NoneType", "bool", "int", "str", "list", "tuple", "dict"]->wpAny (model X.prog X.w) X.A (call (.builtin "isinstance") [u,.type T]) (EP X pins Z Q) X.xe s:=λ{t'} ty e hm=>by
  subst e;exact j8 I ru ty (xb X.K hm hT) λtk=>⟨.bl (C6 t' T),H,I.tok tk,rfl,q⟩
 cases x with
 |non=>cases ht;exact key .non rfl (by decide)
 |bl b=>cases ht;exact key (.bl b) rfl (by decide)
 |int i=>cases ht;exact key (.int i) rfl (by decide)
 |str z=>cases ht;exact key (.str z) rfl (by decide)
 |ref a =>
  unfold P4 at ht;simp only at ht;cases e:H a with
  |none=>rw[e] at ht;cases ht
  |some o =>
   rw[e] at ht;cases o with
   |lst xs=>cases ht;exact key (.lst e) rfl (by decide)
   |tup xs=>cases ht;exact key (.tup e) rfl (by decide)
   |dK kvs=>cases ht;exact key (.dK e) rfl (by decide)
   |_=>cases ht
 |_=>cases ht
theorem Inv.walked{o:Obj}{tk:Nat}(I:Inv X pins Z H s)(k:∀b ob,b∉[s.heap.objs.size]->(s.heap.push o).get? b=some ob->h'.get? b=some ob):Inv X pins Z H {s with heap:=h',toks:=tk} :=
 I.kept λb u e=>k b u (by
  intro z
  exact Av (Zzn e) (Zzx _) (Zzr.mp z)) (Zzv _ e)
theorem bp:∀{bs:List Bool} {us:List Value},AB (bs.map V.bl) us->us=bs.map Value.bool
 |[],_,.nil=>rfl
 |b::r,_,.cons h t=>by
  have h:_=Value.bool b:=h;rw[h,bp t];rfl
theorem Zc(bs:List Bool):((Zyo bs.length).all λi=>(bs[i]?).getD true)=bs.all id:=by
 induction bs with
 |nil=>rfl
 |cons b r ih =>
  rw[Zz3,List.range_succ_eq_map,Zwu,Zwu,Zvi];show ((b::r)[0]?.getD true&&_)=_;congr 1
theorem Bc(I:Inv X pins Z H s)(h:H a=some (.lst xs)):∃its:List Value,AB xs its/\s.heap.IsList a its.toArray/\a<s.heap.objs.size:=by
 obtain⟨hz,its,n,r,e⟩:=I.hok a _ h;exact⟨its,r,⟨_,e,rfl,n,rfl⟩,Zzn e⟩
theorem Eo(hc:X.calm=true):AK X (.builtin "all") (λxs H Q=>∃(a:Addr) (bs:List Bool),xs=[.ref a]/\H a=some (.lst (bs.map V.bl))/\Q (.bl (bs.all id)) H):=by
 intro pins s Z H xs us Q I r h;obtain⟨a,bs,rfl,ha,q⟩:=h;obtain⟨u,rfl,ru⟩:=Gf r;cases ru;obtain⟨its,rv,hl,hlt⟩:=Bc I ha;have e:=bp rv;subst e;refine call_all_walk (wpAny_pyIter_list hl ?_);refine⟨s.heap.objs.size,[s.heap.objs.size,a],[s.heap.objs.size],(bs.map Value.bool).toArray.size,_,_,λi=>(bs[i]?).getD true,rfl,Walks.list (A:=X.A.in1) (I.ok.hd hc) _ a (Zyv hlt) (bs.map Value.bool).toArray,
  ⟨⟨_,Zzh _ rfl,rfl,rfl⟩,hl.push _⟩,λi v s' Q' E' hP hQ=>?_,λh' tk hk=>?_⟩
 ·have hP:(bs.map Value.bool)[i]?=some v:=by simpa using hP
  rw[Zzw] at hP;cases e:bs[i]? with
  |none=>rw[e] at hP;cases hP
  |some b =>
   rw[e] at hP;cases hP;simp only[e,Zw0] at hQ;exact wpAny_truthy_bool hQ
 ·have e:((Zyo (bs.map Value.bool).toArray.size).all λi=>(bs[i]?).getD true)=bs.all id:=by
   rw[Zzs,Zzz];exact Zc bs
  rw[e];exact⟨.bl (bs.all id),H,I.walked hk,rfl,q⟩
theorem EW:OpR X (compareOp .Is) (λx y H Q=>∃i j,x=.bl i/\y=.bl j/\Q (.bl (i == j)) H):=by
 intro pins s Z H x y v u Q I rx ry h;obtain⟨i,j,rfl,rfl,q⟩:=h;cases rx;cases ry;exact is_bool ⟨.bl (i == j),H,I,rfl,q⟩
theorem ED:OpR X (compareOp .IsNot) (λx y H Q=>∃i j,x=.bl i/\y=.bl j/\Q (.bl (i != j)) H):=by
 intro pins s Z H x y v u Q I rx ry h;obtain⟨i,j,rfl,rfl,q⟩:=h;cases rx;cases ry;exact isnot_bool ⟨.bl (i != j),H,I,rfl,q⟩
theorem S8{x:V}:∀{xs:List V} {us:List Value},AB xs us->xs.all Gj=true->us.countP (eqU x)=xs.countP λy=>eqV y x
 |_,_,.nil,_=>rfl
 |y::xs,u::us,.cons r t,h=>by
  rw[Zwu,Zyy] at h;rw[List.countP_cons,List.countP_cons,S8 t h.2,ag r h.1]
def EX:V->List V->Hp->VK->Prop:=λx vs H Q=>∃l xs y,x=.ref l/\vs=[y]/\H l=some (.lst xs)/\Gj y=true/\xs.all Gj=true/\Q (.int (xs.countP λz=>eqV z y)) H
theorem oz:MtM X "list.count" EX:=by
 intro pins s Z H x vs v us Q I rx rv h;obtain⟨l,xs,y,rfl,rfl,hH,fy,fx,q⟩:=h;cases rx;obtain⟨u,rfl,ru⟩:=rv.one;obtain⟨z,its,n,r,hl,e⟩:=I.lstM hH;refine call_meets F.slot_list_count ⟨_,e,rfl⟩ F.entry_list_count (F.args_list_count_2 _ _) (SeqAt.list_countAt l its.toArray n none #[] u (eqU y)) ⟨e,λw hw=>G5 ru fy r fx w (by simpa using hw),?_⟩;exact⟨.int _,H,I.tok _,⟨_,by rw[<- S8 r fx]⟩,q⟩
def Its(x:Str):It:=⟨λi _=>i<x.cps.size,λi H v H'=>H'=H/\∃c,x.cps[i]?=some c/\v=.str ⟨#[c]⟩,λi _=>x.cps.size<=i⟩
theorem Wo(it:Addr)(x:Str)(t:Tok)(ty:String)(hty:ty = "str_ascii_iterator" \/ ty = "str_iterator"):O3 P w K tg (Its x) [it] it (λi h=>h.IsStrIter it ty x t i) where
 mem:=by simp
 obj:=λi h st b hb=>by
  have e:b=it:=by simpa using hb
  subst e;obtain⟨o,e,c,d⟩:=st;exact⟨o,e,λv z=>by rw[d] at z;cases z⟩
 keep:=λi h h' st k=>by obtain⟨o,ho,r⟩:=st;exact⟨o,k it (by simp) o ho,r⟩
 item:=by
  intro X hP hw hK hc i pins s Z H E I hf st hg;subst hP hw hK;obtain⟨f0,f1,f2,f3,f4,f5⟩:=hf it (by simp);have hg:i<x.cps.size:=hg;have fin:∀h',h'.IsStrIter it ty x t (i+1)->Zxd it s.heap h'->∃u,some (Value.str ⟨#[x.cps[i]]⟩ s.toks)=some u/\wpAny (model X.prog X.w) X.A (letOwnedTupleGo tg (.ref it) u) (λ_ s2=>∃x' H',Inv X pins Z H' s2/\AC x' u/\(Its x).yld i H x' H'/\s2.heap.IsStrIter it ty x t (i+1)/\∀b∈[it],H' b=none) E {s with heap:=h',toks:=s.toks+1}:=λh' st' sb=>by
   have I1:Inv X pins Z H {s with heap:=h',toks:=s.toks+1}:=I.turned (t':=s.toks+1) (λb o hb e=>(sb.2 b hb).trans e) f0 f1 f3 f4 f5;obtain⟨o,e,c,d⟩:=id st';refine⟨_,rfl,Uh (s:={s with heap:=h',toks:=s.toks+1}) e c d (by rcases hty with rfl | rfl<;>decide) ⟨.str ⟨#[x.cps[i]]⟩,H,I1,⟨_,rfl⟩,⟨rfl,_,by simp[hg],rfl⟩,st',λb hb=>(hf b hb).1⟩⟩
  rcases hty with rfl | rfl
  ·exact wpAny_pyNext_ascii_item st (c:=x.cps[i]) (by simp[hg]) fin
  ·exact wpAny_pyNext_wide_item st (c:=x.cps[i]) (by simp[hg]) fin
 done:=by
  intro X hP hw hK hc i pins s Z H E I hf st hg;subst hP hw hK;obtain⟨f0,f1,f2,f3,f4,f5⟩:=hf it (by simp);have hg:x.cps.size<=i:=hg;rcases hty with rfl | rfl
  ·exact wpAny_pyNext_ascii_end (I.ok.hd hc) st (by simp;lia) λh' eb=>⟨rfl,I.turned (t':=s.toks) (λb o hb e=>eb b o hb e) f0 f1 f3 f4 f5⟩
  ·exact wpAny_pyNext_wide_end (I.ok.hd hc) st (by simp;lia) λh' eb=>⟨rfl,I.turned (t':=s.toks) (λb o hb e=>eb b o hb e) f0 f1 f3 f4 f5⟩
 self:=λ_ _ _ _ _ st h=>by
  rcases hty with rfl | rfl
  ·exact wpAny_pyIter_striter_ascii st h
  ·exact wpAny_pyIter_striter_wide st h
theorem Tl(a it:Addr)(xs:List V):O3 P w K tg ⟨λi H=>H a=some (.lst xs)/\i<xs.length,λi H x H'=>H'=H/\xs[i]?=some x,λi H=>H a=some (.lst xs)/\xs.length<=i⟩ [it] it (λi h=>h.IsListIter it a i) where
 mem:=(Ct (P:=P) (w:=w) (K:=K) (tg:=tg) a it).mem
 obj:=(Ct (P:=P) (w:=w) (K:=K) (tg:=tg) a it).obj
 keep:=(Ct (P:=P) (w:=w) (K:=K) (tg:=tg) a it).keep
 item:=by
  intro X hP hw hK hc i pins s Z H E I hf st hg;obtain⟨h1,h2⟩:=hg;refine thn ((Ct (P:=P) (w:=w) (K:=K) (tg:=tg) a it).item X hP hw hK hc i pins s Z H E I hf st ⟨xs,xs[i],SqL.of h1,by simp[h2]⟩) λr s1 ⟨u,hr,h3⟩=>⟨u,hr,thn h3 λ_ s2 z0=>by obtain⟨x,H',I2,rx,⟨y1,y2⟩,st2,f2⟩:=z0;exact ⟨x,H',I2,rx,⟨y1,y2 xs (SqL.of h1)⟩,st2,f2⟩⟩
 done:=by
  intro X hP hw hK hc i pins s Z H E I hf st hg;obtain⟨h1,h2⟩:=hg;exact(Ct (P:=P) (w:=w) (K:=K) (tg:=tg) a it).done X hP hw hK hc i pins s Z H E I hf st ⟨xs,SqL.of h1,h2⟩
 self:=(Ct (P:=P) (w:=w) (K:=K) (tg:=tg) a it).self
theorem Tk(a it:Addr)(xs:List V):O3 P w K tg ⟨λi H=>H a=some (.tup xs)/\i<xs.length,λi H x H'=>H'=H/\xs[i]?=some x,λi H=>H a=some (.tup xs)/\xs.length<=i⟩ [it] it (λi h=>h.IsTupleIter it a i) where
 mem:=(Ev (P:=P) (w:=w) (K:=K) (tg:=tg) a it).mem
 obj:=(Ev (P:=P) (w:=w) (K:=K) (tg:=tg) a it).obj
 keep:=(Ev (P:=P) (w:=w) (K:=K) (tg:=tg) a it).keep
 item:=by
  intro X hP hw hK hc i pins s Z H E I hf st hg;obtain⟨h1,h2⟩:=hg;refine thn ((Ev (P:=P) (w:=w) (K:=K) (tg:=tg) a it).item X hP hw hK hc i pins s Z H E I hf st ⟨xs,xs[i],SqT.of h1,by simp[h2]⟩) λr s1 ⟨u,hr,h3⟩=>⟨u,hr,thn h3 λ_ s2 z0=>by obtain⟨x,H',I2,rx,⟨y1,y2⟩,st2,f2⟩:=z0;exact ⟨x,H',I2,rx,⟨y1,y2 xs (SqT.of h1)⟩,st2,f2⟩⟩
 done:=by
  intro X hP hw hK hc i pins s Z H E I hf st hg;obtain⟨h1,h2⟩:=hg;exact(Ev (P:=P) (w:=w) (K:=K) (tg:=tg) a it).done X hP hw hK hc i pins s Z H E I hf st ⟨xs,SqT.of h1,h2⟩
 self:=(Ev (P:=P) (w:=w) (K:=K) (tg:=tg) a it).self
def ItL(a:Addr)(xs:List V):It:=⟨λi H=>H a=some (.lst xs)/\i<xs.length,λi H x H'=>H'=H/\xs[i]?=some x,λi H=>H a=some (.lst xs)/\xs.length<=i⟩
def ItT(a:Addr)(xs:List V):It:=⟨λi H=>H a=some (.tup xs)/\i<xs.length,λi H x H'=>H'=H/\xs[i]?=some x,λi H=>H a=some (.tup xs)/\xs.length<=i⟩
def A1q(te:TE):TI:=λZ H R=>te Z H λx H1=>(∃a xs,x=.ref a/\H1 a=some (.lst xs)/\R (ItL a xs) H1)\/(∃a xs,x=.ref a/\H1 a=some (.tup xs)/\R (ItT a xs) H1)\/(∃z,x=.str z/\R (Its z) H1)
theorem Jc{l:Expr}(hl:PE X l te):PI X tg l (A1q te):=by
 intro pins s Z H R I h;refine thn (hl pins s Z H _ I h) λv s1 z0=>?_;obtain⟨x,H1,I1,r1,q1⟩:=z0;have fp:∀b∈[s1.heap.objs.size],Ge X pins H1 b:=λb hb=>by
  have e:b=s1.heap.objs.size:=by simpa using hb
  subst e;exact I1.fpOk (Zzx _) (I1.hok.fresh (Zzx _))
 rcases q1 with ⟨a,xs,e,ha,q⟩ | ⟨a,xs,e,ha,q⟩ | ⟨z,e,q⟩
 ·subst e;cases r1;obtain⟨its,rv,hli,hlt⟩:=Bc I1 ha;refine wpAny_pyIter_list hli ?_;exact⟨s1.heap.objs.size,[s1.heap.objs.size],_,_,H1,rfl,I1.kept (t':=s1.toks) λb o e=>Zzv _ e,Tl a _ xs,⟨_,Zzh _ rfl,rfl,rfl⟩,fp,q⟩
 ·subst e;cases r1;obtain⟨hz,its,rv,p⟩:=I1.hok a _ ha;refine wpAny_pyIter_tuple (show s1.heap.IsTuple a its.toArray from p) ?_;exact⟨s1.heap.objs.size,[s1.heap.objs.size],_,_,H1,rfl,I1.kept (t':=s1.toks) λb o e=>Zzv _ e,Tk a _ xs,⟨_,Zzh _ rfl,rfl,rfl⟩,fp,q⟩
 ·subst e;obtain⟨t,rfl⟩:=r1;cases hasc:z.cps.all (·<128)
  ·refine wpAny_pyIter_wide hasc ?_;exact⟨s1.heap.objs.size,[s1.heap.objs.size],_,_,H1,rfl,I1.kept (t':=s1.toks) λb o e=>Zzv _ e,Wo _ z t _ (.inr rfl),⟨_,Zzh _ rfl,rfl,rfl⟩,fp,q⟩
  ·refine wpAny_pyIter_ascii hasc ?_;exact⟨s1.heap.objs.size,[s1.heap.objs.size],_,_,H1,rfl,I1.kept (t':=s1.toks) λb o e=>Zzv _ e,Wo _ z t _ (.inl rfl),⟨_,Zzh _ rfl,rfl,rfl⟩,fp,q⟩
structure Si(J:It)(n:Nat)(yl:Nat->V->Prop)(ok:Hp->Prop):Prop where
 go:∀i H,i<n->ok H->J.go i H
 yld:∀i H x H',i<n->ok H->J.yld i H x H'->H'=H/\yl i x
 stop:∀H,ok H->J.stop n H
theorem Eu(a:Addr)(xs:List V):Si (ItL a xs) xs.length (λi x=>xs[i]?=some x) (λH=>H a=some (.lst xs)):=⟨λ_ _ h o=>⟨o,h⟩,λ_ _ _ _ _ _ y=>y,λ_ o=>⟨o,Zzx _⟩⟩
theorem E5(a:Addr)(xs:List V):Si (ItT a xs) xs.length (λi x=>xs[i]?=some x) (λH=>H a=some (.tup xs)):=⟨λ_ _ h o=>⟨o,h⟩,λ_ _ _ _ _ _ y=>y,λ_ o=>⟨o,Zzx _⟩⟩
theorem zg(z:Str):Si (Its z) z.cps.size (λi x=>∃c,z.cps[i]?=some c/\x=.str ⟨#[c]⟩) (λ_=>True):=⟨λ_ _ h _=>h,λ_ _ _ _ _ _ y=>y,λ_ _=>Zzx _⟩
theorem Le(lo:Int)(n:Nat):Si (Itr lo n) n (λi x=>x=.int (lo+i)) (λ_=>True):=⟨λ_ _ h _=>h,λ_ _ _ _ _ _ y=>y,λ_ _=>Zzx _⟩
theorem qy{ok:Hp->Prop}{tb:TS}{D:AY}(G:Si J n yl ok)(Pv:Nat->St->Hp->Prop)(h0:Pv 0 Z H)(hok:∀i Z H,i<=n->Pv i Z H->ok H)
  (hs:∀i x Z H,i<n->yl i x->Pv i Z H->g x Z H λσ2 H2=>tb {D with nx:=Pv (i+1),ct:=Pv (i+1),bk:=D.nx} σ2 H2) (hd:∀Z H,Pv n Z H->D.nx Z H) :
  ∃W:Nat->Nat->St->Hp->Prop,(∃m,W 0 m Z H)/\∀i m Z H,W i m Z H ->
   (J.stop i H/\D.nx Z H)\/(J.go i H/\∃N:St->Hp->Prop,(∀Z' H',N Z' H'->∃m',m'<m/\W (i+1) m' Z' H')/\∀x H',J.yld i H x H'->g x Z H' λσ2 H2=>tb {D with nx:=N,ct:=N,bk:=D.nx} σ2 H2):=by
 refine⟨λi m Z H=>m=n - i/\i<=n/\Pv i Z H,⟨n,by simp,Zym _,h0⟩,?_⟩;rintro i m Z H ⟨rfl,hi,p⟩;have q:=hok i Z H hi p;by_cases hlt:i<n
 ·refine .inr ⟨G.go i H hlt q,Pv (i+1),λZ' H' p'=>⟨n - (i+1),by lia,rfl,hlt,p'⟩,λx H' y=>?_⟩;obtain⟨e,y'⟩:=G.yld i H x H' hlt q y;subst e;exact hs i x Z _ hlt y' p
 ·have e:i=n:=by lia
  subst e;exact .inl ⟨G.stop H q,hd Z H p⟩
theorem Uo{ok:Hp->Prop}{σ0:St}{Q:VK}(G:Si J n yl ok)(hn:n<=sizeLine)(Pv:Nat->List V->Hp->Prop)(h0:Pv 0 [] H)(hok:∀i acc H,i<=n->Pv i acc H->ok H)
  (hlen:∀i acc H,Pv i acc H->acc.length<=i)
  (hs:∀i x acc H,i<n->yl i x->Pv i acc H->g x σ0 H λσ2 H2=>tt σ2 H2 λb H3=>if b=true then te σ2 H3 λy H4=>Pv (i+1) (acc++[y]) H4 else Pv (i+1) acc H3)
  (hd:∀acc H,Pv n acc H->∀p,H p=none->Q (.ref p) (upd H p (.lst acc))) :
  ∃W:Nat->Nat->List V->Hp->Prop,(∃m,W 0 m [] H)/\∀i m acc H,W i m acc H->acc.length<=sizeLine /\
   ((J.stop i H/\∀p,H p=none->Q (.ref p) (upd H p (.lst acc))) \/
    (J.go i H/\acc.length<sizeLine/\∃N:List V->Hp->Prop,(∀acc' H',N acc' H'->∃m',m'<m/\W (i+1) m' acc' H')/\∀x H',J.yld i H x H'->g x σ0 H' λσ2 H2=>tt σ2 H2 λb H3=>if b=true then te σ2 H3 λy H4=>N (acc++[y]) H4 else N acc H3)):=by
 refine⟨λi m acc H=>m=n - i/\i<=n/\Pv i acc H,⟨n,by simp,Zym _,h0⟩,?_⟩;rintro i m acc H ⟨rfl,hi,p⟩;have q:=hok i acc H hi p;have hl:=hlen i acc H p;refine⟨by lia,?_⟩;by_cases hlt:i<n
 ·refine .inr ⟨G.go i H hlt q,by lia,Pv (i+1),λacc' H' p'=>⟨n - (i+1),by lia,rfl,hlt,p'⟩,λx H' y=>?_⟩;obtain⟨e,y'⟩:=G.yld i H x H' hlt q y;subst e;exact hs i x acc _ hlt y' p
 ·have e:i=n:=by lia
  subst e;exact .inl ⟨G.stop H q,hd acc H p⟩
section
variable {a b c o:Expr}{tb tc to:TE}{p cpos:Pos}
theorem Mo:OpR X (binaryOp .FloorDiv) (rI (λ_ j=>0<j/\j<10^200) λi j=>.int (i / j)):=opI λi j _ _ _ _ _ hc q=>by
 have h:j.natAbs.log2<9000:=by
  have h1:j.natAbs≠0:=by lia
  rw[Nat.log2_lt h1];have h2:j.natAbs<10^200:=by have:=hc.2;lia
  exact Zze h2 (by decide +kernel)
 refine floordiv_int (by lia) ?_ (.inl (PyProof.noPylong_of_log2 h));rw[Int.fdiv_eq_ediv_of_nonneg i (by lia)];exact q
def FC:R2:=λx y H Q=>∃a b ys,x=.ref a/\y=.ref b/\H a=some (.tup [])/\H b=some (.tup ys)/\Q (.ref b) H
theorem we:OpR X (binaryOp .Add) FC:=by
 intro pins s Z H x y v u Q I rx ry h;obtain⟨a,b,ys,rfl,rfl,ha,hb,q⟩:=h;cases rx;cases ry;obtain⟨its,r1,p1,_⟩:=I.tuple (SqT.of ha);obtain⟨its2,r2,p2,_⟩:=I.tuple (SqT.of hb);cases r1;obtain⟨⟨cls,dd,data,sl⟩,ho,hc,n,hd⟩:=id p1;obtain⟨⟨cls2,dd2,data2,sl2⟩,ho2,hc2,n2,hd2⟩:=id p2;simp only at hc hd hc2 hd2;subst hc hd hc2 hd2;exact concat_meets ⟨_,ho,rfl⟩ ⟨_,ho2,rfl⟩ noFill_tuple_add seq_tuple_add Zv5 Zv8 (Zvj _ _)
   (tuple_addW0 a b _ _ n n2 dd dd2 sl sl2 (by simp)) ⟨ho,ho2,.ref b,H,I,rfl,q⟩
def EE:R2:=λx y H Q=>∃a b xs ys,x=.ref a/\y=.ref b/\H a=some (.tup xs)/\H b=some (.tup ys)/\xs.length+ys.length<=sizeLine /\
 ∀p H',H' p=some (.tup (xs++ys))->AA H H'->(∀q,q≠p->H' q=H q)->Q (.ref p) H'
theorem G3:OpR X (binaryOp .Add) EE:=by
 intro pins s Z H x y v u Q I rx ry h;obtain⟨a,b,xs,ys,rfl,rfl,ha,hb,hz,q⟩:=h;by_cases hx:xs=[]
 ·subst hx;exact we pins s Z H _ _ v u Q I rx ry ⟨a,b,ys,rfl,rfl,ha,hb,q b H (by simpa using hb) (AA.refl H) λ_ _=>rfl⟩
 ·refine wc pins s Z H _ _ v u Q I rx ry ⟨a,b,xs,ys,rfl,rfl,SqT.of ha,SqT.of hb,hx,hz,λe=>?_,λ_ p hp=>?_⟩
  ·subst e;exact q a H (by simpa using ha) (AA.refl H) λ_ _=>rfl
  ·exact q p _ A1 (λc o hc=>by rw[Ab (A9 hc hp)];exact hc) λ_ hq=>Ab hq
def cx:R2:=λx y H Q=>(∃i j,x=.int i/\y=.int j/\Q (.int (i+j)) H)\/(∃i j,x=.str i/\y=.str j/\i.length+j.length<=sizeLine/\Q (.str (i++j)) H)\/rCat x y H Q\/EE x y H Q
def V9:R2:=λx y H Q=>(∃i j,x=.int i/\y=.int j/\Q (.int (i+j)) H)\/(∃i j,x=.str i/\y=.str j/\i.length+j.length<=sizeLine/\Q (.str (i++j)) H)
def Yx(H:Hp)(x y v:V):Prop :=
 (∃p xs i,x=.ref p/\y=.int i/\(H p=some (.lst xs)\/H p=some (.tup xs))/\atI xs i=some v) \/
 (∃z i c,x=.str z/\y=.int i/\z.length<=sizeLine/\atI z.cps.toList i=some c/\v=.str ⟨#[c]⟩) \/
 (∃p kvs k,x=.ref p/\y=kV k/\Rd H p (.dK kvs)/\C4 kvs k=some v)
def EI:R2:=λx y H Q=>∃v,Yx H x y v/\Q v H
theorem xh(hu:X.A.units+1<cLine):IxR X (λx y H Q=>∃a v,x=.ref a/\jz H a y (some v)/\Q v H):=by
 intro value slice pins s Z H x y v u Q I rx ry h hs;obtain⟨a,z,rfl,g,q⟩:=h;cases rx;exact tail_any (Ym I g) PySem.F.slot_dict_getitem.lookup (jl hu I g ry λw' s3 I3 rw'=>⟨z,H,I3,rw',q⟩) hs
theorem xg(hu:X.A.units+1<cLine):IxR X EI:=by
 intro value slice pins s Z H x y v u Q I rx ry h hs;obtain⟨z,h,q⟩:=h;rcases h with ⟨p,xs,i,rfl,rfl,h | h,he⟩ | ⟨z',i,c,rfl,rfl,hz,he,rfl⟩ | ⟨p,kvs,k,rfl,rfl,h,he⟩
 ·exact W8 value slice pins s Z H _ _ v u Q I rx ry ⟨p,xs,i,z,rfl,rfl,SqL.of h,he,q⟩ hs
 ·exact A0q value slice pins s Z H _ _ v u Q I rx ry ⟨p,xs,i,z,rfl,rfl,SqT.of h,he,q⟩ hs
 ·exact A0s value slice pins s Z H _ _ v u Q I rx ry ⟨z',i,c,rfl,rfl,hz,he,q⟩ hs
 ·refine xh hu value slice pins s Z H _ _ v u Q I rx ry ⟨p,z,rfl,?_,q⟩ hs;have g:jz H p (kV k) (C4 kvs k):=.inl ⟨kvs,k,h,rfl,rfl⟩;rw[he] at g;exact g
theorem Aa(hu:X.A.units+1<cLine)(ha:PE X a ta)(hb:PE X b tb)(hs:Wh b):PE X (.Subscript a b pos) (tOp EI ta tb):=db (xg hu) ha hb hs
theorem Ah{p:Addr}(h:H p=some (.tup xs))(e:xs[j]?=some v):Yx H (.ref p) (.int j) v:=.inl ⟨p,xs,j,rfl,rfl,.inr h,L3 e⟩
theorem B3{p:Addr}(h:H p=some (.lst xs))(e:xs[j]?=some v):Yx H (.ref p) (.int j) v:=.inl ⟨p,xs,j,rfl,rfl,.inl h,L3 e⟩
theorem Rv{p:Addr}{i:Int}(h:H p=some (.lst xs)\/H p=some (.tup xs))(h0:0<=i)(e:xs[i.toNat]?=some v):Yx H (.ref p) (.int i) v:=by
 refine .inl ⟨p,xs,i,rfl,rfl,h,?_⟩;have q:=L3 e;rw[Int.toNat_of_nonneg h0] at q;exact q
theorem qg{z:Str}{i:Int}{c:Nat}(hz:z.length<=sizeLine)(h0:0<=i)(e:z.cps.toList[i.toNat]?=some c):Yx H (.str z) (.int i) (.str ⟨#[c]⟩):=by
 refine .inr (.inl ⟨z,i,c,rfl,rfl,hz,?_,rfl⟩);have q:=L3 e;rw[Int.toNat_of_nonneg h0] at q;exact q
theorem Lj{p:Addr}{k:Str}(h:Rd H p (.dK kvs))(e:C4 kvs (Zy9 k)=some v):Yx H (.ref p) (.str k) v:=.inr (.inr ⟨p,kvs,Zy9 k,rfl,rfl,h,e⟩)
def lenA:List V->Hp->VK->Prop:=λxs H Q=>(∃p ys,xs=[.ref p]/\(H p=some (.lst ys)\/H p=some (.tup ys))/\Q (.int ys.length) H)\/(∃z,xs=[.str z]/\z.length<=sizeLine/\Q (.int z.length) H)\/(∃p kvs,xs=[.ref p]/\H p=some (.dK kvs)/\Q (.int kvs.length) H)
theorem BL:AK X (.builtin "len") lenA:=by
 intro pins s Z H xs us Q I r h;rcases h with ⟨p,ys,rfl,h,q⟩ | ⟨z,rfl,hz,q⟩ | ⟨p,kvs,rfl,h,q⟩
 ·exact Jj pins s Z H _ us Q I r ⟨p,ys,rfl,h.imp SqL.of SqT.of,q⟩
 ·exact Wd pins s Z H _ us Q I r ⟨z,rfl,hz,q⟩
 ·exact jv pins s Z H _ us Q I r ⟨p,kvs,rfl,h,q⟩
def InA(H:Hp)(x y:V)(b:Bool):Prop :=
 (∃p xs,y=.ref p/\(H p=some (.lst xs)\/H p=some (.tup xs))/\Gj x=true/\xs.all Gj=true/\b=inV x xs) \/
 (∃i j,x=.str i/\y=.str j/\b=!(Zv9 j i 0 j.length 1).isEmpty) \/
 (∃p kvs k,y=.ref p/\x=kV k/\Rd H p (.dK kvs)/\b=(C4 kvs k).isSome)
theorem Nn(hu:X.A.units+1<cLine):OpR X (compareOp .In) (λx y H Q=>∃b,InA H x y b/\Q (.bl b) H):=by
 intro pins s Z H x y v u Q I rx ry h;obtain⟨b,h,q⟩:=h;rcases h with ⟨p,xs,rfl,hp,fx,fxs,rfl⟩ | ⟨i,j,rfl,rfl,rfl⟩ | ⟨p,kvs,k,rfl,rfl,hp,rfl⟩
 ·exact ij pins s Z H _ _ v u Q I rx ry ⟨p,xs,rfl,hp.imp SqL.of SqT.of,fx,fxs,q⟩
 ·exact ii pins s Z H _ _ v u Q I rx ry ⟨i,j,rfl,rfl,q⟩
 ·cases ry;exact d_in hu I (.inl ⟨kvs,k,hp,rfl,rfl⟩) rx λs' I'=>⟨.bl _,H,I',rfl,q⟩
theorem ig(hu:X.A.units+1<cLine):OpR X (compareOp .NotIn) (λx y H Q=>∃b,InA H x y b/\Q (.bl (!b)) H):=by
 intro pins s Z H x y v u Q I rx ry h;obtain⟨b,h,q⟩:=h;rcases h with ⟨p,xs,rfl,hp,fx,fxs,rfl⟩ | ⟨i,j,rfl,rfl,rfl⟩ | ⟨p,kvs,k,rfl,rfl,hp,rfl⟩
 ·exact Vj pins s Z H _ _ v u Q I rx ry ⟨p,xs,rfl,hp.imp SqL.of SqT.of,fx,fxs,q⟩
 ·exact Vi pins s Z H _ _ v u Q I rx ry ⟨i,j,rfl,rfl,q⟩
 ·cases ry;exact ye hu I (.inl ⟨kvs,k,hp,rfl,rfl⟩) rx λs' I'=>⟨.bl _,H,I',rfl,q⟩
def FD:V->V->V->Hp->(Hp->Prop)->Prop:=λo i v H Q=>EH o i v H Q\/(∃p kvs k,o=.ref p/\i=kV k/\H p=some (.dK kvs)/\kvs.length<sizeLine/\Q (upd H p (.dK (Gp kvs k v))))
theorem vd(hu:X.A.units+1<cLine):ug X FD:=by
 intro pins s Z H o i v ov iv u Q I ro ri rv h;rcases h with h | ⟨p,kvs,k,rfl,rfl,hp,hl,q⟩
 ·exact Hn pins s Z H o i v ov iv u Q I ro ri rv h
 ·cases ro;exact jk hu I (EC.k hp hl) ri rv λs' I'=>⟨_,I',q⟩
theorem zz{x:V}(h:P4 H x=some T)(hT:T = "list" \/ T = "dict" \/ T = "str"):tyV K T x H:=by
 cases x with
 |str z=>cases h;rfl
 |ref a =>
  unfold P4 at h;simp only at h;cases e:H a with
  |none=>rw[e] at h;cases h
  |some o =>
   rw[e] at h;cases o with
   |lst xs=>cases h;exact .inl ⟨rfl,xs,SqL.of e⟩
   |tup xs=>cases h;exact absurd hT (by decide)
   |dK kvs=>cases h;exact .inr (.inr (.inl ⟨rfl,.inl ⟨kvs,e⟩⟩))
   |_=>cases h
 |int i=>cases h;exact absurd hT (by decide)
 |bl i=>cases h;exact absurd hT (by decide)
 |non=>cases h;exact absurd hT (by decide)
 |_=>cases h
def v7(T:String)(r:V->List V->Hp->VK->Prop)(to:TE):TE:=λZ H Q=>to Z H λx H1=>P4 H1 x=some T/\r x [] H1 Q
def tBA(T:String)(r:V->List V->Hp->VK->Prop)(to:TE)(t:TA):TE:=λZ H Q=>to Z H λx H1=>P4 H1 x=some T/\t Z H1 λxs H2=>r x xs H2 Q
variable {name:Str}{id:String}{r:V->List V->Hp->VK->Prop}
theorem A1i(pa:PlainAttrs T)(slot:Slot T name id)(hty:typeOf (.builtin id)=pure (.type "method_descriptor"))(hm:MtR X id r)(ho:PE X o to)(ha:PA X (e::es) t)(hT:T = "list" \/ T = "dict" \/ T = "str" := by decide)
  (hbase:attributeBase o name X.env (eval o X.env)=eval o X.env:=by rfl)
  (hfew:((backTo cpos (starEach (e::es) X.env)).all (λx=>!x.1)&&(backToKw cpos (keywordEach [] X.env)).all (λx=>x.1.isSome)
   && decide ((e::es).length+([]:List Keyword).length+(if ([]:List Keyword).isEmpty then 0 else 1)<30))=true:=by rfl)
  (hline:(apos.endLine == cpos.line)=true:=by rfl) (hs:starEach (e::es) X.env=(false,eval e X.env)::starEach es X.env:=by rfl) (hplain:(backTo cpos (starEach es X.env)).any (·.1)=false:=by rfl) :
  PE X (.Call (.Attribute o name apos) (e::es) [] cpos) (tBA T r to t):=by
 intro pins s Z H Q I h;refine wpAny_Call_method_late hbase hfew hline rfl (thn (ho pins s Z H _ I h) λv s1 z0=>?_);obtain⟨x,H1,I1,r1,ty,q1⟩:=z0;obtain⟨h1,h2⟩:=A00 I1 r1 (zz ty hT);refine⟨T,id,pa,slot,hty,h1,h2,?_⟩;have hA:=ha cpos pins s1 Z H1 _ I1 q1;rw[hs] at hA ⊢;refine Calls.callWith_builtin (by show (false||(backTo cpos (starEach es X.env)).any (·.1))=false;rw[hplain]<;>rfl) (Zut ?_);exact thn hA λus s2 ⟨vs,H2,I2,r2,q2⟩=>hm pins s2 Z H2 x vs v us Q I2 r1 r2 q2
end
def Has(P:Program)(w:World)(K:Zzy)(mg:Str->Option Value)(base:Heap)(x:Str)(k:Nat)(ps:List Str)(sp:Sp):Prop :=
 ∃f fd,mg x=some (.ref f)/\Zx9 K (.ref f)=true/\BD K fd ps []/\Ax P w K mg base CX0 k f fd ps sp
theorem o0{k:Nat}{p:Pos}(h:Has X.prog X.w X.K X.mg X.base x k ps sp)(hr:AN k X.A)(hg:Gl X x)(ha:PA X (e::es) t)
  (hdb:(x == ("__debug__" : Str))=false:=by decide) (he:starEach (e::es) X.env=(false,eval e X.env)::starEach es X.env:=by rfl) (hpl:(backTo pos (starEach es X.env)).any (·.1)=false:=by rfl) :
  PE X (.Call (.Name x p) (e::es) [] pos) (Qe sp [] E0 t):=by
 obtain⟨f,fd,hm,hk,hb,F⟩:=h;exact vx F hr hg hm hk hb .nil zb ha hdb he hpl
end L2
namespace HT
open PySem PyProof.Rows
theorem L6{t sl:Addr}{vl vu:Value}(ht:IsTup s.heap t items)(hs:s.heap.IsSliceOf sl vl vu .none)(pl:IsPart vl lo)(pu:IsPart vu hi)
  (hw:sIx items.size 0 lo=0/\sIx items.size items.size hi=items.size) (h:Q (.ref t) s):wpAny (model prog w) A (getItem (.ref t) (.ref sl)) Q E s:=by
 obtain⟨os,hos,hcs,hds⟩:=id hs;have hTs:s.TypeIs (.ref sl) "slice" := ⟨os,hos,hcs⟩;unfold getItem;try with_reducible refine wpAny_holding ?_
 first | refine FU (FV ?_) | skip
 refine FU (wpAny_sequenceKey ht.typeIs (by decide) ?_);refine FU (wpAny_callSpecial?_slot (name:=Str.ofString "__getitem__") ht.typeIs Zy3
  (wpAny_call_entry Zy3 ht.typeIs entry_tuple_getitem ?_ (args_tuple_getitem _ _)))
 show wpAny _ _ (Builtin.Tuple.tupleItemsOf (.ref t) >>= _) _ _ s;refine FU (tupleItemsOf_ ht ?_);refine FU (wpAny_typeOf hTs ?_);rw[FT (by decide)];refine FU (Iu hs pl pu ?_);have hyes:((((sIx items.size 0 lo:Nat):Int) == 0&&(1:Int) == 1&&(sIx items.size items.size hi - sIx items.size 0 lo) == items.size)=true):=by
  rw[hw.1,hw.2];simp
 show wpAny _ _ (if (((sIx items.size 0 lo:Nat):Int) == 0&&(1:Int) == 1&&(sIx items.size items.size hi - sIx items.size 0 lo) == items.size)=true then _ else _) _ _ s;rw[FT hyes];refine FU (m:=Builtin.Tuple.tupleIsExact _) ?_;unfold Builtin.Tuple.tupleIsExact;refine FU (wpAny_typeOf ht.typeIs (FV ?_));rw[FT (by decide)];refine FU (wpAny_rule ?_);first
  |exact FV ⟨_,rfl,FV h⟩
  |exact FU (FV (FV ⟨_,rfl,FV h⟩))
end HT
namespace L2
open PySem PySem.Spec PyProof.Rows
section
variable {a b c o:Expr}{tb tc to:TE}{p cpos:Pos}
theorem va:SlR X (λx lo hi H Q=>∃a xs,x=.ref a/\H a=some (.tup xs)/\(HT.sIx xs.length 0 lo=0/\HT.sIx xs.length xs.length hi=xs.length)/\Q (.ref a) H):=by
 intro pins s Z H x v vl vu lo hi sl Q I rx hs pl pu h;obtain⟨a,xs,rfl,hx,hw,q⟩:=h;cases rx;obtain⟨its,r,ht,hz⟩:=I.tuple (SqT.of hx);have hlen:its.toArray.size=xs.length:=by rw[Zzs];exact r.length.symm
 refine⟨"tuple",_,Zy3.lookup,ht.typeIs,?_⟩;exact HT.L6 ht hs pl pu (by rw[hlen];exact hw) ⟨.ref a,H,I,rfl,q⟩
theorem aj(h:HT.sIx xs.length 0 lo=0/\HT.sIx xs.length xs.length hi=xs.length):Ds xs lo hi=xs:=by
 unfold Ds;rw[h.1,h.2];simp
def T8(x:Str)(lo hi:Option Int):Str:=⟨((x.cps.toList.drop (HT.sIx x.length 0 lo)).take (HT.sIx x.length x.length hi - HT.sIx x.length 0 lo)).toArray⟩
theorem Ks:SlR X (λx lo hi H Q=>∃a xs,x=.ref a/\H a=some (.tup xs)/\∀p H',H' p=some (.tup (Ds xs lo hi))->AA H H'->(∀q,q≠p->H' q=H q)->Q (.ref p) H'):=by
 intro pins s Z H x v vl vu lo hi sl Q I rx hs pl pu h;obtain⟨a,xs,rfl,hx,q⟩:=h;by_cases hw:HT.sIx xs.length 0 lo=0/\HT.sIx xs.length xs.length hi=xs.length
 ·exact va pins s Z H _ v vl vu lo hi sl Q I rx hs pl pu ⟨a,xs,rfl,hx,hw,q a H (by rw[aj hw];exact hx) (AA.refl H) λ_ _=>rfl⟩
 ·exact A06 pins s Z H _ v vl vu lo hi sl Q I rx hs pl pu ⟨a,xs,rfl,SqT.of hx,hw,λp hp=>q p _ A1 (λc o hc=>by rw[Ab (A9 hc hp)];exact hc) λ_ hq=>Ab hq⟩
theorem Fg:SlR X (λx lo hi H Q=>∃a xs,x=.ref a/\H a=some (.lst xs)/\∀p,H p=none->Q (.ref p) (upd H p (.lst (Ds xs lo hi)))):=by
 intro pins s Z H x v vl vu lo hi sl Q I rx hs pl pu h;obtain⟨a,xs,rfl,hx,q⟩:=h;exact c6 pins s Z H _ v vl vu lo hi sl Q I rx hs pl pu ⟨a,xs,rfl,SqL.of hx,q⟩
theorem Ak{i:Int}(hg:Gl X x)(hm:∃t,X.mg x=some (.int i t))(hd:(x == ("__debug__" : Str))=false:=by decide):PE X (.Name x pos) (tC (.int i)):=by
 obtain⟨t,hm⟩:=hm;exact Fi hg hm ⟨t,rfl⟩ hd
theorem Ml{z:Str}(hg:Gl X x)(hm:∃t,X.mg x=some (.str z t))(hd:(x == ("__debug__" : Str))=false:=by decide):PE X (.Name x pos) (tC (.str z)):=by
 obtain⟨t,hm⟩:=hm;exact Fi hg hm ⟨t,rfl⟩ hd
theorem Bg(hu:X.A.units+1<cLine):OpR X (compareOp .Eq) rEq:=A1l
theorem Rc(hu:X.A.units+1<cLine):OpR X (compareOp .NotEq) rNe:=A1j
theorem Zj(hu:X.A.units+1<cLine):OpR X (compareOp .Lt) (rI0 λi j=>.bl (decide (i<j))):=A1k
def rIsA:R2:=λx y H Q=>(∃i j,x=.bl i/\y=.bl j/\Q (.bl (i == j)) H)\/(y=.non/\Q (.bl (decide (x=.non))) H)
theorem o8:OpR X (compareOp .Is) rIsA:=EW.or A0h
def EO:R2:=λx y H Q=>(∃i j,x=.bl i/\y=.bl j/\Q (.bl (i != j)) H)\/(y=.non/\Q (.bl (!decide (x=.non))) H)
theorem U9:OpR X (compareOp .IsNot) EO:=ED.or wa
theorem js(hc:X.calm=true):AK X (.builtin "min") (λxs H Q=>∃i j,xs=[.int i,.int j]/\Q (.int (if j<i then j else i)) H):=jt hc
def EY:List V->Hp->VK->Prop:=λxs H Q=>∃p ys,xs=[.ref p]/\((H p=some (.lst ys)/\∀l,H l=none->Q (.ref l) (upd H l (.tup ys)))\/(H p=some (.tup ys)/\Q (.ref p) H))
theorem Bp:AK X (.type "tuple") EY:=by
 intro pins s Z H xs us Q I r h;obtain⟨p,ys,rfl,h⟩:=h;exact Ta pins s Z H _ us Q I r ⟨p,ys,rfl,h.imp (λh=>⟨SqL.of h.1,h.2⟩) λh=>⟨SqT.of h.1,h.2⟩⟩
def FE:List V->Hp->VK->Prop:=λxs H Q=>∃p ys,xs=[.ref p]/\(H p=some (.lst ys)\/H p=some (.tup ys))/\∀l,H l=none->Q (.ref l) (upd H l (.lst ys))
theorem av:AK X (.type "list") FE:=by
 intro pins s Z H xs us Q I r h;obtain⟨p,ys,rfl,h,q⟩:=h;exact Wc pins s Z H _ us Q I r ⟨p,ys,rfl,h.imp SqL.of SqT.of,q⟩
def cpB(N:List Str)(osc sc:Scope)(own:List Str)(cap:List Nat):Bool :=
 decide (sc.kind=.function)&&sc.names.all (λx=>x.2 != .local||decide (sc.names.lookup x.1=some .local))&&sc.names.all (λy=>y.2 != .cell) &&
 sc.names.all (λy=>y.2 != .free||decide (osc.names.lookup y.1=some .cell)||decide (osc.names.lookup y.1=some .free))&&cap.all λj=>decide (j<N.length)&&decide (sc.names.lookup (N.getD j "")=some .free)
theorem Bz{osc:Scope}(h:cpB N osc sc own cap=true):G0 N osc sc own cap:=by
 unfold cpB at h;rw[Zyy,Zyy,Zyy,Zyy] at h;obtain⟨⟨⟨⟨h1,h2⟩,h3⟩,h4⟩,h5⟩:=h;refine⟨FP h1,λx hx hl=>?_,λy hy hc=>?_,λy hy hf=>?_,λj hj=>?_⟩
 ·have q:=Zyu.mp h2 x hx
  rw[hl] at q;exact FP (by simpa using q)
 ·have q:=Zyu.mp h3 y hy
  rw[hc] at q;exact absurd q (by decide)
 ·have q:=Zyu.mp h4 y hy
  rw[hf] at q;rw[Bool.or_eq_true,Bool.or_eq_true] at q;rcases q with (q | q) | q
  ·exact absurd q (by decide)
  ·exact .inl (FP q)
  ·exact .inr (FP q)
 ·have q:=Zyu.mp h5 j hj
  rw[Zyy] at q;exact⟨FP q.1,FP q.2⟩
end
theorem lu(lo hi:Option Int)(n:Nat):Zye lo hi 1 n=sliceRange ((HT.sIx n 0 lo:Nat):Int) ((HT.sIx n n hi:Nat):Int) 1:=by
 unfold Zye;have e1:(match lo with | none=>(if (1:Int) > 0 then (0:Int) else (n:Int) - 1) | some i=>(if (1:Int) > 0 then max 0 (min (if i<0 then i+(n:Int) else i) (n:Int)) else max (-1) (min (if i<0 then i+(n:Int) else i) ((n:Int) - 1))))=((HT.sIx n 0 lo:Nat):Int):=by
  cases lo with
  |none=>rfl
  |some i =>
   simp only[HT.sIx,show (1:Int) > 0 by decide,if_true];split<;>lia
 have e2:(match hi with | none=>(if (1:Int) > 0 then (n:Int) else -1) | some i=>(if (1:Int) > 0 then max 0 (min (if i<0 then i+(n:Int) else i) (n:Int)) else max (-1) (min (if i<0 then i+(n:Int) else i) ((n:Int) - 1))))=((HT.sIx n n hi:Nat):Int):=by
  cases hi with
  |none=>rfl
  |some i =>
   simp only[HT.sIx,show (1:Int) > 0 by decide,if_true];split<;>lia
 rw[<- e1,<- e2];rfl
theorem A03(x:Str)(lo hi:Option Int):((Zye lo hi 1 x.length).filterMap (x.cps[·]?)).toArray=(T8 x lo hi).cps:=by
 rw[lu];unfold T8;simp only[sliceRange_one,pick_run]
theorem Z7(lo hi:Option Int)(n:Nat):(Zye lo hi 1 n).length=HT.sIx n n hi - HT.sIx n 0 lo:=by
 rw[lu];simp[sliceRange_one]
theorem vb:SlR X (λx lo hi H Q=>∃z,x=.str z/\z.length<=sizeLine/\Q (.str (T8 z lo hi)) H):=by
 intro pins s Z H x v vl vu lo hi sl Q I rx hs pl pu h;obtain⟨z,rfl,hz,q⟩:=h;obtain⟨t,rfl⟩:=rx;refine⟨"str",_,F.slot_str_getitem.lookup,typeIs_str s z t,?_⟩;obtain⟨l,hl,el⟩:∃l:Option (Int×Tok),vl=partValue l/\l.map (·.1)=lo:=by
  cases pl with
  |none=>exact⟨none,rfl,rfl⟩
  |int i t=>exact⟨some (i,t),rfl,rfl⟩
 obtain⟨u,hu,eu⟩:∃u:Option (Int×Tok),vu=partValue u/\u.map (·.1)=hi:=by
  cases pu with
  |none=>exact⟨none,rfl,rfl⟩
  |int i t=>exact⟨some (i,t),rfl,rfl⟩
 subst hl hu;refine wpAny_getItem_str_slice (l:=l) (u:=u) (st:=none) hs rfl ?_;have hlen:(T8 z lo hi).length<=z.length:=by
  unfold T8 Str.length;simp only[Zzs,Zz5,Zyj];have:z.cps.toList.length=z.cps.size:=by simp
  lia
 unfold sliceMade slicePicked;rw[el,eu];show Made.post (if ((1:Int) == 1&&(Zye lo hi 1 z.length).length == z.length)=true then _ else _) _ _;by_cases hw:((1:Int) == 1&&(Zye lo hi 1 z.length).length == z.length)=true
 ·rw[FT hw];have hw:(Zye lo hi 1 z.length).length=z.length:=by simpa using hw
  rw[Z7] at hw;have h1:=HT.ml z.length z.length (Zzx _) hi;have e:T8 z lo hi=z:=by
   unfold T8;by_cases h0:z.length=0
   ·have h0':z.cps=#[]:=by
     have:z.cps.size=0:=h0;exact Array.eq_empty_of_size_eq_zero this
    obtain⟨c⟩:=z;simp only at h0' ⊢;subst h0';simp
   ·have h2:HT.sIx z.length 0 lo=0:=by lia
    have h3:HT.sIx z.length z.length hi=z.length:=by lia
    rw[h2,h3];obtain⟨c⟩:=z;simp only[Str.length,List.drop_zero,Nat.sub_zero];rw[Zxc (by simp)]
  exact⟨.str z,H,I,⟨t,rfl⟩,by rw[e] at q;exact q⟩
 ·rw[FS hw];show Made.post (Made.str ⟨((Zye lo hi 1 z.length).filterMap (z.cps[·]?)).toArray⟩) _ _;rw[A03];exact⟨Zzk hlen hz,.str (T8 z lo hi),H,I.tok _,⟨_,rfl⟩,q⟩
def Xg:R2:=λx y H Q=>∃l k xs,x=.ref l/\y=.int k/\H l=some (.tup xs)/\xs≠[]/\2<=k/\k<=1000/\xs.length*k.toNat<=10000 /\
 ∀p,H p=none->Q (.ref p) (upd H p (.tup (Zyb k.toNat xs).flatten))
def cj:R2:=λx y H Q=>(∃i j,x=.int i/\y=.int j/\DU i j/\Q (.int (i*j)) H)\/Xg x y H Q
theorem AK.weak{f:Value}{r r':List V->Hp->VK->Prop}(h:AK X f r)(w:∀xs H Q,r' xs H Q->r xs H Q):AK X f r':=λpins s Z H xs us Q I rv q=>h pins s Z H xs us Q I rv (w _ _ _ q)
def lenQ:List V->Hp->VK->Prop:=λxs H Q=>∃p ys,xs=[.ref p]/\(H p=some (.lst ys)\/H p=some (.tup ys))/\Q (.int ys.length) H
theorem Bt:AK X (.builtin "len") lenQ:=BL.weak λ_ _ _ h=>.inl h
def DV:List V->Hp->VK->Prop:=λxs H Q=>∃z,xs=[.str z]/\z.length<=sizeLine/\Q (.int z.length) H
theorem ax:AK X (.builtin "len") DV:=BL.weak λ_ _ _ h=>.inr (.inl h)
def wz:List V->Hp->VK->Prop:=λxs H Q=>∃p kvs,xs=[.ref p]/\H p=some (.dK kvs)/\Q (.int kvs.length) H
def FF:V->V->V->Hp->(Hp->Prop)->Prop:=λo i v H Q=>∃p kvs k,o=.ref p/\i=kV k/\H p=some (.dK kvs)/\kvs.length<sizeLine/\Q (upd H p (.dK (Gp kvs k v)))
theorem Jz(hu:X.A.units+1<cLine):ug X FF:=λpins s Z H o i v ov iv u Q I ro ri rv h=>vd hu pins s Z H o i v ov iv u Q I ro ri rv (.inr h)
theorem Pu:PIp X .Add (rI0 λi j=>.int (i+j)):=λpins s Z H x y v u Q I rx ry q=>xj pins s Z H x y v u Q I rx ry q
def FG:R2:=λx y H Q=>∃i j,x=.str i/\y=.str j/\i.length+j.length<=sizeLine/\Q (.str (i++j)) H
theorem xi:PIp X .Add FG:=λpins s Z H x y v u Q I rx ry q=>Yc pins s Z H x y v u Q I rx ry q
def qk(te:TE):TI:=λZ H R=>te Z H λx H1=>∃a xs,x=.ref a/\H1 a=some (.lst xs)/\R (ItL a xs) H1
def qj(te:TE):TI:=λZ H R=>te Z H λx H1=>∃a xs,x=.ref a/\H1 a=some (.tup xs)/\R (ItT a xs) H1
def xm(te:TE):TI:=λZ H R=>te Z H λx H1=>∃z,x=.str z/\R (Its z) H1
theorem Dq{l:Expr}(hl:PE X l te):PI X tg l (qk te):=by
 intro pins s Z H R I h;refine thn (hl pins s Z H _ I h) λv s1 z0=>?_;obtain⟨x,H1,I1,r1,q1⟩:=z0;obtain⟨a,xs,e,ha,q⟩:=q1;subst e;cases r1;obtain⟨its,rv,hli,hlt⟩:=Bc I1 ha;refine wpAny_pyIter_list hli ?_;refine⟨s1.heap.objs.size,[s1.heap.objs.size],_,_,H1,rfl,I1.kept (t':=s1.toks) λb o e=>Zzv _ e,Tl a _ xs,⟨_,Zzh _ rfl,rfl,rfl⟩,λb hb=>?_,q⟩;have e:b=s1.heap.objs.size:=by simpa using hb
 subst e;exact I1.fpOk (Zzx _) (I1.hok.fresh (Zzx _))
theorem D9{l:Expr}(hl:PE X l te):PI X tg l (qj te):=by
 intro pins s Z H R I h;refine thn (hl pins s Z H _ I h) λv s1 z0=>?_;obtain⟨x,H1,I1,r1,q1⟩:=z0;obtain⟨a,xs,e,ha,q⟩:=q1;subst e;cases r1;obtain⟨hz,its,rv,p⟩:=I1.hok a _ ha;refine wpAny_pyIter_tuple (show s1.heap.IsTuple a its.toArray from p) ?_;refine⟨s1.heap.objs.size,[s1.heap.objs.size],_,_,H1,rfl,I1.kept (t':=s1.toks) λb o e=>Zzv _ e,Tk a _ xs,⟨_,Zzh _ rfl,rfl,rfl⟩,λb hb=>?_,q⟩;have e:b=s1.heap.objs.size:=by simpa using hb
 subst e;exact I1.fpOk (Zzx _) (I1.hok.fresh (Zzx _))
end L2
namespace NP
open PySem L2
theorem B1:bootBuiltins "isinstance" = some (.builtin "isinstance"):=by decide +kernel
theorem Jk:bootBuiltins "all" = some (.builtin "all"):=by decide +kernel
theorem A12:bootBuiltins "min" = some (.builtin "min"):=by decide +kernel
theorem ay:bootBuiltins "max" = some (.builtin "max"):=by decide +kernel
theorem Cv:bootBuiltins "len" = some (.builtin "len"):=by decide +kernel
theorem jx:bootBuiltins "sorted" = some (.builtin "sorted"):=by decide +kernel
theorem A11:bootBuiltins "sum" = some (.builtin "sum"):=by decide +kernel
theorem Sb:bootBuiltins "int" = some (.type "int"):=by decide +kernel
theorem yi:bootBuiltins "bool" = some (.type "bool"):=by decide +kernel
theorem Ep:bootBuiltins "str" = some (.type "str"):=by decide +kernel
theorem Cr:bootBuiltins "tuple" = some (.type "tuple"):=by decide +kernel
theorem gi:bootBuiltins "list" = some (.type "list"):=by decide +kernel
theorem We:bootBuiltins "enumerate" = some (.type "enumerate"):=by decide +kernel
theorem su:bootBuiltins "zip" = some (.type "zip"):=by decide +kernel
def But(st:Addr)(H H':Hp):Prop:=∀b o,b≠st->H b=some o->H' b=some o
theorem But.refl(st:Addr)(H:Hp):But st H H:=λ_ _ _ h=>h
theorem But.trans{st:Addr}(a:But st H H1)(b:But st H1 H2):But st H H2:=λc o n h=>b c o n (a c o n h)
theorem Iw{st:Addr}(s:AA H H'):But st H H':=λb o _ h=>s b o h
theorem A5{o:HO}(hp:H p=none):AA H (upd H p o):=λb u h=>by rw[Ab (A9 h hp)];exact h
theorem L1{st:Addr}{o:HO}(hp:H p=none):But st H (upd H p o):=Iw (A5 hp)
theorem DF{st:Addr}{o:HO}:But st H (upd H st o):=λb u n h=>by rw[Ab n];exact h
def AI(H:Hp)(st:Addr):Prop:=∃ns:List Int,ns≠[]/\H st=some (.lst (ns.map V.int))
theorem AI.same{st:Addr}(h:AI H st)(s:AA H H'):AI H' st:=by obtain⟨ns,n,e⟩:=h;exact⟨ns,n,s _ _ e⟩
inductive D where
 |non | bl (b:Bool) | int (i:Int) | str (x:Str) | tup (ds:List D) | lst | dct
mutual
def Rep(H:Hp):D->V->Prop
 |.non,v=>v=.non
 |.bl b,v=>v=.bl b
 |.int i,v=>v=.int i
 |.str x,v=>v=.str x/\x.length<=1000
 |.tup ds,v=>∃a xs,v=.ref a/\H a=some (.tup xs)/\ds.length<=1000/\CJ H ds xs
 |.lst,v=>∃a xs,v=.ref a/\H a=some (.lst xs)
 |.dct,v=>∃a kvs,v=.ref a/\H a=some (.dK kvs)
def CJ(H:Hp):List D->List V->Prop
 |[],xs=>xs=[]
 |d::ds,xs=>∃x r,xs=x::r/\Rep H d x/\CJ H ds r
end
def zt(H H':Hp):Prop:=(∀a xs,H a=some (.tup xs)->H' a=some (.tup xs))/\(∀a xs,H a=some (.lst xs)->∃ys,H' a=some (.lst ys))/\∀a kvs,H a=some (.dK kvs)->∃kvs',H' a=some (.dK kvs')
mutual
theorem Rep.keep(k:zt H H'):∀(d:D) (v:V),Rep H d v->Rep H' d v
 |.non,v,h=>by rw[Rep] at h ⊢;exact h
 |.bl b,v,h=>by rw[Rep] at h ⊢;exact h
 |.int i,v,h=>by rw[Rep] at h ⊢;exact h
 |.str x,v,h=>by rw[Rep] at h ⊢;exact h
 |.tup ds,v,h=>by
  rw[Rep] at h ⊢;obtain⟨a,xs,e,h,z,r⟩:=h;exact⟨a,xs,e,k.1 a xs h,z,CJ.keep k ds xs r⟩
 |.lst,v,h=>by
  rw[Rep] at h ⊢;obtain⟨a,xs,e,h⟩:=h;obtain⟨ys,h'⟩:=k.2.1 a xs h;exact⟨a,ys,e,h'⟩
 |.dct,v,h=>by
  rw[Rep] at h ⊢;obtain⟨a,kvs,e,h⟩:=h;obtain⟨ys,h'⟩:=k.2.2 a kvs h;exact⟨a,ys,e,h'⟩
theorem CJ.keep(k:zt H H'):∀(ds:List D) (xs:List V),CJ H ds xs->CJ H' ds xs
 |[],xs,h=>by rw[CJ] at h ⊢;exact h
 |d::ds,xs,h=>by
  rw[CJ] at h ⊢;obtain⟨x,r,e,h1,h2⟩:=h;exact⟨x,r,e,Rep.keep k d x h1,CJ.keep k ds r h2⟩
end
def D.ty:D->String
 |.non => "NoneType"
 |.bl _ => "bool"
 |.int _ => "int"
 |.str _ => "str"
 |.tup _ => "tuple"
 |.lst => "list"
 |.dct => "dict"
def Ux(J:It)(own:List Str)(cap:List Nat)(g:TG)(tt:TT)(te:TE)(Z:St)(H1:Hp)(Q:VK):Prop:=∃W:Nat->Nat->List V->Hp->Prop,(∃m,W 0 m [] H1)/\∀i m acc H,W i m acc H->acc.length<=sizeLine /\
 ((J.stop i H/\∀p,H p=none->Q (.ref p) (upd H p (.lst acc))) \/
  (J.go i H/\acc.length<sizeLine/\∃N:List V->Hp->Prop,(∀acc' H',N acc' H'->∃m',m'<m/\W (i+1) m' acc' H')/\∀x H',J.yld i H x H'->g x (E6 own cap Z) H' λσ2 H2=>tt σ2 H2 λb H3=>if b=true then te σ2 H3 λy H4=>N (acc++[y]) H4 else N acc H3))
theorem Lq(own:List Str)(cap:List Nat)(wi:TI)(g:TG)(tt:TT)(te:TE)(Z:St)(H:Hp)(Q:VK):X5 own cap wi g tt te Z H Q=wi Z H λJ H1=>Ux J own cap g tt te Z H1 Q:=rfl
def A19(J:It)(g:TG)(tb:TS)(D:AY)(Z:St)(H1:Hp):Prop:=∃W:Nat->Nat->St->Hp->Prop,(∃m,W 0 m Z H1)/\∀i m Z H,W i m Z H ->
 (J.stop i H/\D.nx Z H)\/(J.go i H/\∃N:St->Hp->Prop,(∀Z' H',N Z' H'->∃m',m'<m/\W (i+1) m' Z' H')/\∀x H',J.yld i H x H'->g x Z H' λσ2 H2=>tb {D with nx:=N,ct:=N,bk:=D.nx} σ2 H2)
theorem Pf(wi:TI)(g:TG)(tb:TS)(D:AY)(Z:St)(H:Hp):A1e wi g tb D Z H=wi Z H λJ H1=>A19 J g tb D Z H1:=rfl
theorem Px(te:TE)(Z:St)(H:Hp)(R:It->Hp->Prop):A1q te Z H R=te Z H λx H1=>(∃a xs,x=.ref a/\H1 a=some (.lst xs)/\R (ItL a xs) H1)\/(∃a xs,x=.ref a/\H1 a=some (.tup xs)/\R (ItT a xs) H1)\/(∃z,x=.str z/\R (Its z) H1):=rfl
theorem Ps:("int" ∈ ["bool", "int", "str", "list", "tuple", "dict"])=True:=eq_true (by decide)
theorem Ms:("bool" ∈ ["bool", "int", "str", "list", "tuple", "dict"])=True:=eq_true (by decide)
theorem Pr:("str" ∈ ["bool", "int", "str", "list", "tuple", "dict"])=True:=eq_true (by decide)
theorem Mq:("list" ∈ ["bool", "int", "str", "list", "tuple", "dict"])=True:=eq_true (by decide)
theorem Kw:("tuple" ∈ ["bool", "int", "str", "list", "tuple", "dict"])=True:=eq_true (by decide)
theorem Mr:("dict" ∈ ["bool", "int", "str", "list", "tuple", "dict"])=True:=eq_true (by decide)
theorem D0:C6 "NoneType" "bool" = false:=by decide
theorem Dj:C6 "NoneType" "int" = false:=by decide
theorem Di:C6 "NoneType" "str" = false:=by decide
theorem Cy:C6 "NoneType" "list" = false:=by decide
theorem Co:C6 "NoneType" "tuple" = false:=by decide
theorem Cz:C6 "NoneType" "dict" = false:=by decide
theorem Fz:C6 "bool" "bool" = true:=by decide
theorem Hd:C6 "bool" "int" = true:=by decide
theorem Hc:C6 "bool" "str" = false:=by decide
theorem Fx:C6 "bool" "list" = false:=by decide
theorem Eg:C6 "bool" "tuple" = false:=by decide
theorem Fy:C6 "bool" "dict" = false:=by decide
theorem Gz:C6 "int" "bool" = false:=by decide
theorem Ie:C6 "int" "int" = true:=by decide
theorem Ic:C6 "int" "str" = false:=by decide
theorem Gx:C6 "int" "list" = false:=by decide
theorem Ft:C6 "int" "tuple" = false:=by decide
theorem Gy:C6 "int" "dict" = false:=by decide
theorem Gu:C6 "str" "bool" = false:=by decide
theorem Ib:C6 "str" "int" = false:=by decide
theorem Ia:C6 "str" "str" = true:=by decide
theorem Gq:C6 "str" "list" = false:=by decide
theorem Fn:C6 "str" "tuple" = false:=by decide
theorem Gs:C6 "str" "dict" = false:=by decide
theorem Fs:C6 "list" "bool" = false:=by decide
theorem Gw:C6 "list" "int" = false:=by decide
theorem Gv:C6 "list" "str" = false:=by decide
theorem Fp:C6 "list" "list" = true:=by decide
theorem Ee:C6 "list" "tuple" = false:=by decide
theorem Fq:C6 "list" "dict" = false:=by decide
theorem Ed:C6 "tuple" "bool" = false:=by decide
theorem Fm:C6 "tuple" "int" = false:=by decide
theorem Fk:C6 "tuple" "str" = false:=by decide
theorem Eb:C6 "tuple" "list" = false:=by decide
theorem Dx:C6 "tuple" "tuple" = true:=by decide
theorem Ec:C6 "tuple" "dict" = false:=by decide
theorem Fw:C6 "dict" "bool" = false:=by decide
theorem Hb:C6 "dict" "int" = false:=by decide
theorem Ha:C6 "dict" "str" = false:=by decide
theorem Fu:C6 "dict" "list" = false:=by decide
theorem Ef:C6 "dict" "tuple" = false:=by decide
theorem Fv:C6 "dict" "dict" = true:=by decide
theorem Bo{ok:Hp->Prop}{Q:VK}(G:Si J n yl ok)(hn:n<=sizeLine)(hok:∀H',AA H H'->ok H')(ys:List V)(hl:ys.length=n)
  (hs:∀i x H',i<n->yl i x->AA H H'->∀(N:V->Hp->Prop) (M:Hp->Prop),(∀y H4,AA H H4->ys[i]?=some y->N y H4)->g x (E6 own cap Z) H' λσ2 H2=>tt σ2 H2 λb H3=>if b=true then te σ2 H3 N else M H3)
  (hd:∀H',AA H H'->∀p,H' p=none->Q (.ref p) (upd H' p (.lst ys))):Ux J own cap g tt te Z H Q:=by
 refine Uo G hn (λi acc H'=>AA H H'/\acc=ys.take i) ⟨AA.refl H,by simp⟩ (λi acc H' _ h=>hok H' h.1) (λi acc H' h=>by rw[h.2,Zz5];lia) (λi x acc H' hi hx h=>?_) (λacc H' h p hp=>?_)
 ·obtain⟨s',rfl⟩:=h;refine hs i x H' hi hx s' _ _ λy H4 s4 hy=>⟨s4,?_⟩;rw[Zz1,hy];rfl
 ·obtain⟨s',e⟩:=h;rw[e,Zxc (by lia)];exact hd H' s' p hp
theorem Cj{ok:Hp->Prop}{tb:TS}{D:AY}(G:Si J n yl ok)(Pv:Nat->St->Hp->Prop)(h0:Pv 0 Z H)(hok:∀i Z H,i<=n->Pv i Z H->ok H)
  (hs:∀i x Z H,i<n->yl i x->Pv i Z H->g x Z H λσ2 H2=>tb {D with nx:=Pv (i+1),ct:=Pv (i+1),bk:=D.nx} σ2 H2) (hd:∀Z H,Pv n Z H->D.nx Z H):A19 J g tb D Z H:=qy G Pv h0 hok hs hd
theorem AI.upd{st l:Addr}{o:HO}(h:AI H st)(n:st≠l):AI (upd H l o) st:=by obtain⟨ns,hn,e⟩:=h;exact⟨ns,hn,by rw[Ab n];exact e⟩
theorem AI.ne{st l:Addr}(h:AI H st)(n:H l=none):st≠l:=by obtain⟨_,_,e⟩:=h;exact A9 e n
theorem AI.neT{st l:Addr}(h:AI H st)(n:H l=some (.tup xs)):l≠st:=by
 obtain⟨_,_,e⟩:=h;exact Y1 n e (λz=>by cases z)
theorem But.upd{st l:Addr}{o:HO}(h:But st H H1)(hl:H l=none):But st H (L2.upd H1 l o):=λb u n e=>by rw[Ab (A9 e hl)];exact h b u n e
theorem But.new{st l:Addr}{o:HO}(h:But st H H1)(hl:H1 l=none):But st H (L2.upd H1 l o):=h.trans (L1 hl)
theorem But.same{st:Addr}(h:But st H H1)(s:AA H1 H2):But st H H2:=h.trans (Iw s)
theorem But.none{st l:Addr}(h:But st H H1)(n:l≠st)(hl:H1 l=none):H l=none:=by
 cases e:H l with
 |none=>rfl
 |some o=>rw[h l o n e] at hl;cases hl
theorem Ae(h:n<=1000):n<=sizeLine:=Zzk h (by decide)
end NP
namespace L2
open PySem PySem.Spec PyProof.Rows
def C5:List Expr->Bool
 |[]=>true
 |.Starred ..::_=>false
 |_::r=>C5 r
theorem D7{env:Env}:∀{es:List Expr},C5 es=true->starEach es env=es.map λe=>(false,eval e env)
 |[],_=>rfl
 |e::r,h=>by
  cases e<;>first
   | (exact absurd h Zzd)
   | (rw[Zz9,<- D7 (env:=env) (es:=r) h];rfl)
theorem B6(h:C5 [e]=true):starEach (e::es) env=(false,eval e env)::starEach es env:=by
 cases e<;>first
  | (exact absurd h Zzd)
  |rfl
theorem Az(h:C5 (e::es)=true):C5 [e]=true/\C5 es=true:=by
 cases e<;>first
  | (exact absurd h Zzd)
  |exact⟨rfl,h⟩
theorem C1(h:C5 es=true):(backTo pos (starEach es env)).any (·.1)=false:=by
 rw[D7 h];unfold backTo;rw[Zyd,List.any_map];induction es with
 |nil=>rfl
 |cons e r ih =>
  rw[Zwe];exact ih (Az h).2
theorem az(h:C5 es=true):(backTo pos (starEach es env)).all (λx=>!x.1)=true:=by
 rw[D7 h];unfold backTo;rw[Zyd,Zvi];induction es with
 |nil=>rfl
 |cons e r ih =>
  rw[Zwu];exact ih (Az h).2
section
variable {p cpos:Pos}{o:Expr}{to:TE}{id:String}{r:List V->Hp->VK->Prop}{k:Nat}{name:Str}
theorem A2(ha:PE X e te)(hr:PA X es t)(hn:C5 [e]=true:=by rfl):PA X (e::es) (Qc te t):=w9 ha hr (B6 hn)
theorem A7(h:Has X.prog X.w X.K X.mg X.base x k ps sp)(hr:AN k X.A)(hg:Gl X x)(ha:PA X (e::es) t)(hn:C5 (e::es)=true:=by rfl)(hdb:(x == ("__debug__" : Str))=false:=by decide) :
  PE X (.Call (.Name x p) (e::es) [] pos) (Qe sp [] E0 t):=o0 h hr hg ha hdb (B6 (Az hn).1) (C1 (Az hn).2)
theorem Aj(hc:AK X (.builtin id) r)(hg:Gl X x)(hm:X.mg x=none)(hv:bootBuiltins x=some (.builtin id))(ha:PA X (e::es) t)(hn:C5 (e::es)=true:=by rfl)(hnm:x ≠ "__name__" := by decide)(hdb:(x == ("__debug__" : Str))=false:=by decide) :
  PE X (.Call (.Name x p) (e::es) [] pos) (tCB r t):=o6 hc hg hm hv ha hnm hdb (B6 (Az hn).1) (C1 (Az hn).2)
theorem Au(hc:AK X (.type T) r)(hg:Gl X x)(hm:X.mg x=none)(hv:bootBuiltins x=some (.type T))(ha:PA X (e::es) t)(hn:C5 (e::es)=true:=by rfl)(hnm:x ≠ "__name__" := by decide)(hdb:(x == ("__debug__" : Str))=false:=by decide) :
  PE X (.Call (.Name x p) (e::es) [] pos) (tCB r t):=ie hc hg hm hv ha hnm hdb (B6 (Az hn).1) (C1 (Az hn).2)
theorem Bw(pa:PlainAttrs T)(slot:Slot T name id)(hty:typeOf (.builtin id)=pure (.type "method_descriptor"))(hm:MtR X id rm)(ho:PE X o to)(ha:PA X (e::es) t)(hT:T = "list" \/ T = "dict" \/ T = "str" := by decide)
  (hbase:attributeBase o name X.env (eval o X.env)=eval o X.env:=by rfl) (hn:C5 (e::es)=true:=by rfl) (hlen:(e::es).length<20:=by decide) (hline:(apos.endLine == cpos.line)=true:=by rfl) :
  PE X (.Call (.Attribute o name apos) (e::es) [] cpos) (tBA T rm to t):=by
 refine A1i pa slot hty hm ho ha hT hbase ?_ hline (B6 (Az hn).1) (C1 (Az hn).2);rw[az hn,Zyf];have e1:(backToKw cpos (keywordEach [] X.env)).all (λx=>x.1.isSome)=true:=rfl;rw[e1,Zyf];refine FQ ?_;show (e::es).length+0+0<30;lia
theorem C9{ta:TA}(hg:Gl X "range")(hm:X.mg "range" = none)(ha:PA X [e] ta)(hn:C5 [e]=true:=by rfl):PI X tg (.Call (.Name "range" p) [e] [] pos) (Ug ta):=ic hg hm ha (D7 hn)
end
mutual
def RD(H:Hp):PyData->V->Prop
 |.none,v=>v=.non
 |.bool b,v=>v=.bl b
 |.int i,v=>v=.int i
 |.str x,v=>v=.str x
 |.list ds,v=>∃a xs,v=.ref a/\H a=some (.lst xs)/\RDs H ds xs
 |.tuple ds,v=>∃a xs,v=.ref a/\H a=some (.tup xs)/\RDs H ds xs
 |.dict _,_=>False
def RDs(H:Hp):List PyData->List V->Prop
 |[],xs=>xs=[]
 |d::ds,xs=>∃x r,xs=x::r/\RD H d x/\RDs H ds r
end
mutual
theorem RD.reads(ok:HOk P w H h):∀(d:PyData) (v:V) (u:Value),RD H d v->AC v u->∃as,Reads h u d as
 |.none,v,u,r,e=>by
  rw[RD] at r;subst r;cases e;exact⟨_,.none⟩
 |.bool b,v,u,r,e=>by
  rw[RD] at r;subst r;cases e;exact⟨_,.bool b⟩
 |.int i,v,u,r,e=>by
  rw[RD] at r;subst r;obtain⟨t,rfl⟩:=e;exact⟨_,.int i t⟩
 |.str x,v,u,r,e=>by
  rw[RD] at r;subst r;obtain⟨t,rfl⟩:=e;exact⟨_,.str x t⟩
 |.list ds,v,u,r,e=>by
  rw[RD] at r;obtain⟨a,xs,rfl,ha,r⟩:=r;cases e;obtain⟨hz,its,n,rv,eo⟩:=ok a _ ha;obtain⟨as,q⟩:=RDs.reads ok ds xs its r rv;exact⟨_,.list (vs:=its.toArray) eo rfl rfl q⟩
 |.tuple ds,v,u,r,e=>by
  rw[RD] at r;obtain⟨a,xs,rfl,ha,r⟩:=r;cases e;obtain⟨hz,its,rv,o,ho,hc,n,hd⟩:=ok a _ ha;obtain⟨as,q⟩:=RDs.reads ok ds xs its r rv;exact⟨_,.tuple (vs:=its.toArray) ho hc hd q⟩
 |.dict _,v,u,r,e=>by
  rw[RD] at r;exact r.elim
theorem RDs.reads(ok:HOk P w H h):∀(ds:List PyData) (xs:List V) (us:List Value),RDs H ds xs->AB xs us->∃as,ReadsAll h us ds as
 |[],xs,us,r,e=>by
  rw[RDs] at r;subst r;cases e;exact⟨_,.nil⟩
 |d::ds,xs,us,r,e=>by
  rw[RDs] at r;obtain⟨x,r',rfl,h1,h2⟩:=r;cases e with
  |cons r1 r2 =>
   obtain⟨as,q1⟩:=RD.reads ok d x _ h1 r1;obtain⟨bs,q2⟩:=RDs.reads ok ds r' _ h2 r2;exact⟨_,.cons q1 q2⟩
end
def okD(d:PyData):Bool:=d.canLay0&&decide (d.depth<=50)
def rEqD:R2:=λx y H Q=>∃d e,RD H d x/\RD H e y/\okD d=true/\okD e=true/\Q (.bl (PyData.eqv d e)) H
def rNeD:R2:=λx y H Q=>∃d e,RD H d x/\RD H e y/\okD d=true/\okD e=true/\Q (.bl (!PyData.eqv d e)) H
theorem Xy{d e:PyData}(h:okD d=true)(hu:A.units+64<cLine):A.units+min d.depth e.depth<cLine:=by
 have h1:d.depth<=50:=FP (Zy8.mp h).2;have h2:min d.depth e.depth<=d.depth:=Nat.min_le_left _ _;lia
theorem oh(hu:X.A.units+64<cLine):OpR X (compareOp .Eq) rEqD:=by
 intro pins s Z H x y v u Q I rx ry h;obtain⟨d,e,rd,re,hd,he,q⟩:=h;obtain⟨as,r1⟩:=RD.reads I.hok d x v rd rx;obtain⟨bs,r2⟩:=RD.reads I.hok e y u re ry;exact SeqAt.compareEq_reads r1 r2 (Zy8.mp hd).1 (Zy8.mp he).1 (Xy hd hu) ⟨.bl _,H,I,rfl,q⟩
theorem Rb(hu:X.A.units+64<cLine):OpR X (compareOp .NotEq) rNeD:=by
 intro pins s Z H x y v u Q I rx ry h;obtain⟨d,e,rd,re,hd,he,q⟩:=h;obtain⟨as,r1⟩:=RD.reads I.hok d x v rd rx;obtain⟨bs,r2⟩:=RD.reads I.hok e y u re ry;exact SeqAt.compareNe_reads r1 r2 (Zy8.mp hd).1 (Zy8.mp he).1 (Xy hd hu) ⟨.bl _,H,I,rfl,q⟩
theorem Py{k:Nat}(hr:AN k A):A.units+64<cLine:=by
 have:=hr.un;lia
theorem HOk.but(x:HOk P w H h)(k:∀b o,b∉wr->h.get? b=some o->h'.get? b=some o)(n:∀b∈wr,H b=none):HOk P w H h':=λa o e =>
 (x a o e).stay (λb u hb q=>k b u (λz=>by
  rcases hb with hb | hb
  ·rw[hb] at z;rw[n a z] at e;cases e
  ·rw[n b z] at hb;cases hb) q) (λ_ q=>q) λ_ _ q=>q
theorem Inv.turnedL(I:Inv X pins Z H s)(k:∀b o,b∉wr->s.heap.get? b=some o->h'.get? b=some o)(f:∀b∈wr,Ge X pins H b):Inv X pins Z H {s with heap:=h',toks:=t'}:=by
 refine I.step (g':=s.gens) (d':=s.drawn) (ch:=wr) (λb hb=>?_) (λb o _ _ hc e _=>k b o hc e) (λb o _ _ hc e _=>⟨o.slots,k b o hc e⟩) (λ_ _ _ _ n=>n)
  (λb o hc e=>⟨o,k b o hc e⟩) (λ_ _ e=>e) (λ_ _ _ e=>e) (λb ps e=>⟨#[],by rw[e];simp⟩) (λm hm=>?_) (I.hok.but k λb hb=>(f b hb).1) I.bare
 ·obtain⟨f0,f1,f2,f3,f4,f5⟩:=f b hb;exact⟨f3,f1,f4,f5⟩
 ·obtain⟨o,es,ep,ho,r⟩:=hm;exact⟨o,es,ep,k _ o (λz=>(f _ z).2.1 rfl) ho,r⟩
theorem Inv.turnedT(I:Inv X pins Z H s)(k:∀b o,b∉wr->s.heap.get? b=some o->h'.get? b=some o)(f:∀b∈wr,Ge X pins H b)(hp:s.heap.objs.size<=p)
  (ht:IsTup h' p its.toArray) (rv:AB xs its) (hz:xs.length<=sizeLine):Inv X pins Z (upd H p (.tup xs)) {s with heap:=h',toks:=t'}:=by
 have hn:H p=none:=I.hok.fresh hp;have ne:∀b o,s.heap.get? b=some o->b≠p:=λb o e=>Av (Zzn e) hp;refine I.step (g':=s.gens) (d':=s.drawn) (ch:=wr) (λb hb=>?_) (λb o _ _ hc e _=>k b o hc e) (λb o _ _ hc e _=>⟨o.slots,k b o hc e⟩) (λb o _ e n=>by rw[Ab (ne b o e)];exact n)
  (λb o hc e=>⟨o,k b o hc e⟩) (λb ys e=>by rw[Ab (A9 e hn)];exact e) (λb o u e=>by rw[Ab (A9 e hn)];exact e) (λb ps e=>⟨#[],by rw[Ab (A9 e hn),e];simp⟩) (λm hm=>?_) (λb u e=>?_) I.bare
 ·obtain⟨f0,f1,f2,f3,f4,f5⟩:=f b hb;exact⟨f3,f1,f4,f5⟩
 ·obtain⟨o,es,ep,ho,r⟩:=hm;exact⟨o,es,ep,k _ o (λz=>(f _ z).2.1 rfl) ho,r⟩
 ·by_cases hb:b=p
  ·subst hb;rw[A1] at e;cases e;exact⟨hz,its,rv,ht⟩
  ·rw[Ab hb] at e;refine(I.hok.but k (λb hb=>(f b hb).1) b u e).stay (λ_ _ _ q=>q) (λc q=>?_) λc ys q=>?_
   ·rw[Ab (A9 q hn)];exact q
   ·rw[Ab (A9 q hn)];exact q
theorem aa{it:Addr}{Pt:Nat->Array Value->Prop}{St:Nat->Heap->Prop}{Mid:Nat->Addr->Heap->Prop}{k:Nat}{Y:List V->Prop}
  (W:WalksT P w X.A it fp wr n Pt St Mid) (hi:i<n) (I:Inv X pins Z H s) (st:St i s.heap) (hf:∀b∈wr,Ge X pins H b) (hv:∀vals,Pt i vals->∃xs,AB xs vals.toList/\xs.length<=100/\Y xs) :
  wpAny (model P w) X.A (pyNext (.ref it)) (λr s1=>∃u,r=some u/\wpAny (model P w) X.A (letOwnedTupleGo (.Tuple elts k pos) (.ref it) u) (λ_ s2 =>
   ∃p xs,u=.ref p/\s.heap.objs.size<=p/\H p=none/\Inv X pins Z (upd H p (.tup xs)) s2/\Y xs/\St (i+1) s2.heap) E s1) E s:=by
 refine W.item i s _ E hi st λT vals h1 tk hP hT ht hm hk=>⟨.ref T,rfl,?_⟩;obtain⟨xs,rv,hz,hY⟩:=hv vals hP;refine W.go elts k pos i T {s with heap:=h1,toks:=tk} _ E hm λh2 st2 hk2=>?_;have hTw:T∉wr:=W.apart i T h1 hm;have ht2:IsTup h2 T vals.toList.toArray:=by
  obtain⟨o,ho,hc,m,hd⟩:=ht;exact⟨o,hk2 T o hTw ho,hc,m,by simpa using hd⟩
 exact⟨T,xs,rfl,hT,I.hok.fresh hT,I.turnedT (t':=tk) (λb o hb e=>hk2 b o hb (hk b o hb e)) hf hT ht2 rv (Zzk hz (by decide)),hY,st2⟩
structure Yz(J:It)(n:Nat)(yl:Nat->List V->Prop)(ok:Hp->Prop):Prop where
 go:∀i H,i<n->ok H->J.go i H
 yld:∀i H x H',i<n->ok H->J.yld i H x H'->∃p ys,x=.ref p/\H p=none/\H'=upd H p (.tup ys)/\yl i ys
 stop:∀H,ok H->J.stop n H
theorem fg{yl:Nat->List V->Prop}{ok:Hp->Prop}{tb:TS}{D:AY}(G:Yz J n yl ok)(Pv:Nat->St->Hp->Prop)(h0:Pv 0 Z H)(hok:∀i Z H,i<=n->Pv i Z H->ok H)
  (hs:∀i ys p Z H,i<n->yl i ys->Pv i Z H->H p=none->g (.ref p) Z (upd H p (.tup ys)) λσ2 H2=>tb {D with nx:=Pv (i+1),ct:=Pv (i+1),bk:=D.nx} σ2 H2) (hd:∀Z H,Pv n Z H->D.nx Z H):NP.A19 J g tb D Z H:=by
 refine⟨λi m Z H=>m=n - i/\i<=n/\Pv i Z H,⟨n,by simp,Zym _,h0⟩,?_⟩;rintro i m Z H ⟨rfl,hi,p⟩;have q:=hok i Z H hi p;by_cases hlt:i<n
 ·refine .inr ⟨G.go i H hlt q,Pv (i+1),λZ' H' p'=>⟨n - (i+1),by lia,rfl,hlt,p'⟩,λx H' y=>?_⟩;obtain⟨a,ys,e1,e2,e3,y'⟩:=G.yld i H x H' hlt q y;subst e1 e3;exact hs i ys a Z H hlt y' p e2
 ·have e:i=n:=by lia
  subst e;exact .inl ⟨G.stop H q,hd Z H p⟩
theorem gT2{x:V}{Q:St->Hp->Prop}(h:Q ((Z.set i (some x)).set j (some y)) (upd H p (.tup [x,y]))):xu K 2 (Ry (Eh i) (Ry (Eh j) EA)) (.ref p) Z (upd H p (.tup [x,y])) Q :=
 ⟨p,_,rfl,SqT.of A1,rfl,_,_,rfl,_,_,rfl,rfl,h⟩
def ItE(a:Addr)(xs:List V):It:=⟨λi H=>H a=some (.lst xs)/\i<xs.length,λi H x H'=>∃p y,x=.ref p/\H p=none/\xs[i]?=some y/\H'=upd H p (.tup [.int i,y]),λi H=>H a=some (.lst xs)/\i=xs.length⟩
theorem qu(a:Addr)(xs:List V):Yz (ItE a xs) xs.length (λi ys=>∃y,xs[i]?=some y/\ys=[.int i,y]) (λH=>H a=some (.lst xs)) :=
 ⟨λi H h o=>⟨o,h⟩,λi H x H' h o y=>by obtain⟨p,z,e1,e2,e3,e4⟩:=y;exact⟨p,_,e1,e2,e4,z,e3,rfl⟩,λH o=>⟨o,rfl⟩⟩
theorem i5{k:Nat}(e it a:Addr)(xs:List V)(hei:e≠it):O3 P w K (.Tuple elts k pos) (ItE a xs) [e,it] e (λi h=>(∃old,IsEnum h e it i old)/\h.IsListIter it a i) where
 mem:=by simp
 obj:=λi h st b hb=>by
  obtain⟨⟨old,he⟩,o,ho,c,d⟩:=st;rcases Zzu.mp hb with q | q
  ·rw[q];exact⟨_,he,λv z=>by cases z⟩
  ·rw[Zzr.mp q];exact⟨o,ho,λv z=>by rw[d] at z;cases z⟩
 keep:=λi h h' st k=>by
  obtain⟨⟨old,he⟩,hi⟩:=st;exact⟨⟨old,k e (by simp) _ he⟩,hi.at λo q=>k it (by simp) o q⟩
 item:=by
  intro X hP hw hK hc i pins s Z H E I hf st hg;subst hP hw hK;obtain⟨hq,hlt⟩:=hg;obtain⟨its,rv,hl,hal⟩:=Bc I hq;have f1:=hf e (by simp);have f2:=hf it (by simp);have hae:a≠e:=A9 hq f1.1;have hai:a≠it:=A9 hq f2.1;have hlen:=rv.length;have hv:∀vals:Array Value,(∃t x,its.toArray[i]?=some x/\vals=#[.int i t,x])->∃ys,AB ys vals.toList/\ys.length<=100/\∃y,xs[i]?=some y/\ys=[V.int i,y]:=by
   rintro vals ⟨t,x,hx,rfl⟩;obtain⟨u,hu,ru⟩:=rv.get (x:=xs[i]) (i:=i) (by simp[hlt]);have hx:its[i]?=some x:=by simpa using hx
   rw[hx] at hu;cases hu;exact⟨[.int i,xs[i]],.cons ⟨t,rfl⟩ (.cons ru .nil),by simp,xs[i],by simp[hlt],rfl⟩
  refine thn (aa (E:=E) (WalksT.enumerate (I.ok.hd hc) e it a hei hae hai its.toArray) (by rw[Zzs];lia) I ⟨st.1,st.2,hl⟩ hf hv) λr s1 ⟨u,hr,h3⟩=>⟨u,hr,thn h3 λ_ s2 z0=>?_⟩;obtain⟨p,ys,hu,hp,hn,I2,⟨y,hy,e2⟩,st2⟩:=z0;subst hu e2;refine⟨.ref p,_,I2,rfl,⟨p,y,rfl,hn,hy,rfl⟩,⟨st2.1,st2.2.1⟩,λb hb=>?_⟩;have hbl:b<s.heap.objs.size:=by
   obtain⟨⟨old,he⟩,o,ho,c,d⟩:=st;rcases Zzu.mp hb with q | q
   ·rw[q];exact Zzn he
   ·rw[Zzr.mp q];exact Zzn ho
  rw[Ab (Av hbl hp)];exact(hf b hb).1
 done:=by
  intro X hP hw hK hc i pins s Z H E I hf st hg;subst hP hw hK;obtain⟨hq,hlt⟩:=hg;obtain⟨its,rv,hl,hal⟩:=Bc I hq;have f1:=hf e (by simp);have f2:=hf it (by simp);have hlen:=rv.length;have hi:its.toArray.size=i:=by rw[Zzs];lia
  refine(WalksT.enumerate (I.ok.hd hc) e it a hei (A9 hq f1.1) (A9 hq f2.1) its.toArray).done s _ E ?_ λh' tk hk=>⟨rfl,I.turnedL hk hf⟩;rw[hi];exact⟨st.1,st.2,hl⟩
 self:=λ_ _ _ _ _ st h=>by
  obtain⟨⟨old,he⟩,_⟩:=st;exact wpAny_pyIter_enum he h
def Yg(ta:TA):TI:=λZ H R=>ta Z H λvs H1=>∃a xs,vs=[.ref a]/\H1 a=some (.lst xs)/\R (ItE a xs) H1
theorem Vd{k:Nat}{pt p:Pos}{ta:TA}(hg:Gl X "enumerate")(hm:X.mg "enumerate" = none)(ha:PA X [e] ta)(hn:C5 [e]=true:=by rfl):PI X (.Tuple elts k pt) (.Call (.Name "enumerate" p) [e] [] pos) (Yg ta):=by
 intro pins s Z H R I h;refine Call_ (Jf I hg hm NP.We (Zxf (thn (ha pos pins s Z H _ I h) λus s1 ⟨vs,H1,I1,r1,q1⟩=>?_) (D7 hn) rfl));obtain⟨a,xs,e,hq,q⟩:=q1;subst e;obtain⟨u,rfl,ru⟩:=Gf r1;cases ru;obtain⟨its,rv,hl,hal⟩:=Bc I1 hq;refine call_enumerate_list hl λh' he hi hz hk=>wpAny_pyIter_enum he ?_;have I2:Inv X pins Z H1 {s1 with heap:=h'}:=I1.kept (t':=s1.toks) hk;refine⟨s1.heap.objs.size+1,[s1.heap.objs.size+1,s1.heap.objs.size],_,_,H1,rfl,I2,i5 _ _ a xs (Nat.succ_ne_self _),⟨⟨_,he⟩,hi⟩,λb hb=>?_,q⟩;have hb':s1.heap.objs.size<=b:=by
  rcases Zzu.mp hb with z | z
  ·rw[z];exact Nat.le_succ _
  ·rw[Zzr.mp z];exact Zzx _
 exact I1.fpOk hb' (I1.hok.fresh hb')
theorem Oo(ns:List Int):∀n,n<=ns.length->preSum (λi=>(ns[i]?).getD 0) n=(ns.take n).sum
 |0,_=>by simp[preSum]
 |n+1,h=>by
  have hn:n<ns.length:=h;rw[preSum,Oo ns n (by lia),Zz1,List.sum_append];simp only[Zzp hn,Zw0,Option.toList_some,List.sum_cons,List.sum_nil,Zwx]
theorem Ze(ns:List Int):preSum (λi=>(ns[i]?).getD 0) ns.length=ns.sum:=by
 rw[Oo ns _ (Zzx _),Zz4]
theorem Q5:∀{ns:List Int} {us:List Value} {i:Nat} {u:Value},AB (ns.map V.int) us->us[i]?=some u->∃t,u=.int ((ns[i]?).getD 0) t
 |[],_,i,u,.nil,e=>by simp at e
 |n::r,_,0,u,.cons h t,e=>by
  obtain⟨t',h⟩:=h;simp at e;subst e;exact⟨t',by rw[h];rfl⟩
 |n::r,_,i+1,u,.cons h t,e=>by
  obtain⟨t',q⟩:=Q5 (ns:=r) (i:=i) (u:=u) t (by simpa using e);exact⟨t',by rw[q];simp⟩
def vj:List V->Hp->VK->Prop:=λxs H Q=>∃(a:Addr) (ns:List Int),xs=[.ref a]/\H a=some (.lst (ns.map V.int))/\Q (.int ns.sum) H
def Pl:V->List V->Hp->VK->Prop:=λx vs H Q=>∃l xs i y,x=.ref l/\vs=[.int i,y]/\H l=some (.lst xs)/\0<=i/\i<2^60/\xs.length<1000000/\Q .non (upd H l (.lst (xs.take (min i.toNat xs.length)++y::xs.drop (min i.toNat xs.length))))
def FH:List V->Hp->VK->Prop:=λxs H Q=>∃i j,xs=[.int i,.int j]/\Q (.int (if j > i then j else i)) H
theorem Uq(hc:X.calm=true):AK X (.builtin "max") FH:=ju hc
theorem Qu{d:Nat}{k:Int}(h:0<=k):HT.sIx n d (some k)=min k.toNat n:=by
 unfold HT.sIx;simp only;split<;>lia
theorem yg{i j:Int}(hi:0<=i)(hj:0<=j):Ds xs (some i) (some j)=(xs.drop i.toNat).take (j.toNat - i.toNat):=by
 unfold Ds;rw[Qu hi,Qu hj];apply Zxg;intro k;simp only[Zvh,Zwb];by_cases h1:i.toNat<=xs.length
 ·rw[Zus h1];by_cases h2:j.toNat<=xs.length
  ·rw[Zus h2]
  ·have h2:xs.length<=j.toNat:=by lia
   rw[Nat.min_eq_right h2];by_cases h3:k<xs.length - i.toNat
   ·rw[FT h3,FT (by lia)]
   ·rw[FS h3];split
    ·rw[Zz0 (by lia)]
    ·rfl
 ·have h1:xs.length<=i.toNat:=by lia
  rw[Nat.min_eq_right h1];have:xs[xs.length+k]?=none:=Zz0 (by lia);rw[this,Zz0 (by lia)];split<;>split<;>rfl
theorem Wb{j:Int}(hj:0<=j):Ds xs none (some j)=xs.take j.toNat:=by
 unfold Ds;rw[Qu hj];have e:HT.sIx xs.length 0 none=0:=rfl;rw[e,List.drop_zero,Nat.sub_zero];apply Zxg;intro k;simp only[Zvh];by_cases h:k<xs.length
 ·by_cases h2:k<j.toNat
  ·rw[FT (by lia),FT h2]
  ·rw[FS (by lia),FS h2]
 ·rw[Zz0 (by lia)];split<;>split<;>rfl
def DN(i j:Int):Prop:=DU i j\/(i.natAbs<10^3000/\j.natAbs<10^3000)
theorem gj{i:Int}(h:i.natAbs<10^3000):Builtin.Int.intBits i<=2^20:=by
 unfold Builtin.Int.intBits;split
 ·exact Zym _
 ·rename_i h0;have h1:i.natAbs≠0:=by
   intro e;exact h0 (by simpa using e)
  have h2:i.natAbs.log2<2^19:=by
   rw[Nat.log2_lt h1];refine Zze h (Zzk (Nat.pow_le_pow_left (by decide:(10:Nat)<=2^4) 3000) ?_);rw[<- Nat.pow_mul];exact Nat.pow_le_pow_right (by decide) (by decide)
  have:(2:Nat)^20=2^19+2^19:=by decide
  have:(1:Nat)<=2^19:=by decide
  lia
theorem DN.ok{i j:Int}(h:DN i j):IntMulOk i j:=h.elim DU.ok λh=>.of_bits (gj h.1) (gj h.2)
theorem Po:OpR X (binaryOp .Mult) (rI DN λi j=>.int (i*j)):=opI λ_ _ _ _ _ _ _ hc q=>mul_int q hc.ok
def A17(a b:Addr)(xs ys:List V):It:=⟨λi H=>H a=some (.lst xs)/\H b=some (.lst ys)/\i<min xs.length ys.length,
 λi H x H'=>∃p y z,x=.ref p/\H p=none/\xs[i]?=some y/\ys[i]?=some z/\H'=upd H p (.tup [y,z]),λi H=>H a=some (.lst xs)/\H b=some (.lst ys)/\i=min xs.length ys.length⟩
theorem qt(a b:Addr)(xs ys:List V):Yz (A17 a b xs ys) (min xs.length ys.length) (λi us=>∃y z,xs[i]?=some y/\ys[i]?=some z/\us=[y,z]) (λH=>H a=some (.lst xs)/\H b=some (.lst ys)) :=
 ⟨λi H h o=>⟨o.1,o.2,h⟩,λi H x H' h o y=>by obtain⟨p,u,v,e1,e2,e3,e4,e5⟩:=y;exact⟨p,_,e1,e2,e5,u,v,e3,e4,rfl⟩,λH o=>⟨o.1,o.2,rfl⟩⟩
theorem i4{k:Nat}(z TI TO i1 i2 a b:Addr)(xs ys:List V)(nd:[z,TI,TO,i1,i2].Nodup) :
  O3 P w K (.Tuple elts k pos) (A17 a b xs ys) [z,TI,TO,i1,i2] z (λi h=>IsZip h z TI TO .none/\IsPair h TI (.ref i1) (.ref i2)/\(∃u v,IsPair h TO u v)/\h.IsListIter i1 a i/\h.IsListIter i2 b i):=by
 have nd':=nd;simp only[Zyg,Zzu,Zzf,or_false,not_or] at nd';obtain⟨⟨n1,n2,n3,n4⟩,⟨n5,n6,n7⟩,⟨n8,n9⟩,n10,_⟩:=nd';have objs:∀(i:Nat) (h:Heap),(IsZip h z TI TO .none/\IsPair h TI (.ref i1) (.ref i2)/\(∃u v,IsPair h TO u v)/\h.IsListIter i1 a i/\h.IsListIter i2 b i)->∀c∈[z,TI,TO,i1,i2],∃o,h.get? c=some o/\∀v,o.data≠.cell v:=by
  rintro i h ⟨hz,hT,⟨u,v,hO⟩,⟨o1,g1,c1,d1⟩,⟨o2,g2,c2,d2⟩⟩ c hc;simp only[Zzu,Zzf,or_false] at hc;rcases hc with q | q | q | q | q<;>subst q
  ·exact⟨_,hz,λ_ y=>by cases y⟩
  ·exact⟨_,hT,λ_ y=>by cases y⟩
  ·exact⟨_,hO,λ_ y=>by cases y⟩
  ·exact⟨o1,g1,λ_ y=>by rw[d1] at y;cases y⟩
  ·exact⟨o2,g2,λ_ y=>by rw[d2] at y;cases y⟩
 have apart:∀{X:Cx} {pins:List (Addr×Obj)} {H:Hp},(∀c∈[z,TI,TO,i1,i2],Ge X pins H c)->∀{us vs:List V},H a=some (.lst us)->H b=some (.lst vs)->ZipApart z TI TO i1 i2 a b:=by
  intro X pins H hf us vs ha hb;have fr:∀c∈[z,TI,TO,i1,i2],a≠c/\b≠c:=λc hc=>⟨A9 ha (hf c hc).1,A9 hb (hf c hc).1⟩;exact⟨λe=>n1 e.symm,λe=>n2 e.symm,λe=>n3 e.symm,λe=>n4 e.symm,n5,n6,n7,n8,n9,n10,(fr z (by simp)).1,(fr TO (by simp)).1,(fr i1 (by simp)).1,(fr i2 (by simp)).1,(fr z (by simp)).2,(fr TO (by simp)).2,(fr i1 (by simp)).2,(fr i2 (by simp)).2⟩
 refine⟨by simp,objs,?_,?_,?_,?_⟩
 ·rintro i h h' ⟨hz,hT,⟨u,v,hO⟩,g1,g2⟩ kp;exact⟨kp z (by simp) _ hz,kp TI (by simp) _ hT,⟨u,v,kp TO (by simp) _ hO⟩,g1.at λo e=>kp i1 (by simp) o e,g2.at λo e=>kp i2 (by simp) o e⟩
 ·intro X hP hw hK hc i pins s Z H E I hf st hg;subst hP hw hK;obtain⟨ha,hb,hlt⟩:=hg;obtain⟨its,rv,hl,hal⟩:=Bc I ha;obtain⟨its2,rv2,hl2,hal2⟩:=Bc I hb;have AH:=rv.length;have AX:=rv2.length;obtain⟨s1,s2,s3,s4,s5⟩:=id st;have hv:∀vals:Array Value,(∃x y,its.toArray[i]?=some x/\its2.toArray[i]?=some y/\vals=#[x,y])->∃us,AB us vals.toList/\us.length<=100/\∃y z,xs[i]?=some y/\ys[i]?=some z/\us=[y,z]:=by
   rintro vals ⟨x,y,hx,hy,rfl⟩;have l1:i<xs.length:=by lia
   have l2:i<ys.length:=by lia
   obtain⟨u,hu,ru⟩:=rv.get (x:=xs[i]) (i:=i) (by simp[l1]);obtain⟨u',hu',ru'⟩:=rv2.get (x:=ys[i]) (i:=i) (by simp[l2]);have hx:its[i]?=some x:=by simpa using hx
   have hy:its2[i]?=some y:=by simpa using hy
   rw[hx] at hu;rw[hy] at hu';cases hu;cases hu';exact⟨[xs[i],ys[i]],.cons ru (.cons ru' .nil),by simp,xs[i],ys[i],by simp[l1],by simp[l2],rfl⟩
  have sub:∀c∈[z,TO,i1,i2],c∈[z,TI,TO,i1,i2]:=λc hc=>by simp at hc ⊢;rcases hc with h | h | h | h<;>simp[h]
  refine thn (aa (E:=E) (WalksT.zip2 (I.ok.hd hc) z TI TO i1 i2 a b (apart hf ha hb) its.toArray its2.toArray) (by rw[Zzs,Zzs];lia) I ⟨s1,s2,s3,s4,s5,hl,hl2⟩ (λc hc=>hf c (sub c hc)) hv) λr t1 ⟨u,hr,h3⟩ =>
   ⟨u,hr,thn h3 λ_ t2 ⟨p,us,hu,hp,hn,I2,⟨y,y',hy,hy',e2⟩,st2⟩=>?_⟩
  subst hu e2;refine⟨.ref p,_,I2,rfl,⟨p,y,y',rfl,hn,hy,hy',rfl⟩,⟨st2.1,st2.2.1,st2.2.2.1,st2.2.2.2.1,st2.2.2.2.2.1⟩,λc hc=>?_⟩;obtain⟨o,ho,_⟩:=objs i _ st c hc;rw[Ab (Av (Zzn ho) hp)];exact(hf c hc).1
 ·intro X hP hw hK hc i pins s Z H E I hf st hg;subst hP hw hK;obtain⟨ha,hb,hlt⟩:=hg;obtain⟨its,rv,hl,hal⟩:=Bc I ha;obtain⟨its2,rv2,hl2,hal2⟩:=Bc I hb;have AH:=rv.length;have AX:=rv2.length;obtain⟨s1,s2,s3,s4,s5⟩:=id st;have sub:∀c∈[z,TO,i1,i2],c∈[z,TI,TO,i1,i2]:=λc hc=>by simp at hc ⊢;rcases hc with h | h | h | h<;>simp[h]
  have hi:min its.toArray.size its2.toArray.size=i:=by rw[Zzs,Zzs];lia
  refine(WalksT.zip2 (I.ok.hd hc) z TI TO i1 i2 a b (apart hf ha hb) its.toArray its2.toArray).done s _ E ?_ λh' tk hk=>⟨rfl,I.turnedL hk λc hc=>hf c (sub c hc)⟩;rw[hi];exact⟨s1,s2,s3,s4,s5,hl,hl2⟩
 ·intro A i s Q E st h;exact wpAny_pyIter_zip st.1 h
def Ye(ta:TA):TI:=λZ H R=>ta Z H λvs H1=>∃a b xs ys,vs=[.ref a,.ref b]/\H1 a=some (.lst xs)/\H1 b=some (.lst ys)/\R (A17 a b xs ys) H1
theorem d9{k:Nat}{pt p:Pos}{ta:TA}(hg:Gl X "zip")(hm:X.mg "zip" = none)(ha:PA X [e,e2] ta)(hn:C5 [e,e2]=true:=by rfl):PI X (.Tuple elts k pt) (.Call (.Name "zip" p) [e,e2] [] pos) (Ye ta):=by
 intro pins s Z H R I h;refine Call_ (Jf I hg hm NP.su (Zxf (thn (ha pos pins s Z H _ I h) λus s1 ⟨vs,H1,I1,r1,q1⟩=>?_) (B6 (Az hn).1) (C1 (Az hn).2)));obtain⟨a,b,xs,ys,e,ha,hb,q⟩:=q1;subst e;obtain⟨u,u',rfl,ru,ru'⟩:=Ti r1;cases ru;cases ru';obtain⟨its,rv,hl,hal⟩:=Bc I1 ha;obtain⟨its2,rv2,hl2,hal2⟩:=Bc I1 hb;refine call_zip_2 hl hl2 λh' g1 g2 g3 g4 g5 hz hk=>wpAny_pyIter_zip g1 ?_;have I2:Inv X pins Z H1 {s1 with heap:=h'}:=I1.kept (t':=s1.toks) hk;have nd:[s1.heap.objs.size+4,s1.heap.objs.size+2,s1.heap.objs.size+3,s1.heap.objs.size,s1.heap.objs.size+1].Nodup:=by
  simp only[Zyg,Zzu,Zzf,or_false,not_or,Zwo,and_true,not_false_eq_true];refine⟨⟨?_,?_,?_,?_⟩,⟨?_,?_,?_⟩,⟨?_,?_⟩,?_⟩<;>(intro z;have z':(_:Nat)=_:=z;lia)
 refine⟨s1.heap.objs.size+4,[s1.heap.objs.size+4,s1.heap.objs.size+2,s1.heap.objs.size+3,s1.heap.objs.size,s1.heap.objs.size+1],_,_,H1,rfl,I2,i4 _ _ _ _ _ a b xs ys nd,⟨g1,g2,⟨_,_,g3⟩,g4,g5⟩,λc hc=>?_,q⟩;have hb':s1.heap.objs.size<=c:=by
  simp only[Zzu,Zzf,or_false] at hc;rcases hc with q | q | q | q | q<;>rw[q]<;>first | exact Zvz _ _ | exact Zzx _
 exact I1.fpOk hb' (I1.hok.fresh hb')
def ItZ3(a b c:Addr)(xs ys zs:List V):It:=⟨λi H=>(H a=some (.lst xs)/\H b=some (.lst ys)/\H c=some (.lst zs))/\i<min xs.length (min ys.length zs.length),
 λi H x H'=>∃p y z v,x=.ref p/\H p=none/\xs[i]?=some y/\ys[i]?=some z/\zs[i]?=some v/\H'=upd H p (.tup [y,z,v]),λi H=>(H a=some (.lst xs)/\H b=some (.lst ys)/\H c=some (.lst zs))/\i=min xs.length (min ys.length zs.length)⟩
def fb(ta:TA):TI:=λZ H R=>ta Z H λvs H1=>∃a b c xs ys zs,vs=[.ref a,.ref b,.ref c]/\H1 a=some (.lst xs)/\H1 b=some (.lst ys)/\H1 c=some (.lst zs)/\R (ItZ3 a b c xs ys zs) H1
theorem Ny{t u:TS}{D:AY}(M:St->Hp->Prop)(hrest:∀Z' H',M Z' H'->u D Z' H')(h:∀KK:St->Hp->Prop,(∀Z' H',M Z' H'->KK Z' H')->t {D with nx:=KK} Z H):Ju t u D Z H:=h (u D) hrest
theorem cut2{t t2 u:TS}{D:AY}(M:St->Hp->Prop)(hrest:∀Z' H',M Z' H'->u D Z' H')(h:∀KK:St->Hp->Prop,(∀Z' H',M Z' H'->KK Z' H')->t {D with nx:=λZ H=>t2 {D with nx:=KK} Z H} Z H):Ju t (Ju t2 u) D Z H:=h (u D) hrest
theorem cut3{t t2 t3 u:TS}{D:AY}(M:St->Hp->Prop)(hrest:∀Z' H',M Z' H'->u D Z' H')
  (h:∀KK:St->Hp->Prop,(∀Z' H',M Z' H'->KK Z' H')->t {D with nx:=λZ H=>t2 {D with nx:=λZ H=>t3 {D with nx:=KK} Z H} Z H} Z H):Ju t (Ju t2 (Ju t3 u)) D Z H:=h (u D) hrest
theorem Ck(h:H a=some (.lst xs)):P4 H (.ref a)=some "list" := by unfold P4;simp only[h]
theorem zy(h:H a=some (.tup xs)):P4 H (.ref a)=some "tuple" := by unfold P4;simp only[h]
theorem gt2{x:V}{Q:St->Hp->Prop}(e:H p=some (.tup [x,y]))(h:Q ((Z.set i (some x)).set j (some y)) H):xu K 2 (Ry (Eh i) (Ry (Eh j) EA)) (.ref p) Z H Q :=
 ⟨p,_,rfl,SqT.of e,rfl,_,_,rfl,_,_,rfl,rfl,h⟩
theorem Inv.freeze(I:Inv X pins Z H s)(h:H a=some (.dK kvs)):∃o,s.heap.get? a=some o/\Inv X pins Z (upd H a (.frz o (.dK kvs))) s:=by
 obtain⟨hz,hS,vs,r,o,es,ep,ho,AO⟩:=I.hok a _ h;have ne:∀b u,H b=some u->u≠.dK kvs->b≠a:=λb u e n z=>by rw[z,h] at e;exact n (Zzm e).symm
 refine⟨o,ho,I.un (t':=s.toks) ⟨λb ob e n _ _=>e,λb ob e n _ _=>⟨ob.slots,e⟩,λb ob e n _=>?_,λb ob e _=>⟨ob,e⟩,λb xs e=>?_,λb ob u e=>?_,λb ps e=>⟨#[],?_⟩⟩ λb u e=>?_⟩
 ·rw[Ab (λz=>by rw[z,h] at n;cases n)];exact n
 ·rw[Ab (ne b _ e (λz=>by cases z))];exact e
 ·rw[Ab (ne b _ e (λz=>by cases z))];exact e
 ·rw[Ab (ne b _ e (λz=>by cases z)),e];simp
 ·by_cases hb:b=a
  ·subst hb;rw[A1] at e;cases e;exact⟨ho,hz,hS,vs,r,o,es,ep,ho,AO⟩
  ·rw[Ab hb] at e;refine(I.hok b u e).stay (λ_ _ _ q=>q) (λc q=>?_) λc ys q=>?_
   ·rw[Ab (ne c _ q (λz=>by cases z))];exact q
   ·rw[Ab (ne c _ q (λz=>by cases z))];exact q
def ItD(a:Addr)(o:Obj)(kvs:List (Key×V)):It:=⟨λi H=>H a=some (.frz o (.dK kvs))/\i<kvs.length,λi H x H'=>H'=H/\∃k v,kvs[i]?=some (k,v)/\x=kV k,λi H=>H a=some (.frz o (.dK kvs))/\kvs.length<=i⟩
theorem A1t(a:Addr)(o:Obj)(kvs:List (Key×V)):Si (ItD a o kvs) kvs.length (λi x=>∃k v,kvs[i]?=some (k,v)/\x=kV k) (λH=>H a=some (.frz o (.dK kvs))) :=
 ⟨λ_ _ h o=>⟨o,h⟩,λ_ _ _ _ _ _ y=>y,λ_ o=>⟨o,Zzx _⟩⟩
theorem qe{κ:Type}:∀{kvs:List (κ×V)} {vs:List (κ×Value)} {i:Nat} {k:κ} {v:V},KV kvs vs->kvs[i]?=some (k,v)->∃u,vs[i]?=some (k,u)
 |_,_,_,_,_,.nil,e=>by simp at e
 |_,(k',u')::_,0,k,v,.cons r _,e=>by
  simp at e;subst e;exact⟨u',by simp;exact r.1.symm⟩
 |_,_::_,i+1,k,v,.cons _ t,e=>by
  obtain⟨u,h⟩:=qe (i:=i) t (by simpa using e);exact⟨u,by simpa using h⟩
theorem ze{k:Key}(h:(B5 P w).is k u=true):AC (kV k) u:=by
 rcases Bx h with ⟨i,t,rfl,rfl⟩ | ⟨x,t,rfl,rfl⟩
 ·exact⟨t,rfl⟩
 ·exact⟨t,rfl⟩
theorem i6(a it:Addr)(o:Obj)(kvs:List (Key×V))(es:Array DictEntry)(ep:Nat)(hd:o.data=.dict es ep) :
  O3 P w K tg (ItD a o kvs) [it] it (λi h=>h.IsKeyIter it a i kvs.length ep) where
 mem:=by simp
 obj:=λi h st b hb=>by
  have e:b=it:=by simpa using hb
  subst e;obtain⟨o,e,c,d⟩:=st;exact⟨o,e,λv z=>by rw[d] at z;cases z⟩
 keep:=λi h h' st k=>st.at λo e=>k it (by simp) o e;item:=by
  intro X hP hw hK hc i pins s Z H E I hf st hg;subst hP hw hK;obtain⟨hq,hlt⟩:=hg;obtain⟨ho,hz,hS,vs,rel,o',es',ep',ho',c',d',kk,pp,nn⟩:=I.hok a _ hq;rw[ho] at ho';cases ho';rw[hd] at d';cases d';have hm:s.heap.DictAt (B5 X.prog X.w) a vs ep:=⟨o,es,ho,c',hd,kk,pp,nn⟩;obtain⟨f0,f1,f2,f3,f4,f5⟩:=hf it (by simp);have hlen:kvs.length=vs.length:=rel.length;obtain⟨u,hu⟩:=qe (k:=kvs[i].1) (v:=kvs[i].2) (i:=i) rel (by simp[hlt]);have st':s.heap.IsKeyIter it a i vs.length ep:=by rw[<- hlen];exact st
  refine wpAny_pyNext_dict_item st' hm hu λkey h' hk hit sb=>?_;have I1:Inv X pins Z H {s with heap:=h'}:=I.turned (t':=s.toks) (λb o hb e=>(sb.2 b hb).trans e) f0 f1 f3 f4 f5;obtain⟨oi,ei,ci,di⟩:=id hit;refine⟨key,rfl,Uh (s:={s with heap:=h'}) ei ci di (by decide) ⟨kV kvs[i].1,H,I1,ze hk,⟨rfl,kvs[i].1,kvs[i].2,by simp[hlt],rfl⟩,?_,λb hb=>(hf b hb).1⟩⟩;rw[hlen];exact hit
 done:=by
  intro X hP hw hK hc i pins s Z H E I hf st hg;subst hP hw hK;obtain⟨hq,hlt⟩:=hg;obtain⟨ho,hz,hS,vs,rel,o',es',ep',ho',c',d',kk,pp,nn⟩:=I.hok a _ hq;rw[ho] at ho';cases ho';rw[hd] at d';cases d';have hm:s.heap.DictAt (B5 X.prog X.w) a vs ep:=⟨o,es,ho,c',hd,kk,pp,nn⟩;obtain⟨f0,f1,f2,f3,f4,f5⟩:=hf it (by simp);have hlen:kvs.length=vs.length:=rel.length;have st':s.heap.IsKeyIter it a i vs.length ep:=by rw[<- hlen];exact st
  exact wpAny_pyNext_dict_end (I.ok.hd hc) st' hm (by simp;lia) λh' eb=>⟨rfl,I.turned (t':=s.toks) (λb o hb e=>eb b o hb e) f0 f1 f3 f4 f5⟩
 self:=λ_ _ _ _ _ st h=>wpAny_pyIter_keyiter st h
def ql(te:TE):TI:=λZ H R=>te Z H λx H1=>∃a kvs,x=.ref a/\H1 a=some (.dK kvs)/\∀o,R (ItD a o kvs) (upd H1 a (.frz o (.dK kvs)))
theorem A0b{l:Expr}(hl:PE X l te):PI X tg l (ql te):=by
 intro pins s Z H R I h;refine thn (hl pins s Z H _ I h) λv s1 z0=>?_;obtain⟨x,H1,I1,r1,q1⟩:=z0;obtain⟨a,kvs,e,ha,q⟩:=q1;subst e;cases r1;obtain⟨o,ho,I2⟩:=I1.freeze ha;obtain⟨hz,hS,vs,rel,o',es,ep,ho',c',d',kk,pp,nn⟩:=I1.hok a _ ha;rw[ho] at ho';cases ho';have hm:s1.heap.DictAt (B5 X.prog X.w) a vs ep:=⟨o,es,ho,c',d',kk,pp,nn⟩;have hlen:kvs.length=vs.length:=rel.length;refine wpAny_pyIter_dict hS hm ?_;refine⟨s1.heap.objs.size,[s1.heap.objs.size],_,_,_,rfl,I2.kept (t':=s1.toks) λb o e=>Zzv _ e,i6 a _ o kvs es ep d',?_,λb hb=>?_,q o⟩
 ·rw[hlen];exact⟨_,Zzh _ rfl,rfl,rfl⟩
 ·have e:b=s1.heap.objs.size:=by simpa using hb
  subst e;exact I2.fpOk (Zzx _) (I2.hok.fresh (Zzx _))
def Ws(ta:TE):TT:=λZ H Q=>ta Z H λx H'=>∃a xs,x=.ref a/\H' a=some (.lst xs)/\Q (!xs.isEmpty) H'
def Wu(ta:TE):TT:=λZ H Q=>ta Z H λx H'=>∃a kvs,x=.ref a/\H' a=some (.dK kvs)/\Q (!kvs.isEmpty) H'
theorem d6{a:Expr}(ha:PE X a ta)(he:∀whole,isTrue a X.env whole=(do let v <- whole;standAt a.pos;holding [v] (truthy v)):=by intro _;rfl):PT X a (Ws ta):=by
 intro pins s Z H Q I h;refine isTrue_plain (thn (ha pins s Z H _ I h) λv s1 ⟨x,H1,I1,r1,q1⟩=>?_) (he _);obtain⟨a,xs,e,hx,q⟩:=q1;exact kg pins s1 Z H1 x v Q I1 r1 ⟨_,by subst e;exact .inl ⟨xs,SqL.of hx,rfl⟩,q⟩
theorem vq{a:Expr}(ha:PE X a ta)(he:∀whole,isTrue a X.env whole=(do let v <- whole;standAt a.pos;holding [v] (truthy v)):=by intro _;rfl):PT X a (Wu ta):=by
 intro pins s Z H Q I h;refine isTrue_plain (thn (ha pins s Z H _ I h) λv s1 ⟨x,H1,I1,r1,q1⟩=>?_) (he _);obtain⟨a,xs,e,hx,q⟩:=q1;exact kg pins s1 Z H1 x v Q I1 r1 ⟨_,by subst e;exact .inr (.inr ⟨xs,hx,rfl⟩),q⟩
mutual
def Do:PyData->Bool
 |.none | .bool _ | .int _ | .str _=>true
 |.list _=>false
 |.tuple ds=>Cm ds
 |.dict _=>false
def Cm:List PyData->Bool
 |[]=>true
 |d::ds=>Do d&&Cm ds
end
def AV(H H':Hp):Prop:=∀a xs,H a=some (.tup xs)->H' a=some (.tup xs)
theorem AV.trans(a:AV H H1)(b:AV H1 H2):AV H H2:=λc xs h=>b c xs (a c xs h)
theorem AA.ku(s:AA H H'):AV H H':=λa xs h=>s a _ h
theorem qf{o u:HO}(h:H p=some u)(n:∀xs,u≠.tup xs):AV H (upd H p o):=λa xs e=>by
 rw[Ab (λz=>by rw[z,h] at e;exact n xs (Zzm e))];exact e
mutual
theorem RD.ku(k:AV H H'):∀(d:PyData) (v:V),Do d=true->RD H d v->RD H' d v
 |.none,v,_,h=>by rw[RD] at h ⊢;exact h
 |.bool b,v,_,h=>by rw[RD] at h ⊢;exact h
 |.int i,v,_,h=>by rw[RD] at h ⊢;exact h
 |.str x,v,_,h=>by rw[RD] at h ⊢;exact h
 |.list ds,v,n,h=>by rw[Do] at n;cases n
 |.tuple ds,v,n,h=>by
  rw[Do] at n;rw[RD] at h ⊢;obtain⟨a,xs,e,ha,r⟩:=h;exact⟨a,xs,e,k a xs ha,RDs.ku k ds xs n r⟩
 |.dict _,v,n,h=>by rw[Do] at n;cases n
theorem RDs.ku(k:AV H H'):∀(ds:List PyData) (xs:List V),Cm ds=true->RDs H ds xs->RDs H' ds xs
 |[],xs,_,h=>by rw[RDs] at h ⊢;exact h
 |d::ds,xs,n,h=>by
  rw[Cm,Zyy] at n;rw[RDs] at h ⊢;obtain⟨x,r,e,h1,h2⟩:=h;exact⟨x,r,e,RD.ku k d x n.1 h1,RDs.ku k ds r n.2 h2⟩
end
mutual
theorem RD.same(k:AA H H'):∀(d:PyData) (v:V),RD H d v->RD H' d v
 |.none,v,h=>by rw[RD] at h ⊢;exact h
 |.bool b,v,h=>by rw[RD] at h ⊢;exact h
 |.int i,v,h=>by rw[RD] at h ⊢;exact h
 |.str x,v,h=>by rw[RD] at h ⊢;exact h
 |.list ds,v,h=>by
  rw[RD] at h ⊢;obtain⟨a,xs,e,ha,r⟩:=h;exact⟨a,xs,e,k a _ ha,RDs.same k ds xs r⟩
 |.tuple ds,v,h=>by
  rw[RD] at h ⊢;obtain⟨a,xs,e,ha,r⟩:=h;exact⟨a,xs,e,k a _ ha,RDs.same k ds xs r⟩
 |.dict _,v,h=>by rw[RD] at h;exact h.elim
theorem RDs.same(k:AA H H'):∀(ds:List PyData) (xs:List V),RDs H ds xs->RDs H' ds xs
 |[],xs,h=>by rw[RDs] at h ⊢;exact h
 |d::ds,xs,h=>by
  rw[RDs] at h ⊢;obtain⟨x,r,e,h1,h2⟩:=h;exact⟨x,r,e,RD.same k d x h1,RDs.same k ds r h2⟩
end
theorem RDs.len:∀{ds:List PyData} {xs:List V},RDs H ds xs->xs.length=ds.length
 |[],xs,h=>by rw[RDs] at h;rw[h];rfl
 |d::ds,xs,h=>by
  rw[RDs] at h;obtain⟨x,r,e,_,h2⟩:=h;rw[e,Zz3,Zz3,RDs.len h2]
theorem RDs.get'{H:Hp}:∀{ds:List PyData} {xs:List V} {i:Nat} {x:V},RDs H ds xs->xs[i]?=some x->∃d,ds[i]?=some d/\RD H d x
 |[],xs,i,x,h,e=>by rw[RDs] at h;rw[h] at e;cases e
 |d::ds,xs,i,x,h,e=>by
  rw[RDs] at h;obtain⟨y,r,ey,h1,h2⟩:=h;rw[ey] at e;cases i with
  |zero=>cases e;exact⟨d,rfl,h1⟩
  |succ i=>exact RDs.get' (ds:=ds) (xs:=r) (i:=i) h2 (by simpa using e)
theorem RDs.app:∀{ds es:List PyData} {xs ys:List V},RDs H ds xs->RDs H es ys->RDs H (ds++es) (xs++ys)
 |[],es,xs,ys,h,h'=>by rw[RDs] at h;rw[h];exact h'
 |d::ds,es,xs,ys,h,h'=>by
  rw[RDs] at h;obtain⟨x,r,e,h1,h2⟩:=h;rw[e,Zxa,Zxa,RDs];exact⟨x,_,rfl,h1,RDs.app h2 h'⟩
theorem RDs.one{d:PyData}{x:V}(h:RD H d x):RDs H [d] [x]:=by
 rw[RDs];refine⟨x,_,rfl,h,?_⟩;rw[RDs]
theorem RDs.nil:RDs H [] []:=by rw[RDs]
theorem RDs.cons{d:PyData}{x:V}(h:RD H d x)(t:RDs H ds xs):RDs H (d::ds) (x::xs):=by
 rw[RDs];exact⟨x,_,rfl,h,t⟩
theorem RD.str_mk:RD H (.str x) (.str x):=by rw[RD]
theorem RD.int_mk{i:Int}:RD H (.int i) (.int i):=by rw[RD]
theorem RD.tup_mk(h:H a=some (.tup xs))(r:RDs H ds xs):RD H (.tuple ds) (.ref a):=by
 rw[RD];exact⟨a,xs,rfl,h,r⟩
theorem RD.tup_of(h:RD H (.tuple ds) v):∃a xs,v=.ref a/\H a=some (.tup xs)/\RDs H ds xs:=by rw[RD] at h;exact h
theorem RD.str_of(h:RD H (.str x) v):v=.str x:=by rw[RD] at h;exact h
theorem RD.int_of{x:Int}(h:RD H (.int x) v):v=.int x:=by rw[RD] at h;exact h
theorem RDs.nil_of(h:RDs H [] xs):xs=[]:=by rw[RDs] at h;exact h
theorem RDs.cons_of{d:PyData}(h:RDs H (d::ds) xs):∃x r,xs=x::r/\RD H d x/\RDs H ds r:=by rw[RDs] at h;exact h
end L2
namespace NP
open PySem L2
structure Wr where
 name:Str
 lag:Int
 gives:Int
 floor:Int
 stock:Int
 coming:List (Int×Int)
 parts:List (Str×Int)
def N7(p:Int×Int):PyData:=.tuple [.int p.1,.int p.2]
def Jq(p:Str×Int):PyData:=.tuple [.str p.1,.int p.2]
def Wr.d(w:Wr):PyData:=.tuple [.str w.name,.int w.lag,.int w.gives,.int w.floor,.int w.stock,.tuple (w.coming.map N7),.tuple (w.parts.map Jq)]
abbrev Wt:=Str×Int×Int
def L7(p:Wt):PyData:=.tuple [.str p.1,.int p.2.1,.int p.2.2]
structure Sh where
 wares:List Wr
 wants:List Wt
def Sh.d(S:Sh):PyData:=.tuple [.tuple (S.wares.map Wr.d),.tuple (S.wants.map L7)]
theorem Bu{α:Type}(f:α->PyData)(h:∀x,Do (f x)=true):∀xs:List α,Cm (xs.map f)=true
 |[]=>by rw[Zxs,Cm]
 |x::r=>by rw[Zz9,Cm,h x,Bu f h r];rfl
theorem Ro(p:Int×Int):Do (N7 p)=true:=by unfold N7;simp only[Do,Cm,Zvu]
theorem Pp(p:Str×Int):Do (Jq p)=true:=by unfold Jq;simp only[Do,Cm,Zvu]
theorem dh(p:Wt):Do (L7 p)=true:=by unfold L7;simp only[Do,Cm,Zvu]
theorem Kt(w:Wr):Do w.d=true:=by
 unfold Wr.d;simp only[Do,Cm,Bu N7 Ro,Bu Jq Pp,Zvu]
theorem Cn(S:Sh):Do S.d=true:=by
 unfold Sh.d;simp only[Do,Cm,Bu Wr.d Kt,Bu L7 dh,Zvu]
theorem Cw{w:Wr}(h:RD H w.d v):∃(a:Addr) (c p:V),v=.ref a/\H a=some (.tup [.str w.name,.int w.lag,.int w.gives,.int w.floor,.int w.stock,c,p])/\RD H (.tuple (w.coming.map N7)) c/\RD H (.tuple (w.parts.map Jq)) p:=by
 unfold Wr.d at h;obtain⟨a,xs,rfl,ha,r⟩:=RD.tup_of h;obtain⟨x1,r1,rfl,h1,r⟩:=RDs.cons_of r;obtain⟨x2,r2,rfl,h2,r⟩:=RDs.cons_of r;obtain⟨x3,r3,rfl,h3,r⟩:=RDs.cons_of r;obtain⟨x4,r4,rfl,h4,r⟩:=RDs.cons_of r;obtain⟨x5,r5,rfl,h5,r⟩:=RDs.cons_of r;obtain⟨x6,r6,rfl,h6,r⟩:=RDs.cons_of r;obtain⟨x7,r7,rfl,h7,r⟩:=RDs.cons_of r;have:=RDs.nil_of r;subst this;rw[RD.str_of h1,RD.int_of h2,RD.int_of h3,RD.int_of h4,RD.int_of h5] at ha;exact⟨a,x6,x7,rfl,ha,h6,h7⟩
theorem Bq{S:Sh}(h:RD H S.d v):∃(a b c:Addr) (ws us:List V),v=.ref a/\H a=some (.tup [.ref b,.ref c])/\H b=some (.tup ws)/\H c=some (.tup us)/\RDs H (S.wares.map Wr.d) ws/\RDs H (S.wants.map L7) us:=by
 unfold Sh.d at h;obtain⟨a,xs,rfl,ha,r⟩:=RD.tup_of h;obtain⟨x1,r1,rfl,h1,r⟩:=RDs.cons_of r;obtain⟨x2,r2,rfl,h2,r⟩:=RDs.cons_of r;have:=RDs.nil_of r;subst this;obtain⟨b,ws,rfl,hb,rb⟩:=RD.tup_of h1;obtain⟨c,us,rfl,hc,rc⟩:=RD.tup_of h2;exact⟨a,b,c,ws,us,rfl,ha,hb,hc,rb,rc⟩
theorem Lp{p:Wt}(h:RD H (L7 p) v):∃a:Addr,v=.ref a/\H a=some (.tup [.str p.1,.int p.2.1,.int p.2.2]):=by
 unfold L7 at h;obtain⟨a,xs,rfl,ha,r⟩:=RD.tup_of h;obtain⟨x1,r1,rfl,h1,r⟩:=RDs.cons_of r;obtain⟨x2,r2,rfl,h2,r⟩:=RDs.cons_of r;obtain⟨x3,r3,rfl,h3,r⟩:=RDs.cons_of r;have:=RDs.nil_of r;subst this;rw[RD.str_of h1,RD.int_of h2,RD.int_of h3] at ha;exact⟨a,rfl,ha⟩
theorem Mn{p:Str×Int}(h:RD H (Jq p) v):∃a:Addr,v=.ref a/\H a=some (.tup [.str p.1,.int p.2]):=by
 unfold Jq at h;obtain⟨a,xs,rfl,ha,r⟩:=RD.tup_of h;obtain⟨x1,r1,rfl,h1,r⟩:=RDs.cons_of r;obtain⟨x2,r2,rfl,h2,r⟩:=RDs.cons_of r;have:=RDs.nil_of r;subst this;rw[RD.str_of h1,RD.int_of h2] at ha;exact⟨a,rfl,ha⟩
theorem bc{p:Int×Int}(h:RD H (N7 p) v):∃a:Addr,v=.ref a/\H a=some (.tup [.int p.1,.int p.2]):=by
 unfold N7 at h;obtain⟨a,xs,rfl,ha,r⟩:=RD.tup_of h;obtain⟨x1,r1,rfl,h1,r⟩:=RDs.cons_of r;obtain⟨x2,r2,rfl,h2,r⟩:=RDs.cons_of r;have:=RDs.nil_of r;subst this;rw[RD.int_of h1,RD.int_of h2] at ha;exact⟨a,rfl,ha⟩
theorem B2{α:Type}{f:α->PyData}{xs:List α}{vs:List V}(h:RDs H (xs.map f) vs)(e:vs[i]?=some v):∃x,xs[i]?=some x/\RD H (f x) v:=by
 obtain⟨d,hd,r⟩:=RDs.get' h e;rw[Zzw] at hd;cases ex:xs[i]? with
 |none=>rw[ex] at hd;cases hd
 |some x=>rw[ex] at hd;cases hd;exact⟨x,rfl,r⟩
theorem Ap{α:Type}{f:α->PyData}{xs:List α}{vs:List V}(h:RDs H (xs.map f) vs):vs.length=xs.length:=by have:=RDs.len h;rw[Zzz] at this;exact this
abbrev Gr:=List (Str×List Str)
variable {G:Gr}
def Ay(G:Gr):List Str:=G.map (·.1)
def Pd(ks:List Str)(ps:List Str):List Str:=ps.filter λx=>decide (x∈ks)
def Ci(ks:List Str)(e:Str×List Str):Option (Str×List Str):=if Pd ks e.2=[] then none else some (e.1,Pd ks e.2)
def ao(G:Gr):Gr:=G.filterMap (Ci (Ay G))
def N6:Nat->Gr->Gr
 |0,G=>G
 |n+1,G=>ao (N6 n G)
def He(S:Sh):Gr:=S.wares.map λw=>(w.name,w.parts.map (·.1))
theorem BJ{ks:List Str}:∀{G:Gr},(Ay (G.filterMap (Ci ks))).Sublist (Ay G)
 |[]=>.slnil
 |e::r=>by
  unfold Ay;rw[Zwi];cases h:Ci ks e with
  |none=>exact .cons _ (BJ (G:=r))
  |some q =>
   have e1:q.1=e.1:=by
    unfold Ci at h;split at h
    ·cases h
    ·cases h;rfl
   show (q.1::Ay (r.filterMap (Ci ks))).Sublist (e.1::Ay r);rw[e1];exact .cons₂ _ (BJ (G:=r))
theorem ak(h:(Ay G).Nodup):(Ay (ao G)).Nodup:=BJ.nodup h
theorem S6(h:(Ay G).Nodup):∀n,(Ay (N6 n G)).Nodup
 |0=>h
 |n+1=>ak (S6 h n)
theorem sf(G:Gr):(ao G).length<=G.length:=List.length_filterMap_le _ _
theorem Yo(G:Gr):∀n,(N6 n G).length<=G.length
 |0=>Zzx _
 |n+1=>Zzk (sf _) (Yo G n)
theorem S7{e:Str×List Str}(h:e∈ao G):∃ps,(e.1,ps)∈G/\(∀x∈e.2,x∈ps/\x∈Ay G)/\e.2≠[]/\e.2.length<=ps.length:=by
 unfold ao at h;obtain⟨q,hq,hc⟩:=Zwz.mp h;unfold Ci at hc;split at hc
 ·cases hc
 ·rename_i hn;cases hc;refine⟨q.2,hq,λx hx=>?_,hn,Zxw _ _⟩;have:=Zx5.mp hx;exact⟨this.1,FP this.2⟩
theorem Jh:∀(n:Nat) {e:Str×List Str},e∈N6 n G->∃ps,(e.1,ps)∈G/\(∀x∈e.2,x∈ps)/\e.2.length<=ps.length
 |0,e,h=>⟨e.2,h,λx hx=>hx,Zzx _⟩
 |n+1,e,h=>by
  obtain⟨ps,h1,h2,_,h3⟩:=S7 h;obtain⟨qs,q1,q2,q3⟩:=Jh n h1;exact⟨qs,q1,λx hx=>q2 x (h2 x hx).1,by have h3':e.2.length<=ps.length:=h3;have q3':ps.length<=qs.length:=q3;lia⟩
def Low(G:Gr)(r:Str->Nat):Prop:=∀e∈G,∀x∈e.2,r x<r e.1
theorem e7{r:Str->Nat}(h:Low G r):∀(n:Nat) (e:Str×List Str),e∈N6 n G->n<=r e.1
 |0,e,_=>Zym _
 |n+1,e,he=>by
  obtain⟨ps,h1,h2,h3,_⟩:=S7 he;obtain⟨qs,q1,q2,_⟩:=Jh n h1;cases hx:e.2 with
  |nil=>exact absurd hx h3
  |cons x t =>
   have hm:x∈e.2:=by rw[hx];exact Zzj
   obtain⟨m1,m2⟩:=h2 x hm;obtain⟨y,hy,ey⟩:=Zzo.mp m2;have lo:=e7 h n y hy;have lt:=h _ q1 x (q2 x m1);rw[ey] at lo;have lt:r x<r e.1:=lt;lia
theorem Yn{r:Str->Nat}(h:Low G r)(hr:∀e∈G,r e.1<n):N6 n G=[]:=by
 cases hc:N6 n G with
 |nil=>rfl
 |cons e t =>
  have he:e∈N6 n G:=by rw[hc];exact Zzj
  have h1:=e7 h n e he;obtain⟨ps,h2,_⟩:=Jh n he;have h3:=hr _ h2;have h3:r e.1<n:=h3;lia
def PDk(H:Hp)(kvs:List (Key×V))(G:Gr):Prop:=Paired (λ(e:Str×List Str) (kv:Key×V)=>kv.1=.inr e.1/\∃l,kv.2=.ref l/\H l=some (.lst (e.2.map V.str))) G kvs
theorem PDk.mono(h:PDk H kvs G)(k:∀l xs,H l=some (.lst xs)->H' l=some (.lst xs)):PDk H' kvs G :=
 Paired.mapP h λe kv ⟨h1,l,h2,h3⟩=>⟨h1,l,h2,k l _ h3⟩
theorem PDk.keys:∀{H:Hp} {kvs:List (Key×V)} {G:Gr},PDk H kvs G->kvs.map (·.1)=(Ay G).map Zy9
 |_,_,_,.nil=>rfl
 |_,_,_,.cons r t=>by
  unfold Ay;rw[Zz9,Zz9,Zz9,r.1];exact congrArg _ (PDk.keys t)
theorem PDk.get:∀{H:Hp} {kvs:List (Key×V)} {G:Gr} {i:Nat} {e:Str×List Str},PDk H kvs G->G[i]?=some e->∃l,kvs[i]?=some (.inr e.1,.ref l)/\H l=some (.lst (e.2.map V.str))
 |_,_,_,_,_,.nil,h=>by simp at h
 |_,(k,v)::_,_,0,e,.cons r _,h=>by
  simp at h;subst h;obtain⟨h1,l,h2,h3⟩:=r;have h1:k=_:=h1;have h2:v=_:=h2;exact⟨l,by rw[h1,h2];rfl,h3⟩
 |_,_::_,_,i+1,e,.cons _ t,h=>by
  obtain⟨l,q⟩:=PDk.get (i:=i) (e:=e) t (by simpa using h);exact⟨l,by simpa using q.1,q.2⟩
theorem PDk.get':∀{H:Hp} {kvs:List (Key×V)} {G:Gr} {i:Nat} {k:Key} {v:V},PDk H kvs G->kvs[i]?=some (k,v)->∃e l,G[i]?=some e/\k=.inr e.1/\v=.ref l/\H l=some (.lst (e.2.map V.str))
 |_,_,_,_,_,_,.nil,h=>by simp at h
 |_,_,e::_,0,k,v,.cons r _,h=>by
  simp at h;subst h;obtain⟨h1,l,h2,h3⟩:=r;exact⟨e,l,rfl,h1,h2,h3⟩
 |_,_,_::_,i+1,k,v,.cons _ t,h=>by
  obtain⟨e,l,q⟩:=PDk.get' (i:=i) t (by simpa using h);exact⟨e,l,by simpa using q.1,q.2⟩
theorem Q7{κ:Type}[DecidableEq κ]:∀{kvs:List (κ×V)} {i:Nat} {k:κ} {v:V},(kvs.map (·.1)).Nodup->kvs[i]?=some (k,v)->C4 kvs k=some v
 |[],_,_,_,_,h=>by simp at h
 |p::r,0,k,v,hn,h=>by
  simp at h;subst h;exact Cf rfl
 |p::r,i+1,k,v,hn,h=>by
  have h':r[i]?=some (k,v):=by simpa using h
  have hn':(p.1::r.map (·.1)).Nodup:=hn;obtain⟨h1,h2⟩:=Zyg.mp hn';have hm:k∈r.map (·.1):=Zzo.mpr ⟨(k,v),Zzt h',rfl⟩;rw[C7 (λe=>h1 (e▸hm))];exact Q7 h2 h'
theorem kd{κ:Type}[DecidableEq κ](kvs:List (κ×V))(k:κ):(C4 kvs k).isSome=decide (k∈kvs.map (·.1)):=by
 rw[<- G1];induction kvs with
 |nil=>rfl
 |cons p r ih =>
  rw[Zwe,ih,Zz9];by_cases h:p.1=k
  ·subst h;simp
  ·have h':¬ k=p.1:=λe=>h e.symm
   simp[h,h']
theorem ja{xs:List Str}(h:xs.Nodup):(xs.map (Zy9:Str->Key)).Nodup:=by
 induction xs with
 |nil=>exact Zwo
 |cons x r ih =>
  obtain⟨h1,h2⟩:=Zyg.mp h;rw[Zz9];refine Zyg.mpr ⟨λm=>?_,ih h2⟩;obtain⟨y,hy,e⟩:=Zzo.mp m;cases e;exact h1 hy
theorem PDk.has(h:PDk H kvs G)(x:Str):(C4 kvs (.inr x)).isSome=decide (x∈Ay G):=by
 rw[kd,h.keys];congr 1;apply propext;constructor
 ·intro m;obtain⟨y,hy,e⟩:=Zzo.mp m;cases e;exact hy
 ·exact λm=>Zzo.mpr ⟨x,m,rfl⟩
theorem R9{α β:Type}{F:α->β->Prop}:∀{a c:List α} {b d:List β},Paired F a b->Paired F c d->Paired F (a++c) (b++d)
 |_,_,_,_,.nil,s=>s
 |_,_,_,_,.cons r t,s=>.cons r (R9 t s)
theorem PDk.snoc{n:Str}{l:Addr}(h:PDk H kvs G)(hn:n∉Ay G)(hl:H l=some (.lst (ps.map V.str))):PDk H (Gp kvs (.inr n) (.ref l)) (G++[(n,ps)]):=by
 have hv:C4 kvs (.inr n)=none:=by
  have:=h.has n;rw[FR hn] at this;cases e:C4 kvs (.inr n) with
  |none=>rfl
  |some v=>rw[e] at this;cases this
 rw[R7 _ hv];exact R9 h (.cons ⟨rfl,l,rfl,hl⟩ .nil)
theorem PDk.len(h:PDk H kvs G):kvs.length=G.length:=(Paired.length h).symm
end NP
open NP
variable {o:Option Sh}{G:Gr}{S:Sh}
namespace L2
open PySem PySem.Spec PyProof.Rows
def bz(te:TE):TE:=λZ H Q=>te Z H λx H1=>∃a xs,x=.ref a/\H1 a=some (.lst xs)/\∀p,H1 p=none->Q (.ref p) (upd H1 p (.lst xs.reverse))
theorem Nu:Wj 2 (xu K 2 (Ry (Eh 0) (Ry (Eh 1) EA))):=λv Z H Q h=>by
 obtain⟨a,xs,e,hq,hl,v1,r1,e1,v2,r2,e2,e3,q⟩:=h;exact⟨a,xs,e,hq,hl,v1,r1,e1,v2,r2,e2,e3,⟨⟨by simp,λj hj=>by rw[Zxt (by lia),Zxt (by lia)]⟩,q⟩⟩
theorem aq{yl:Nat->List V->Prop}{ok:Hp->Prop}{Q:VK}(G:Yz J n yl ok)(hn:n<=sizeLine)(Pv:Nat->List V->Hp->Prop)(h0:Pv 0 [] H)(hok:∀i acc H,i<=n->Pv i acc H->ok H)
  (hlen:∀i acc H,Pv i acc H->acc.length<=i)
  (hs:∀i ys p acc H,i<n->yl i ys->Pv i acc H->H p=none->g (.ref p) (E6 own cap Z) (upd H p (.tup ys)) λσ2 H2=>tt σ2 H2 λb H3=>if b=true then te σ2 H3 λy H4=>Pv (i+1) (acc++[y]) H4 else Pv (i+1) acc H3)
  (hd:∀acc H,Pv n acc H->∀p,H p=none->Q (.ref p) (upd H p (.lst acc))):NP.Ux J own cap g tt te Z H Q:=by
 refine⟨λi m acc H=>m=n - i/\i<=n/\Pv i acc H,⟨n,by simp,Zym _,h0⟩,?_⟩;rintro i m acc H ⟨rfl,hi,p⟩;have q:=hok i acc H hi p;have hl:=hlen i acc H p;refine⟨by lia,?_⟩;by_cases hlt:i<n
 ·refine .inr ⟨G.go i H hlt q,by lia,Pv (i+1),λacc' H' p'=>⟨n - (i+1),by lia,rfl,hlt,p'⟩,λx H' y=>?_⟩;obtain⟨a,ys,e1,e2,e3,y'⟩:=G.yld i H x H' hlt q y;subst e1 e3;exact hs i ys a acc H hlt y' p e2
 ·have e:i=n:=by lia
  subst e;exact .inl ⟨G.stop H q,hd acc H p⟩
theorem Ji{ok:Hp->Prop}{Q:VK}(G:Si J n yl ok)(hn:n<=sizeLine)(Pv:Nat->List V->Hp->Prop)(h0:Pv 0 [] H)(hok:∀i acc H,i<=n->Pv i acc H->ok H)
  (hlen:∀i acc H,Pv i acc H->acc.length<=i)
  (hs:∀i x acc H,i<n->yl i x->Pv i acc H->g x (E6 own cap Z) H λσ2 H2=>tt σ2 H2 λb H3=>if b=true then te σ2 H3 λy H4=>Pv (i+1) (acc++[y]) H4 else Pv (i+1) acc H3)
  (hd:∀acc H,Pv n acc H->∀p,H p=none->Q (.ref p) (upd H p (.lst acc))):NP.Ux J own cap g tt te Z H Q:=Uo G hn Pv h0 hok hlen hs hd
def Lm(ns:Nat->Int):Nat->Int
 |0=>ns 0
 |k+1=>if ns (k+1) > Lm ns k then ns (k+1) else Lm ns k
section
variable {I:Addr}{P:Nat->Value->Prop}{St:Nat->Heap->Prop}
theorem xp{a b:Int}{t u:Tok}(h:Q (.bool (decide (b<a))) s):wpAny (model prog w) A (richCompare .Gt (.int a t) (.int b u)) Q E s:=show wpAny _ _ (compareOp .Gt _ _) _ _ _ from gt_int h
theorem iw(kw:List (Str×Value))(W:Walks prog w A.in1 I fp wr n P St)(ns:Nat->Int)(hv:∀i v,P i v->∃t,v=.int (ns i) t)(S:Addr)(hSf:S∉fp) :
  ∀(k j:Nat) (s:Shared) (t:Tok) (c:Nat),n - (j+1)=k->j+1<=n->St (j+1) s.heap->s.heap.get? S=some {cls:=.type "list",dict:=none,data:=.seq #[.int (Lm ns j) t,.int (Lm ns j) t] c,slots:=#[]} ->
  (∀t' h' tk,(∀b o,b∉wr->b≠S->s.heap.get? b=some o->h'.get? b=some o)->R (.ok (.ret (.int (Lm ns (n - 1)) t'))) {s with heap:=h',toks:=tk}) ->
  codeAny (model prog w) A (.builtin "max.loop" ⟨[.ref I,.none,.ref S],kw⟩) R s:=by
 have nSw:S∉wr:=λh=>hSf (W.sub _ h);have nm:(toString "max" ++ toString ".loop" : String) = "max.loop" := by decide
 intro k;induction k with
 |zero =>
  intro j s t c hk hj hst hS hR;have hin:j+1=n:=by lia
  refine codeAny_builtin F.entry_max_loop ?_;rw[Zvy F.plain_max_loop _];refine FU (m:=seqItems? (.ref S)) (wpAny_seqItems hS rfl (FU (m:=tryCatch (pyNext (.ref I)) _) (wpAny_tryCatch (W.done s _ _ (hin▸hst) λh' tk hk'=>?_))));refine FU (m:=updateSeq S (λ_=>#[])) (wpAny_updateSeq (hk' S _ nSw hS) rfl (FU (wpAny_letGo (FV ?_))));have e:n - 1=j:=by lia
  rw[e] at hR;exact hR t _ tk λb o n1 n2 q=>(Zyt _ _ (Zza n2)).trans (hk' b o n1 q)
 |succ k ih =>
  intro j s t c hk hj hst hS hR;have hlt:j+1<n:=by lia
  refine codeAny_builtin F.entry_max_loop ?_;rw[Zvy F.plain_max_loop _];refine FU (m:=seqItems? (.ref S)) (wpAny_seqItems hS rfl (FU (m:=tryCatch (pyNext (.ref I)) _) (wpAny_tryCatch (W.item (j+1) s _ _ hlt hst λv h' tk hP hst' hk'=>?_))));obtain⟨u,rfl⟩:=hv _ _ hP;have hS':=hk' S _ nSw hS;refine FU (m:=tryCatch (holding _ (richCompare .Gt _ _ >>= _)) _) (wpAny_tryCatch (wpAny_holding (FU (xp (FU (wpAny_holding (wpAny_truthy_bool (FU (wpAny_letGo (FV ?_))))))))));by_cases hb:Lm ns j<ns (j+1)
  ·rw[FQ hb];simp only[if_true];refine FU (wpAny_updateSeq hS' rfl (FU (wpAny_letGo ?_)));rw[nm];have eb:Lm ns (j+1)=ns (j+1):=FT hb;refine FV ⟨plainId_quiet F.plain_max_loop _,ih (j+1) _ u _ (by lia) hlt (W.frame _ _ _ hst' λb hbf o e=>?_) (by rw[eb];exact Zxn _ hS' rfl) λt' h'' tk' hk2=>?_⟩
   ·exact(Zyt _ _ (λh:S=b=>hSf (by rw[h];exact hbf))).trans e
   ·exact hR t' h'' tk' λb o n1 n2 e=>hk2 b o n1 n2 ((Zyt _ _ (Zza n2)).trans (hk' b o n1 e))
  ·rw[FR hb];simp only[Bool.false_eq_true,if_false];refine FU (wpAny_letGo ?_);rw[nm];have eb:Lm ns (j+1)=Lm ns j:=FS hb;refine FV ⟨plainId_quiet F.plain_max_loop _,ih (j+1) _ t c (by lia) hlt hst' (by rw[eb];exact hS') λt' h'' tk' hk2=>?_⟩;exact hR t' h'' tk' λb o n1 n2 e=>hk2 b o n1 n2 (hk' b o n1 e)
theorem Zv(kw:List (Str×Value))(W:Walks prog w A.in1 I fp wr n P St)(ns:Nat->Int)(hv:∀i v,P i v->∃t,v=.int (ns i) t)(S:Addr)(hSf:S∉fp)(hn:0<n){c:Nat}(hst:St 0 s.heap)
  (hS:s.heap.get? S=some {cls:=.type "list",dict:=none,data:=.seq #[] c,slots:=#[]})
  (hR:∀t' h' tk,(∀b o,b∉wr->b≠S->s.heap.get? b=some o->h'.get? b=some o)->R (.ok (.ret (.int (Lm ns (n - 1)) t'))) {s with heap:=h',toks:=tk}) :
  codeAny (model prog w) A (.builtin "max.loop" ⟨[.ref I,.none,.ref S],kw⟩) R s:=by
 have nSw:S∉wr:=λh=>hSf (W.sub _ h);have nm:(toString "max" ++ toString ".loop" : String) = "max.loop" := by decide
 refine codeAny_builtin F.entry_max_loop ?_;rw[Zvy F.plain_max_loop _];refine FU (m:=seqItems? (.ref S)) (wpAny_seqItems hS rfl (FU (m:=tryCatch (pyNext (.ref I)) _) (wpAny_tryCatch (W.item 0 s _ _ hn hst λv h' tk hP hst' hk'=>?_))));obtain⟨u,rfl⟩:=hv _ _ hP;have hS':=hk' S _ nSw hS;refine FU (m:=updateSeq S _) (wpAny_updateSeq hS' rfl ?_);rw[nm];refine FV ⟨plainId_quiet F.plain_max_loop _,iw kw W ns hv S hSf _ 0 _ u _ rfl hn (W.frame _ _ _ hst' λb hbf o e=>?_) (Zxn _ hS' rfl) λt' h'' tk' hk2=>?_⟩
 ·exact(Zyt _ _ (λh:S=b=>hSf (by rw[h];exact hbf))).trans e
 ·exact hR t' h'' tk' λb o n1 n2 e=>hk2 b o n1 n2 ((Zyt _ _ (Zza n2)).trans (hk' b o n1 e))
theorem iu{d:Value}(W:Walks prog w A.in1 I fp wr 0 P St)(S:Addr)(hSf:S∉fp){c:Nat}(hst:St 0 s.heap)
  (hS:s.heap.get? S=some {cls:=.type "list",dict:=none,data:=.seq #[] c,slots:=#[]})
  (hR:∀h' tk,(∀b o,b∉wr->b≠S->s.heap.get? b=some o->h'.get? b=some o)->R (.ok (.ret d)) {s with heap:=h',toks:=tk}) :
  codeAny (model prog w) A (.builtin "max.loop" ⟨[.ref I,.none,.ref S],[("default",d)]⟩) R s:=by
 refine codeAny_builtin F.entry_max_loop ?_;rw[Zvy F.plain_max_loop _];refine FU (m:=seqItems? (.ref S)) (wpAny_seqItems hS rfl (FU (m:=tryCatch (pyNext (.ref I)) _) (wpAny_tryCatch (W.done s _ _ hst λh' tk hk'=>?_))));exact FU (wpAny_rule (FV (hR h' tk λb o n1 _ e=>hk' b o n1 e)))
end
def Y4(ns:List Int):Int:=Lm (λi=>(ns[i]?).getD 0) (ns.length - 1)
def Hv(ns:List Int):Int:=if ns=[] then 0 else Y4 ns
theorem Yv(f:Nat->Int):∀k,∃i,i<=k/\Lm f k=f i
 |0=>⟨0,Zzx _,rfl⟩
 |k+1=>by
  rw[Lm];split
  ·exact⟨k+1,Zzx _,rfl⟩
  ·obtain⟨i,h1,h2⟩:=Yv f k;exact⟨i,by lia,h2⟩
theorem gk(f:Nat->Int):∀k i,i<=k->f i<=Lm f k
 |0,i,h=>by
  have:i=0:=by lia
  subst this;exact Zys _
 |k+1,i,h=>by
  rw[Lm];by_cases hi:i=k+1
  ·subst hi;split<;>lia
  ·have:=gk f k i (by lia)
   split<;>lia
theorem Rs(h:ns≠[]):Y4 ns∈ns:=by
 have hl:0<ns.length:=List.length_pos_iff.mpr h;obtain⟨i,h1,h2⟩:=Yv (λi=>(ns[i]?).getD 0) (ns.length - 1);unfold Y4;rw[h2];have hi:i<ns.length:=by lia
 simp only[Zzp hi,Zw0];exact Zuz hi
theorem wx{x:Int}(h:x∈ns):x<=Y4 ns:=by
 obtain⟨i,hi,e⟩:=Zur.mp h;have:=gk (λi=>(ns[i]?).getD 0) (ns.length - 1) i (by lia);simp only[Zzp hi,Zw0,e] at this;exact this
theorem jy(a d:Value):argsOk "max" ⟨[a],[(Str.ofString "default",d)]⟩:=by unfold argsOk;kernel_rfl
theorem pc{Q:VK}(hc:X.calm=true)(I:Inv X pins Z H s)(ha:H a=some (.lst (ns.map V.int)))(hn:ns≠[])(q:Q (.int (Y4 ns)) H) :
  codeAny (model X.prog X.w) X.A (.builtin "max.loop" ⟨[.ref s.heap.objs.size,.none,.ref (s.heap.objs.size+1)],kw⟩) (λr s'=>match r with | .ok (.ret v)=>EP X pins Z Q v s' | .ok _=>False | .error e=>E e s')
   {s with heap:=(s.heap.push {cls:=.type "list_iterator",data:=.fields #[.ref a,.int 0 0]}).push {cls:=.type "list",data:=.seq #[]}}:=by
 obtain⟨its,rv,hl,hlt⟩:=Bc I ha;have hlen:its.length=ns.length:=by have:=rv.length;rw[Zzz] at this;exact this.symm
 have sz:(s.heap.push {cls:=.type "list_iterator",data:=.fields #[.ref a,.int 0 0]}).objs.size=s.heap.objs.size+1:=Zy2 ..;have gI:((s.heap.push {cls:=.type "list_iterator",data:=.fields #[.ref a,.int 0 0]}).push {cls:=.type "list",data:=.seq #[]}).get? s.heap.objs.size=some {cls:=.type "list_iterator",data:=.fields #[.ref a,.int 0 0]}:=Zzv _ (Zzh _ rfl);have gS:((s.heap.push {cls:=.type "list_iterator",data:=.fields #[.ref a,.int 0 0]}).push {cls:=.type "list",data:=.seq #[]}).get? (s.heap.objs.size+1)=some {cls:=.type "list",data:=.seq #[]}:=by
  have:=Zzh (s.heap.push {cls:=.type "list_iterator",data:=.fields #[.ref a,.int 0 0]}) (o:={cls:=.type "list",data:=.seq #[]}) rfl;rw[sz] at this;exact this
 have hpos:0<its.toArray.size:=by rw[Zzs,hlen];exact List.length_pos_iff.mpr hn
 have nS:(s.heap.objs.size+1:Addr)∉[s.heap.objs.size,a]:=by
  simp only[Zzu,Zzf,or_false,not_or];exact⟨Nat.succ_ne_self _,Zwy (Zws hlt)⟩
 refine Zv kw (Walks.list (prog:=X.prog) (w:=X.w) (A:=X.A.in1) (I.ok.hd hc) s.heap.objs.size a (Zyv hlt) its.toArray) (λi=>(ns[i]?).getD 0) (λi v hP=>Q5 rv (by simpa using hP)) (s.heap.objs.size+1) nS hpos ⟨⟨_,gI,rfl,rfl⟩,(hl.push _).push _⟩ gS λt' h' tk hk=>?_;rw[Zzs,hlen];refine⟨.int (Y4 ns),H,I.kept λb o e=>hk b o ?_ ?_ (Zzv _ (Zzv _ e)),⟨_,rfl⟩,q⟩
 ·simp only[Zzu,Zzf,or_false];exact Zyv (Zzn e)
 ·exact Zyv (Zws (Zzn e))
def cq:List V->Hp->VK->Prop:=λvs H Q=>∃a ns,vs=[.ref a]/\H a=some (.lst (ns.map V.int))/\ns≠[]/\Q (.int (Y4 ns)) H
def Wx(te:TE):TE:=λZ H Q=>te Z H λx H1=>∃a ns,x=.ref a/\H1 a=some (.lst (ns.map V.int))/\Q (.int (Hv ns)) H1
theorem vw{p1 p2 p3 kp:Pos}{j}(hc:X.calm=true)(hg:Gl X "max")(hm:X.mg "max" = none)(he:PE X e te)(hn:C5 [e]=true:=by rfl) :
  PE X (.Call (.Name "max" p1) [e] [⟨some "default",.Constant (.int 0) j p3,kp⟩] p2) (Wx te):=by
 intro pins s Z H Q I h;refine wpAny_Call_Name_kw (Jf I hg hm NP.ay ?_ (by decide) (by decide));refine callWith_kw (thn ((A2 he A0 hn) p2 pins s Z H (λvs H1=>match vs with | [x]=>∃a ns,x=.ref a/\H1 a=some (.lst (ns.map V.int))/\Q (.int (Hv ns)) H1 | _=>False) I h) λus s1 ⟨vs,H1,I1,r1,hv⟩=>kws_cons (wpAny_Constant_int (kws_nil ?_))) ?_ ?_ rfl rfl
 ·match vs,hv,r1 with
  |[x],⟨a,ns,ea,ha,q⟩,r1 =>
  subst ea;obtain⟨u,rfl,ru⟩:=Gf r1;cases ru;have I2:=I1.tok (s1.toks+1);obtain⟨its,rv,hl,hlt⟩:=Bc I2 ha;have nm:(toString "max" ++ toString ".loop" : String) = "max.loop" := by decide
  have sz:(s1.heap.push {cls:=.type "list_iterator",data:=.fields #[.ref a,.int 0 0]}).objs.size=s1.heap.objs.size+1:=Zy2 ..;refine kmk_tree F.kind_max F.plain_max F.entry_max (jy _ _) ?_;refine FU (m:=Builtin.Builtins.bindParams "max" ["key", "default"] 0 ⟨[],[(Str.ofString "default",.int 0 s1.toks)]⟩) (wpAny_of_eq (show Builtin.Builtins.bindParams "max" ["key", "default"] 0 ⟨[],[(Str.ofString "default",.int 0 s1.toks)]⟩=pure [none,some (.int 0 s1.toks)] from rfl) (FU (FV (FU (wpAny_pyIter_list hl (FU (wpAny_newObj_type ?_)))))));rw[nm];refine FV ⟨plainId_quiet F.plain_max_loop _,?_⟩;by_cases hz:ns=[]
  ·subst hz;have gI:((s1.heap.push {cls:=.type "list_iterator",data:=.fields #[.ref a,.int 0 0]}).push {cls:=.type "list",data:=.seq #[]}).get? s1.heap.objs.size=some {cls:=.type "list_iterator",data:=.fields #[.ref a,.int 0 0]}:=Zzv _ (Zzh _ rfl);have gS:((s1.heap.push {cls:=.type "list_iterator",data:=.fields #[.ref a,.int 0 0]}).push {cls:=.type "list",data:=.seq #[]}).get? (s1.heap.push {cls:=.type "list_iterator",data:=.fields #[.ref a,.int 0 0]}).objs.size=some {cls:=.type "list",data:=.seq #[]}:=Zzh _ rfl;have e0:its=[]:=by cases rv;rfl
   subst e0;have nS:(s1.heap.push {cls:=.type "list_iterator",data:=.fields #[.ref a,.int 0 0]}).objs.size∉[s1.heap.objs.size,a]:=by
    rw[sz];simp only[Zzu,Zzf,or_false,not_or];exact⟨Nat.succ_ne_self _,Zwy (Zws hlt)⟩
   refine iu (Walks.list (prog:=X.prog) (w:=X.w) (A:=X.A.in1) (I.ok.hd hc) s1.heap.objs.size a (Zyv hlt) ([]:List Value).toArray) _ nS ⟨⟨_,gI,rfl,rfl⟩,(hl.push _).push _⟩ gS λh' tk hk=>?_;refine⟨.int 0,H1,I1.kept λb o e=>hk b o ?_ ?_ (Zzv _ (Zzv _ e)),⟨_,rfl⟩,q⟩
   ·simp only[Zzu,Zzf,or_false];exact Zyv (Zzn e)
   ·rw[sz];exact Zyv (Zws (Zzn e))
  ·have q':Q (.int (Y4 ns)) H1:=by unfold Hv at q;rw[FS hz] at q;exact q
   have:=pc (E:=X.xe) (kw:=[("default",.int 0 s1.toks)]) hc I2 ha hz q';rw[<- sz] at this;exact this
 ·rw[D7 hn];rfl
 ·exact C1 hn
def FI:V->V->Hp->VK->Prop:=λo i H Q=>∃p xs k v,o=.ref p/\i=.int k/\H p=some (.lst xs)/\0<=k/\xs[k.toNat]?=some v/\Q v H
theorem ff:A2c X FI:=by
 intro pins s Z H o i ov iv Q I ro ri h;obtain⟨p,xs,k,v,rfl,rfl,hp,h0,hv,q⟩:=h;cases ro;obtain⟨t,rfl⟩:=ri;obtain⟨its,rv,hl,hlt⟩:=Bc I hp;obtain⟨u,hu,ru⟩:=rv.get hv;have hlen:=rv.length;obtain⟨hz,_⟩:=I.hok p _ hp;have hk:k.toNat<xs.length:=(Zzb.mp hv).1;have h63:=Kf;exact wpAny_getItem_list hl h0 (by lia) (by simpa using hu) ⟨v,H,I,ru,q⟩
end L2
namespace NP
open PySem L2
def Bh(n:Nat)(f:Nat->Int):List Int:=(Zyo n).map f
theorem B4(n:Nat)(f:Nat->Int):(Bh n f).length=n:=by simp[Bh]
theorem Cg{f:Nat->Int}(h:i<n):(Bh n f)[i]?=some (f i):=by simp[Bh,h]
theorem Qy{f:Nat->Int}(h:i<n):(Bh n f).getD i 0=f i:=by rw[Zz8,Cg h];rfl
theorem Cp{f g:Nat->Int}(h:∀i,i<n->f i=g i):Bh n f=Bh n g:=by
 apply Zxg;intro i;by_cases hi:i<n
 ·rw[Cg hi,Cg hi,h i hi]
 ·rw[Zz0 (by rw[B4];lia),Zz0 (by rw[B4];lia)]
theorem Nm{f:Nat->Int}{v:Int}:(Bh n f).set j v=Bh n λd=>if d=j then v else f d:=by
 apply Zxg;intro i;by_cases hi:i<n
 ·rw[Cg hi];by_cases hj:j=i
  ·subst hj;rw[Zw9 (by rw[B4];exact hi),FT rfl]
  ·rw[Zxt hj,Cg hi,FS (λe=>hj e.symm)]
 ·rw[Zz0 (by rw[Zuv,B4];lia),Zz0 (by rw[B4];lia)]
theorem Qx(n:Nat)(f:Nat->Int):Bh (n+1) f=Bh n f++[f n]:=by
 unfold Bh;rw[List.range_succ,Zzi];rfl
theorem R5(k:Nat):(Zyb k [V.int 0]).flatten=(Bh k λ_=>0).map V.int:=by
 induction k with
 |zero=>rfl
 |succ k ih =>
  rw[List.replicate_succ',List.flatten_append,ih,Qx,Zzi];rfl
def Cb{α:Type}(f:α->Int)(xs:List α):Int:=(xs.map f).sum
theorem Lr{α:Type}(f:α->Int):Cb f []=0:=rfl
theorem lm{α:Type}(f:α->Int)(xs ys:List α):Cb f (xs++ys)=Cb f xs+Cb f ys:=by unfold Cb;rw[Zzi,List.sum_append]
theorem lh{α:Type}(f:α->Int)(x:α):Cb f [x]=f x:=by simp[Cb]
theorem Kq{α:Type}(f:α->Int)(x:α)(xs:List α):Cb f (x::xs)=f x+Cb f xs:=by simp[Cb]
theorem Ex{α:Type}(f:α->Int){xs:List α}{x:α}(h:xs[i]?=some x):Cb f (xs.take (i+1))=Cb f (xs.take i)+f x:=by
 rw[Zz1,h,lm];rw[show (some x).toList=[x] from rfl,lh]
theorem Qf{α:Type}{f g:α->Int}{xs:List α}(h:∀x∈xs,f x=g x):Cb f xs=Cb g xs:=by
 induction xs with
 |nil=>rfl
 |cons x r ih=>rw[Kq,Kq,h x Zzj,ih λy hy=>h y (Zzl _ hy)]
def AE(S:Sh):Nat:=(1+Hv (S.wants.map λu=>u.2.1)).toNat
theorem dm(h:∀x∈ns,0<=x):0<=Hv ns:=by
 unfold Hv;split
 ·exact Zys _
 ·rename_i hn;exact h _ (Rs hn)
theorem du{x:Int}(h:x∈ns):x<=Hv ns:=by
 unfold Hv;rw[FS (List.ne_nil_of_mem h)];exact wx h
theorem dt{b:Int}(hb:0<b)(h:∀x∈ns,x<b):Hv ns<b:=by
 unfold Hv;split
 ·exact hb
 ·rename_i hn;exact h _ (Rs hn)
def wAt(nm:Str)(d:Nat)(u:Wt):Int:=if u.1=nm/\u.2.1=(d:Int) then u.2.2 else 0
def cAt(d:Nat)(p:Int×Int):Int:=if p.1=(d:Int) then p.2 else 0
def bAt(AT:List Int)(lag:Int)(d:Nat):Int:=if d+lag.toNat<AT.length then AT.getD (d+lag.toNat) 0 else 0
def Er(AT:List Int)(lag:Int):List Int:=Bh AT.length (bAt AT lag)
theorem sx(AT:List Int)(lag:Int):AT.drop lag.toNat++Bh (min lag.toNat AT.length) (λ_=>0)=Er AT lag:=by
 unfold Er bAt;apply Zxg;intro i;by_cases hi:i<AT.length
 ·rw[Cg hi];by_cases h:i+lag.toNat<AT.length
  ·rw[FT h,Zy0 (by rw[Zyj];lia),Zwb,Nat.add_comm lag.toNat i,Zzp h,Zz8,Zzp h];rfl
  ·rw[FS h,Zyi (by rw[Zyj];lia),Zyj,Cg (by lia)]
 ·rw[Zz0 (by rw[Zzc,Zyj,B4];lia),Zz0 (by rw[B4];lia)]
def pAt(plan:Str->List Int)(nm:Str)(d:Nat)(w:Wr):Int:=Cb (λp:Str×Int=>if p.1=nm then p.2*bAt (plan w.name) w.lag d else 0) w.parts
def Kc(S:Sh)(plan:Str->List Int)(nm:Str)(d:Nat):Int:=Cb (wAt nm d) S.wants+Cb (pAt plan nm d) S.wares
def Da(S:Sh)(plan:Str->List Int)(nm:Str):List Int:=Bh (AE S) (Kc S plan nm)
def Js(w:Wr)(d:Nat):Int:=(if d=0 then w.stock else 0)+Cb (cAt d) w.coming
end NP
namespace L2
open PySem PySem.Spec PyProof.Rows
def ItI(a:Addr)(o:Obj)(kvs:List (Key×V)):It:=⟨λi H=>H a=some (.frz o (.dK kvs))/\i<kvs.length,λi H x H'=>∃p k v,x=.ref p/\H p=none/\kvs[i]?=some (k,v)/\H'=upd H p (.tup [kV k,v]),λi H=>H a=some (.frz o (.dK kvs))/\kvs.length<=i⟩
def xo(te:TE):TI:=λZ H R=>te Z H λx H1=>∃a kvs,x=.ref a/\H1 a=some (.dK kvs)/\∀o,R (ItI a o kvs) (upd H1 a (.frz o (.dK kvs)))
def zo(H:Hp)(ka kb:List (Key×V)):Prop:=∀p∈ka,∃y d e,C4 kb p.1=some y/\RD H d p.2/\RD H e y/\okD d=true/\okD e=true/\PyData.eqv d e=true
def vo:R2:=λx y H Q=>∃a b ka kb,x=.ref a/\y=.ref b/\Rd H a (.dK ka)/\Rd H b (.dK kb)/\ka.length=kb.length/\zo H ka kb/\Q (.bl true) H
def vm:R2:=λx y H Q=>∃a b ka kb,x=.ref a/\y=.ref b/\Rd H a (.dK ka)/\Rd H b (.dK kb)/\ka.length=kb.length/\zo H ka kb/\Q (.bl false) H
end L2
namespace L2
open PySem PySem.Spec PyProof.Rows PySem.W NP
def Dw(n:Nat)(key:Nat->Int){α:Type}:KasT α->(α->Prop)->Prop
 |.ret a,Q=>Q a
 |.ask i j k,Q=>i<n/\j<n/\Dw n key (k (decide (key i<key j))) Q
theorem Fb{α β:Type}{f:α->KasT β}{Q:β->Prop}:∀{t:KasT α},Dw n key t (λa=>Dw n key (f a) Q)->Dw n key (t.bind f) Q
 |.ret _,h=>h
 |.ask _ _ _,⟨h1,h2,h3⟩=>⟨h1,h2,Fb h3⟩
theorem E3{α:Type}{Q Q':α->Prop}(hq:∀a,Q a->Q' a):∀{t:KasT α},Dw n key t Q->Dw n key t Q'
 |.ret _,h=>hq _ h
 |.ask _ _ _,⟨h1,h2,h3⟩=>⟨h1,h2,E3 hq h3⟩
def klt(key:Nat->Int)(a b:Nat):Prop:=key a<key b\/(key a=key b/\a<b)
theorem j4{a b c:Nat}(h1:klt key a b)(h2:klt key b c):klt key a c:=by unfold klt at *;lia
theorem W7{a b:Nat}(h:klt key a b):key a<=key b:=by unfold klt at h;lia
abbrev pat(p:Array Nat)(k:Nat):Nat:=p.getD k 0
theorem Vh{p:Array Nat}(hj:j<=p.size)(k:Nat):pat (kas_rev p i j) k=if i<=k/\k<j then pat p (i+j - 1 - k) else pat p k:=by
 have e:=getElem?_mirror_all (i:=i) hj k;unfold pat kas_rev;rw[Zyn,e];by_cases h1:i<=k/\k<j
 ·rw[FT h1,FT h1,Zyn]
 ·rw[FS h1,FS h1,Zyn]
theorem vz{p:Array Nat}{src d:Nat}(hs:src<p.size)(hd:d<=src)(k:Nat):pat (bubble p src d) k=if k=src - d then pat p src else if src - d<k/\k<=src then pat p (k - 1) else pat p k:=by
 have e:=getElem?_bubble hs d hd k;unfold pat;rw[Zyn,e];by_cases h1:k=src - d
 ·rw[FT h1,FT h1,Zyn]
 ·rw[FS h1,FS h1];by_cases h2:src - d<k/\k<=src
  ·rw[FT h2,FT h2,Zyn]
  ·rw[FS h2,FS h2,Zyn]
theorem Qz(p:Array Nat)(i j:Nat):(kas_rev p i j).size=p.size:=mirror_size _ _ _ _
theorem R0(p:Array Nat)(i j:Nat):(kas_rev p i j).toList.Perm p.toList:=Array.perm_iff_toList_perm.mp (mirror_perm _ _ _ _)
structure Srt(n:Nat)(key:Nat->Int)(p:Array Nat)(m:Nat):Prop where
 sz:p.size=n
 pm:p.toList.Perm (Zyo n)
 up:∀i j,i<j->j<m->klt key (pat p i) (pat p j)
 fix:∀k,m<=k->k<n->pat p k=k
 low:∀k,k<m->pat p k<m
theorem Srt.lt{p:Array Nat}(h:Srt n key p m){k:Nat}(hm:m<=n)(hk:k<n):pat p k<n:=by
 by_cases z:k<m
 ·have:=h.low k z;lia
 ·rw[h.fix k (by lia) hk];exact hk
theorem ba:∀(f:Nat) {p:Array Nat} {m:Nat},Srt n key p m->1<=m->m+f=n->Dw n key (kas_asc p f m) λm'=>m<=m'/\m'<=n/\Srt n key p m'/\(m'<n->key (pat p m')<key (pat p (m' - 1)))
 |0,p,m,h,h1,h2=>⟨Zzx _,by lia,h,λz=>by lia⟩
 |f+1,p,m,h,h1,h2=>by
  refine⟨h.lt (by lia) (by lia),h.lt (by lia) (by lia),?_⟩;show Dw n key (if decide (key (pat p m)<key (pat p (m - 1)))=true then _ else _) _;by_cases c:key (pat p m)<key (pat p (m - 1))
  ·rw[FQ c,FT rfl];exact⟨Zzx _,by lia,h,λ_=>c⟩
  ·rw[FR c,FS (by decide)];have e:=h.fix m (Zzx _) (by lia);have h':Srt n key p (m+1):=⟨h.sz,h.pm,λi j hij hj=>by
     by_cases z:j<m
     ·exact h.up i j hij z
     ·have ej:j=m:=by lia
      subst ej
      have l1:klt key (pat p (j - 1)) (pat p j):=by
       have:=h.low (j - 1) (by lia)
       unfold klt
       rw[e] at c ⊢
       lia
      by_cases y:i=j - 1
      ·rw[y];exact l1
      ·exact j4 (h.up i (j - 1) (by lia) (by lia)) l1,λk hk hkn=>h.fix k (by lia) hkn,λk hk=>by
     by_cases z:k<m
     ·have:=h.low k z;lia
     ·have ek:k=m:=by lia
      rw[ek,e];lia⟩
   exact E3 (λa z0=>by obtain⟨a1,a2,a3,a4⟩:=z0;exact ⟨by lia,a2,a3,a4⟩) (ba f h' (by lia) (by lia))
structure Fal(n:Nat)(key:Nat->Int)(p:Array Nat)(m q:Nat):Prop where
 sz:p.size=n
 pm:p.toList.Perm (Zyo n)
 q1:q+1<=m
 m1:m<=n
 dn:∀i j,i<j->j<m - (q+1)->klt key (pat p j) (pat p i)
 fix:∀k,m - (q+1)<=k->k<n->pat p k=k
 low:∀k,k<m - (q+1)->pat p k<m - (q+1)
 cr:∀i,i<m - (q+1)->key (m - 1)<key (pat p i)
 eq:∀k,m - (q+1)<=k->k<m->key k=key (m - 1)
structure Dwn(n:Nat)(key:Nat->Int)(p:Array Nat)(m:Nat):Prop where
 sz:p.size=n
 pm:p.toList.Perm (Zyo n)
 dn:∀i j,i<j->j<m->klt key (pat p j) (pat p i)
 fix:∀k,m<=k->k<n->pat p k=k
 low:∀k,k<m->pat p k<m
 last:∀i,i<m->key (m - 1)<=key (pat p i)
theorem Fal.turn{p:Array Nat}{q:Nat}(h:Fal n key p m q):Dwn n key (kas_rev p (m - (q+1)) m) m:=by
 have hm:=h.m1;have h1:=h.q1;have pr:=λk=>Vh (p:=p) (i:=m - (q+1)) (j:=m) (by rw[h.sz];exact hm) k;refine⟨by rw[Qz,h.sz],(R0 _ _ _).trans h.pm,λi j hij hj=>?_,λk hk hkn=>?_,λk hk=>?_,λi hi=>?_⟩
 ·have vi1:m - (q+1)<=i->pat (kas_rev p (m - (q+1)) m) i=m - (q+1)+m - 1 - i:=λa=>by rw[pr i,FT ⟨a,by lia⟩];exact h.fix _ (by lia) (by lia)
  have vi2:¬ m - (q+1)<=i->pat (kas_rev p (m - (q+1)) m) i=pat p i:=λa=>by rw[pr i,FS (λz=>a z.1)]
  have vj1:m - (q+1)<=j->pat (kas_rev p (m - (q+1)) m) j=m - (q+1)+m - 1 - j:=λa=>by rw[pr j,FT ⟨a,hj⟩];exact h.fix _ (by lia) (by lia)
  have vj2:¬ m - (q+1)<=j->pat (kas_rev p (m - (q+1)) m) j=pat p j:=λa=>by rw[pr j,FS (λz=>a z.1)]
  by_cases a:m - (q+1)<=i
  ·rw[vi1 a,vj1 (by lia)];have e1:=h.eq (m - (q+1)+m - 1 - i) (by lia) (by lia);have e2:=h.eq (m - (q+1)+m - 1 - j) (by lia) (by lia);unfold klt;lia
  ·rw[vi2 a];by_cases b:m - (q+1)<=j
   ·rw[vj1 b];have e2:=h.eq (m - (q+1)+m - 1 - j) (by lia) (by lia);have e3:=h.cr i (by lia);unfold klt;lia
   ·rw[vj2 b];exact h.dn i j hij (by lia)
 ·rw[pr k,FS (by lia)];exact h.fix k (by lia) hkn
 ·rw[pr k];split
  ·rw[h.fix _ (by lia) (by lia)];lia
  ·have:=h.low k (by lia);lia
 ·rw[pr i];split
  ·rw[h.fix _ (by lia) (by lia)];have:=h.eq (m - (q+1)+m - 1 - i) (by lia) (by lia);lia
  ·have:=h.cr i (by lia);lia
theorem Fal.one{p:Array Nat}(h:Fal n key p m 0):Dwn n key p m:=by
 have hm:=h.m1;have h1:=h.q1;have e:=h.fix (m - 1) (by lia) (by lia);refine⟨h.sz,h.pm,λi j hij hj=>?_,λk hk hkn=>h.fix k (by lia) hkn,λk hk=>?_,λi hi=>?_⟩
 ·by_cases z:j=m - 1
  ·rw[z,e];have:=h.cr i (by lia);exact .inl this
  ·exact h.dn i j hij (by lia)
 ·by_cases z:k=m - 1
  ·rw[z,e];lia
  ·have:=h.low k (by lia);lia
 ·by_cases z:i=m - 1
  ·rw[z,e];exact Zys _
  ·have:=h.cr i (by lia);lia
theorem Dwn.next{p:Array Nat}(h:Dwn n key p m)(h1:1<=m)(hm:m<n)(c:key m<key (m - 1)):Fal n key p (m+1) 0 :=
 ⟨h.sz,h.pm,by lia,by lia,λi j hij hj=>h.dn i j hij (by lia),λk hk hkn=>h.fix k (by lia) hkn,λk hk=>by have:=h.low k (by lia);lia,λi hi=>by
  have:=h.last i (by lia)
  show key m<_
  lia,λk hk hk2=>by
  have:k=m:=by lia
  subst this
  rfl⟩
theorem Q0:∀(f:Nat) {p:Array Nat} {m q:Nat},Fal n key p m q->m+f=n->Dw n key (kas_desc f p m q) λr=>Fal n key r.1 r.2.1 r.2.2
 |0,p,m,q,h,_=>h
 |f+1,p,m,q,h,hf=>by
  have h1:=h.q1;have e1:=h.fix m (by lia) (by lia);have e2:=h.fix (m - 1) (by lia) (by lia);refine⟨by show pat p m<n;lia,by show pat p (m - 1)<n;lia,?_⟩;show Dw n key (if decide (key (pat p m)<key (pat p (m - 1)))=true then _ else _) _;rw[e1,e2];by_cases c:key m<key (m - 1)
  ·rw[FQ c,FT rfl];by_cases hq:q > 0
   ·rw[FT hq];exact Q0 f (h.turn.next (by lia) (by lia) c) (by lia)
   ·rw[FS hq];have q0:q=0:=by lia
    subst q0;exact Q0 f (h.one.next (by lia) (by lia) c) (by lia)
  ·rw[FR c,FS (by decide)];refine⟨by show pat p (m - 1)<n;lia,by show pat p m<n;lia,?_⟩;show Dw n key (if decide (key (pat p (m - 1))<key (pat p m))=true then _ else _) _;rw[e1,e2];by_cases d:key (m - 1)<key m
   ·rw[FQ d,FT rfl];exact h
   ·rw[FR d,FS (by decide)];have ek:key m=key (m - 1):=by lia
    refine Q0 f ⟨h.sz,h.pm,by lia,by lia,λi j hij hj=>h.dn i j hij (by lia),λk hk hkn=>h.fix k (by lia) hkn,λk hk=>by have:=h.low k (by lia);lia,λi hi=>by have:=h.cr i (by lia);show key m<_;lia,λk hk hk2=>?_⟩ (by lia);show key k=key m;by_cases z:k=m
    ·rw[z]
    ·rw[ek];exact h.eq k (by lia) (by lia)
theorem bq{p:Array Nat}(h:Dwn n key p m)(h1:1<=m)(hm:m<=n):Dw n key (kas_tail3 m n p) λr=>1<=r.1/\r.1<=n/\Srt n key r.2 r.1:=by
 have pr:=λk=>Vh (p:=p) (i:=0) (j:=m) (by rw[h.sz];exact hm) k;have hs:Srt n key (kas_rev p 0 m) m:=by
  refine⟨by rw[Qz,h.sz],(R0 _ _ _).trans h.pm,λi j hij hj=>?_,λk hk hkn=>?_,λk hk=>?_⟩
  ·rw[pr i,pr j,FT ⟨by lia,by lia⟩,FT ⟨by lia,by lia⟩];exact h.dn _ _ (by lia) (by lia)
  ·rw[pr k,FS (by lia)];exact h.fix k hk hkn
  ·rw[pr k,FT ⟨by lia,hk⟩];exact h.low _ (by lia)
 exact Fb (E3 (λa z0=>by obtain⟨a1,a2,a3,_⟩:=z0;exact ⟨by show 1<=a;lia,a2,a3⟩) (ba (n - m) hs h1 (by lia)))
theorem dc{p:Array Nat}(h:Fal n key p (m+1) 0):Dw n key (kas_descPart m n p) λr=>1<=r.1/\r.1<=n/\Srt n key r.2 r.1:=by
 have:=h.m1;refine Fb (E3 (λr hr=>?_) (Q0 (n - (m+1)) h (by lia)));have r1:=hr.q1;have r2:=hr.m1;by_cases z:r.2.2 > 0
 ·rw[FT z];exact bq hr.turn (by lia) r2
 ·rw[FS z];have q0:r.2.2=0:=by lia
  rw[q0] at hr;exact bq hr.one (by lia) r2
theorem Bb{k:Nat}(h:k<n):pat (Zyc (Zyo n)) k=k:=by
 unfold pat;rw[Zyn];simp[h]
theorem sg(h2:2<=n):Dw n key (kas_count n (Zyc (Zyo n))) λr=>1<=r.1/\r.1<=n/\Srt n key r.2 r.1:=by
 have s0:Srt n key (Zyc (Zyo n)) 1:=⟨by simp,by simp,λi j hij hj=>by lia,λk _ hk=>Bb hk,λk hk=>by rw[Bb (by lia)];exact hk⟩;refine Fb (E3 (λm hm=>?_) (ba (n - 1) s0 (Zzx _) (by lia)));obtain⟨a1,a2,a3,a4⟩:=hm;by_cases z:m=n
 ·rw[FT (by rw[z];simp)];exact⟨a1,a2,a3⟩
 ·rw[FS (by simpa using z)];have c:=a4 (by lia);rw[Bb (by lia),Bb (by lia)] at c;by_cases y:m > 1
  ·rw[FT y];have g0:pat (Zyc (Zyo n)) 0=0:=Bb (by lia);have g1:pat (Zyc (Zyo n)) (m - 1)=m - 1:=Bb (by lia);refine⟨by show pat (Zyc (Zyo n)) 0<n;lia,by show pat (Zyc (Zyo n)) (m - 1)<n;lia,?_⟩;show Dw n key (if decide (key (pat (Zyc (Zyo n)) 0)<key (pat (Zyc (Zyo n)) (m - 1)))=true then _ else _) _;rw[g0,g1];by_cases d:key 0<key (m - 1)
   ·rw[FQ d,FT rfl];exact⟨a1,a2,a3⟩
   ·rw[FR d,FS (by decide)];have up:∀i,i<m->key 0<=key i/\key i<=key (m - 1):=λi hi=>by
     constructor
     ·by_cases w:i=0
      ·rw[w];exact Zys _
      ·have:=W7 (a3.up 0 i (by lia) hi)
       rw[Bb (by lia),Bb (by lia)] at this;exact this
     ·by_cases w:i=m - 1
      ·rw[w];exact Zys _
      ·have:=W7 (a3.up i (m - 1) (by lia) (by lia))
       rw[Bb (by lia),Bb (by lia)] at this;exact this
    have al:∀i,i<m->key i=key (m - 1):=λi hi=>by have:=up i hi;lia
    have pr:=λk=>Vh (p:=Zyc (Zyo n)) (i:=0) (j:=m) (by simp;lia) k;have dw:Dwn n key (kas_rev (Zyc (Zyo n)) 0 m) m:=by
     refine⟨by rw[Qz];simp,(R0 _ _ _).trans (by simp),λi j hij hj=>?_,λk hk hkn=>?_,λk hk=>?_,λi hi=>?_⟩
     ·rw[pr i,pr j,FT ⟨by lia,by lia⟩,FT ⟨by lia,by lia⟩,Bb (by lia),Bb (by lia)];have e1:=al (0+m - 1 - i) (by lia);have e2:=al (0+m - 1 - j) (by lia);unfold klt;lia
     ·rw[pr k,FS (by lia),Bb hkn]
     ·rw[pr k,FT ⟨by lia,hk⟩,Bb (by lia)];lia
     ·rw[pr i,FT ⟨by lia,hi⟩,Bb (by lia)];have:=al (0+m - 1 - i) (by lia);lia
    exact dc (dw.next (by lia) (by lia) c)
  ·rw[FS y];have m1:m=1:=by lia
   subst m1;have dw:Dwn n key (Zyc (Zyo n)) 1:=⟨by simp,by simp,λi j hij hj=>by lia,λk _ hk=>Bb hk,λk hk=>by rw[Bb (by lia)];exact hk,λi hi=>by
    rw[Bb (by lia)]
    have:i=0:=by lia
    rw[this]
    exact Zys _⟩
   exact dc (dw.next (by lia) (by lia) c)
theorem R8{p:Array Nat}{k:Nat}(h:Srt n key p k)(hk:k<n):∀(f l r:Nat),l<=r->r<=k->r - l<=f->(∀i,i<l->key (pat p i)<=key k)->(∀i,r<=i->i<k->key k<key (pat p i))->Dw n key (kas_place p k f l r) λl'=>l'<=k/\(∀i,i<l'->key (pat p i)<=key k)/\∀i,l'<=i->i<k->key k<key (pat p i)
 |0,l,r,h1,h2,h3,h4,h5=>⟨by lia,h4,λi hi=>h5 i (by lia)⟩
 |f+1,l,r,h1,h2,h3,h4,h5=>by
  show Dw n key (if l≥r then _ else _) _;by_cases z:l≥r
  ·rw[FT z];exact⟨by lia,h4,λi hi=>h5 i (by lia)⟩
  ·rw[FS z];have e:=h.fix k (Zzx _) hk;refine⟨by show pat p k<n;lia,by have:=h.low ((l+r) / 2) (by lia);show pat p ((l+r) / 2)<n;lia,?_⟩;show Dw n key (if decide (key (pat p k)<key (pat p ((l+r) / 2)))=true then _ else _) _;rw[e];have mono:∀i j,i<=j->j<k->key (pat p i)<=key (pat p j):=λi j hij hj=>by
    by_cases y:i=j
    ·rw[y];exact Zys _
    ·exact W7 (h.up i j (by lia) hj)
   by_cases c:key k<key (pat p ((l+r) / 2))
   ·rw[FQ c,FT rfl];exact R8 h hk f l ((l+r) / 2) (by lia) (by lia) (by lia) h4 λi hi hik=>by have:=mono _ i hi hik;lia
   ·rw[FR c,FS (by decide)];exact R8 h hk f ((l+r) / 2+1) r (by lia) h2 (by lia) (λi hi=>by have:=mono i ((l+r) / 2) (by lia) (by lia);lia) h5
theorem sw:∀(f:Nat) {p:Array Nat} {k:Nat},Srt n key p k->k+f=n->Dw n key (kas_bin f p k) λp'=>Srt n key p' n
 |0,p,k,h,hf=>by
  have:k=n:=by lia
  subst this;exact h
 |f+1,p,k,h,hf=>by
  refine Fb (E3 (λl hl=>?_) (R8 h (by lia) k 0 k (Zym _) (Zzx _) (by lia) (λi hi=>by lia) (λi hi hik=>by lia)));obtain⟨l1,l2,l3⟩:=hl;have hs:=h.sz;have pb:=λi=>vz (p:=p) (src:=k) (d:=k - l) (by lia) (by lia) i;have ed:k - (k - l)=l:=by lia
  rw[ed] at pb;have ek:=h.fix k (Zzx _) (by lia);refine sw f ⟨by rw[bubble_size,hs],(Array.perm_iff_toList_perm.mp (bubble_perm _ _ _)).trans h.pm,λi j hij hj=>?_,λi hi hin=>?_,λi hi=>?_⟩ (by lia)
  ·rw[pb i,pb j];by_cases a:i=l
   ·rw[FT a,FS (by lia),FT ⟨by lia,by lia⟩,ek];have:=l3 (j - 1) (by lia) (by lia);exact .inl this
   ·rw[FS a];by_cases b:j=l
    ·rw[FT b,FS (by lia),ek];have h1:=l2 i (by lia);have h2:=h.low i (by lia);unfold klt;lia
    ·rw[FS b];by_cases c:l<i
     ·rw[FT ⟨c,by lia⟩,FT ⟨by lia,by lia⟩];exact h.up (i - 1) (j - 1) (by lia) (by lia)
     ·rw[FS (λz=>c z.1)];by_cases d:l<j
      ·rw[FT ⟨d,by lia⟩];exact h.up i (j - 1) (by lia) (by lia)
      ·rw[FS (λz=>d z.1)];exact h.up i j hij (by lia)
  ·rw[pb i,FS (by lia),FS (by lia)];exact h.fix i (by lia) hin
  ·rw[pb i];split
   ·rw[ek];lia
   ·split
    ·have:=h.low (i - 1) (by lia);lia
    ·have:=h.low i (by lia);lia
theorem v9(h2:2<=n):Dw n key (kas_sort n) λp=>Srt n key p n:=by
 refine Fb (E3 (λr hr=>?_) (sg h2));obtain⟨r1,r2,r3⟩:=hr;by_cases z:r.1<n
 ·rw[FT z];have e:max r.1 1=r.1:=by lia
  rw[e];exact sw _ r3 (by lia)
 ·rw[FS z];have e:r.1=n:=by lia
  rw[e] at r3;exact r3
theorem Ya{α:Type}{Qp:α->Prop}{Q:α->Shared->Prop}(hc:∀i j (C:Bool->Shared->Prop),i<n->j<n->C (decide (key i<key j)) s->cmp i j C s)(hq:∀a,Qp a->Q a s):∀{t:KasT α},Dw n key t Qp->t.kasWp cmp Q s
 |.ret _,h=>hq _ h
 |.ask i j k,⟨h1,h2,h3⟩=>hc i j _ h1 h2 (Ya hc hq h3)
def Uw(kz:Str->Int)(xs ys:List Str):Prop:=ys.Perm xs/\ys.Pairwise λa b=>kz a<=kz b
def N9(kz:Str->Int)(xs ys:List Str):Prop:=∃ps:List Nat,ps.Perm (Zyo xs.length)/\ys=ps.map (λi=>xs.getD i "")/\ps.Pairwise (klt λi=>kz (xs.getD i ""))
theorem R6(xs:List Str):(Zyo xs.length).map (λi=>xs.getD i "")=xs:=by
 apply Zxg;intro i;by_cases hi:i<xs.length
 ·rw[Zzw,List.getElem?_range hi,Zzp hi];simp[Zz8,hi]
 ·rw[Zz0 (by simp;lia),Zz0 (by lia)]
theorem Hg{xs:List Str}(h:N9 kz xs ys):Uw kz xs ys:=by
 obtain⟨ps,h1,rfl,h2⟩:=h;refine⟨?_,?_⟩
 ·have:=h1.map (λi=>xs.getD i "")
  rw[R6] at this;exact this
 ·rw[List.pairwise_map];exact h2.imp λ{a b} hab=>W7 hab
theorem Z8{xs:List Str}(h:ys.Perm xs)(hl:xs.length<2):N9 kz xs ys:=by
 refine⟨Zyo xs.length,List.Perm.refl _,?_,?_⟩
 ·rw[R6];match xs,hl with
  |[],_=>exact List.perm_nil.mp h
  |[x],_=>exact List.perm_singleton.mp h
 ·rw[Zwq];intro i j hi hj hij;rw[List.length_range] at hi hj;lia
theorem A05{p:Array Nat}(h:Srt n key p n):p.toList.Pairwise (klt key):=by
 rw[Zwq];intro i j hi hj hij;rw[Zxz,h.sz] at hi hj;have:=h.up i j hij hj;unfold pat at this;rw[Zyn,Zyn,Zx8 (by rw[h.sz];exact hi),Zx8 (by rw[h.sz];exact hj)] at this;simpa using this
theorem wm{o:HO}(x:AF P w H h a o):∃ob,h.get? a=some ob:=by
 cases o with
 |lst xs=>obtain⟨_,_,_,_,e⟩:=x;exact⟨_,e⟩
 |tup xs=>obtain⟨_,_,_,o,e,_⟩:=x;exact⟨_,e⟩
 |dK kvs=>obtain⟨_,_,_,_,o,_,_,e,_⟩:=x;exact⟨_,e⟩
 |dT kvs=>obtain⟨_,_,_,_,o,_,_,e,_⟩:=x;exact⟨_,e⟩
 |set S n=>obtain⟨o,_,_,_,e,_⟩:=x;exact⟨_,e⟩
 |ins C dx fs=>obtain⟨_,_,_,e,_⟩:=x;exact⟨_,e⟩
 |own y=>exact x
 |xd fs=>obtain⟨_,⟨_,_,_,e,_⟩,_⟩:=x;exact⟨_,e⟩
 |rng lo hi=>obtain⟨_,_,_,e⟩:=x;exact⟨_,e⟩
 |frz o u=>obtain⟨e,_⟩:=x;exact⟨_,e⟩
 |tbl ps=>exact⟨_,x⟩
 |met f y=>exact⟨_,x⟩
 |ext φ=>obtain⟨_,e,_⟩:=x;exact e
def Z0(c:Addr)(q:Str):HO:=.ext λh=>h.CodeRec (.ref c) q
theorem sj{c:Addr}(x:h.CodeRec (.ref c) q):AF P w H h c (Z0 c q):=by
 obtain⟨c',o,vs,t,e,ho,r⟩:=id x;cases e;refine⟨x,⟨o,ho⟩,λh1 h2 y k=>?_⟩;obtain⟨c2,o2,vs2,t2,e2,g2,r2⟩:=y;cases e2;exact⟨c,o2,vs2,t2,rfl,k _ g2,r2⟩
theorem sk{c:Addr}(ok:HOk P w H h)(e:H c=some (Z0 c q)):h.CodeRec (.ref c) q:=(ok c _ e).1
def BK(H:Hp)(P:Addr)(pos:Pos)(q:Str):Prop:=H P=some (.tbl #[])\/∃c,H P=some (.tbl #[rawInt pos.line,rawInt pos.col,.ref c])/\H c=some (Z0 c q)
theorem BK.same{P:Addr}(t:BK H P pos q)(s:AA H H'):BK H' P pos q:=t.elim (λe=>.inl (s _ _ e)) (λz0=>by obtain⟨c,e,e2⟩:=z0;exact .inr ⟨c,s _ _ e,s _ _ e2⟩)
def Lf(mg:Str->Option Value)(base:Heap):Prop:=∃bm ob,mg "__builtins__" = some (.ref bm)/\bm≠builtinsNs/\bm≠mainGlobals/\base.get? bm=some ob/\ob.cls=.type "module" /\ ob.dict=some builtinsNs/\ob.data=.plain
theorem qd{P c:Addr}{body:Expr}{clos:List (Str×Addr)}
  (I:Inv X pins Z H s) (hcd:X.env.code=.ref c) (hC:codeHdIn X.K c P=true) (hB:Lf X.mg X.base) (t:BK H P pos (X.env.qual ++ "<lambda>")) (hdef:defaultsOf params X.env=([],[])) (hcl:closureFor scope X.env=pure clos)
  (h:∀f c' ctv H' s',Inv X pins Z H' s'->s'.heap.get? f=some (kla_obj "<lambda>" (X.env.qual ++ "<lambda>") params body scope clos ((X.mg "__name__").getD .none) c' ctv)->H' f=none->H' c'=some (Z0 c' (X.env.qual ++ "<lambda>"))->BK H' P pos (X.env.qual ++ "<lambda>")->But P H H'->Q (.ref f) s') :
  wpAny (model X.prog X.w) X.A (eval (.Lambda params body scope pos) X.env) Q X.xe s:=by
 refine kla_eval hdef ?_;have hHP:∃u,H P=some u:=t.elim (λe=>⟨_,e⟩) (λz0=>by obtain⟨c,e,_⟩:=z0;exact ⟨_,e⟩);obtain⟨u,hu⟩:=hHP;have neP:∀b o,X.base.get? b=some o->b≠P:=λb o e z=>by rw[z] at e;rw[(I.bs P o e).2] at hu;cases hu
 have C:CodeHd s.heap c P:=codeHd_of_K I.kIn hC;have hg:s.heap.Ns mainGlobals X.mg:=I.ok.mod.glob.keeps I.bk;have hgP:mainGlobals≠P:=by obtain⟨o,es,ep,e,_⟩:=I.ok.mod.glob;exact neP _ _ e
 have hb:s.heap.BuiltinsAt X.mg P:=by
  obtain⟨bm,ob,b1,b2,b3,b4,b5⟩:=hB;exact⟨bm,ob,b1,b2,b3,neP _ _ b4,I.bk _ _ b4,b5⟩
 rcases t with e | ⟨c',e,ec⟩
 ·have hP:s.heap.get? P=some (tabObj #[]):=I.hok P _ e
  refine kla_makeFunction (ps:=#[]) hcl I.ok.glob hg hcd C hP trivial rfl hgP hb λc' ctv h' tk hx hge hlt hrec htb=>?_;have hc0:H c'=none:=I.hok.fresh hge;have cP:c'≠P:=λz=>by rw[z,hu] at hc0;cases hc0
  have k:∀b o,b≠P->s.heap.get? b=some o->(h'.push (kla_obj "<lambda>" (X.env.qual ++ "<lambda>") params body scope clos ((X.mg "__name__").getD .none) c' ctv)).get? b=some o:=λb o nb eb=>Zzv _ (hx b o nb eb);have hsz:s.heap.objs.size<=h'.objs.size:=by lia
  have hf:H h'.objs.size=none:=I.hok.fresh hsz;have cf:h'.objs.size≠c':=Zwy hlt;have fP:h'.objs.size≠P:=λz=>by rw[z,hu] at hf;cases hf
  refine h h'.objs.size c' ctv (upd (upd H P (.tbl #[rawInt pos.line,rawInt pos.col,.ref c'])) c' (Z0 c' (X.env.qual ++ "<lambda>"))) _ (I.un (t':=tk) ⟨λb o eb n _ _=>k b o (λz=>by rw[z,hu] at n;cases n) eb,λb o eb n _ _=>⟨o.slots,k b o (λz=>by rw[z,hu] at n;cases n) eb⟩,λb o eb n _=>?_,λb o eb _=>?_,λb xs eb=>?_,λb o u' eb=>?_,λb ps eb=>?_⟩ λb v eb=>?_) (Zzh _ rfl) ?_ A1 ?_ ?_
  ·rw[Ab (Zyv (Zze (Zzn eb) hge)),Ab (λz=>by rw[z,hu] at n;cases n)];exact n
  ·by_cases z:b=P
   ·rw[z];exact⟨_,Zzv _ htb⟩
   ·exact⟨o,k b o z eb⟩
  ·rw[Ab (A9 eb hc0),Ab (λz=>by rw[z,e] at eb;cases eb)];exact eb
  ·rw[Ab (A9 eb hc0),Ab (λz=>by rw[z,e] at eb;cases eb)];exact eb
  ·by_cases z:b=P
   ·subst z;rw[e] at eb;cases eb;exact⟨#[rawInt pos.line,rawInt pos.col,.ref c'],by rw[Ab (Zza cP),A1];simp⟩
   ·exact⟨#[],by rw[Ab (A9 eb hc0),Ab z,eb];simp⟩
  ·by_cases z:b=c'
   ·subst z;rw[A1] at eb;cases eb;exact sj (hrec.push _)
   ·rw[Ab z] at eb;by_cases z2:b=P
    ·subst z2;rw[A1] at eb;cases eb;exact Zzv _ htb
    ·rw[Ab z2] at eb;refine(I.hok b v eb).stay (λb' u' hb' q=>k b' u' (λz3=>?_) q) (λb' q=>?_) λb' xs q=>?_
     ·rcases hb' with r | r
      ·exact z2 (r.symm.trans z3)
      ·rw[z3,e] at r;cases r
     ·rw[Ab (A9 q hc0),Ab (λz3=>by rw[z3,e] at q;cases q)];exact q
     ·rw[Ab (A9 q hc0),Ab (λz3=>by rw[z3,e] at q;cases q)];exact q
  ·rw[Ab cf,Ab fP];exact hf
  ·exact .inr ⟨c',by rw[Ab (Zza cP),A1],A1⟩
  ·exact λb o nb eb=>by rw[Ab (A9 eb hc0),Ab nb];exact eb
 ·have hP:s.heap.get? P=some (tabObj #[rawInt pos.line,rawInt pos.col,.ref c']):=I.hok P _ e
  refine kla_makeFunctionHit (cv:=.ref c') hcl I.ok.glob hg hcd C hP trivial (by simp[codeAmong,rawInt]) hb λctv h' tk hk hsz=>?_;have k:∀b o,s.heap.get? b=some o->(h'.push (kla_obj "<lambda>" (X.env.qual ++ "<lambda>") params body scope clos ((X.mg "__name__").getD .none) c' ctv)).get? b=some o:=λb o eb=>Zzv _ (hk b o eb);exact h h'.objs.size c' ctv H _ (I.kept (t':=tk) k) (Zzh _ rfl) (I.hok.fresh hsz) ec (.inr ⟨c',e,ec⟩) (But.refl _ _)
theorem x8{c' d cc:Addr}{lv:Str}{p1 p2 p3:Pos}{pm ctv:Value}{k:Int}{t t0:Tok}{vs:List (Key×Value)}
  (hf:s.heap.get? f=some (kla_obj "<lambda>" q params (.Subscript (.Name lv p1) (.Name nm p2) p3) scope [(lv,cc)] pm c' ctv)) (hrec:s.heap.CodeRec (.ref c') q) (hcell:s.heap.IsCell cc (some (.ref d))) (hd:s.heap.DictOf (B5 prog w) d vs) (hv:valueAt vs (.inr x)=some (.int k t))
  (hroom:A.depth<recursionLimit) (hlim:s.heap.NoLimit) (hsc:scope.kind=.function/\scope.isCoroutine=false/\scope.isGenerator=false/\scope.names.lookup nm=some .local/\scope.names.lookup lv=some .free/\∀x∈scope.names,x.2≠.cell)
  (hbind:bindArgs (kla_fn "<lambda>" q params (.Subscript (.Name lv p1) (.Name nm p2) p3) scope [(lv,cc)] pm (.ref c') ctv) ⟨[.str x t0],[]⟩=pure [(nm,.str x t0)]) (hn1:(nm == ("__debug__" : Str))=false:=by decide) (hn2:(lv == ("__debug__" : Str))=false:=by decide) (hn3:(lv == ("__classdict__" : Str))=false:=by decide) :
  wpAny (model prog w) A (call (.ref f) [.str x t0]) (λv s'=>∃h' tk t',s'={s with heap:=h',toks:=tk}/\v=.int k t'/\∀b o,s.heap.get? b=some o->h'.get? b=some o) (λ_ _=>False) s:=by
 obtain⟨k1,k2,k3,k4,k5,k6⟩:=hsc;refine wpAny_call (kla_callFunE hroom hf rfl k2 k3 rfl hrec ?_);rw[hbind];refine FV (wpAny_newFunctionEnv k6 (λy hy=>?_) (λh₁ hns hsb=>?_) k1)
 ·rw[Zzr.mp hy];exact k4
 have hk:∀b o,s.heap.get? b=some o->h₁.get? b=some o:=λb o e=>hsb.extBut b o (Zyv (Zzn e)) (Zzv _ e);refine⟨hlim.fresh _ hsb,kla_codeExpr ?_⟩;have hd1:h₁.DictOf (B5 prog w) d vs:=by
  obtain⟨o,es,ep,ho,r⟩:=hd;exact⟨o,es,ep,hk _ _ ho,r⟩
 have hc1:h₁.IsCell cc (some (.ref d)):=by
  obtain⟨o,ho,r⟩:=hcell;exact⟨o,hk _ _ ho,r⟩
 refine wpAny_Subscript_Name (T := "dict") F.slot_dict_getitem.lookup (wpAny_Name (wpAny_loadName_free k1 k5 (c:=cc) (by simp[newEnv]) hc1 (wpAny_Name (wpAny_loadName_local k1 k4 hns (v:=.str x t0) (by simp) ⟨hd1.typeIs,?_⟩) hn1) hn3) hn2);refine wpAny_getItem_of (knd:=B5 prog w) (k:=.inr x) ?_ hd1.mapOf hv ?_
 ·exact Ue (k:=.inr x) ⟨t0,rfl⟩
 ·exact⟨_,_,_,rfl,rfl,hk⟩
def AM:Value->Str
 |.str x _=>x
 |_ => ""
theorem kc{xs:List Str}(r:AB (xs.map V.str) us):us.map AM=xs/\∀u∈us,∃t,u=.str (AM u) t:=by
 induction xs generalizing us with
 |nil=>cases r;exact⟨rfl,λ_ h=>nomatch h⟩
 |cons x xs ih =>
  cases r with
  |cons r1 r2 =>
   obtain⟨t,rfl⟩:=r1;obtain⟨e,h⟩:=ih r2;refine⟨by rw[Zz9,e];rfl,λu hu=>?_⟩;rcases Zzu.mp hu with z | z
   ·rw[z];exact⟨t,rfl⟩
   ·exact h u z
theorem O4:∀{us:List Value},(∀u∈us,∃t,u=.str (AM u) t)->AB ((us.map AM).map V.str) us
 |[],_=>.nil
 |u::us,h=>by
  obtain⟨t,e⟩:=h u Zzj;exact .cons ⟨t,e⟩ (O4 λv hv=>h v (Zzl _ hv))
theorem Ig:∀{vs:List Value} {ns:List Int} {i:Nat} {n:Int},IntsAre vs ns->ns[i]?=some n->∃t,vs[i]?=some (.int n t)
 |_,_,i,n,.nil,e=>by simp at e
 |_,_,0,n,.cons k t _,e=>by
  have:k=n:=by simpa using e
  subst this;exact⟨t,rfl⟩
 |_,_,i+1,n,.cons _ _ r,e=>by
  obtain⟨t,h⟩:=Ig (i:=i) r (by simpa using e);exact⟨t,by simpa using h⟩
theorem bn:∀{us:List Value} {p:Int×Value},p∈((us.map AM).map kz).zip us->p.2∈us/\p.1=kz (AM p.2)
 |[],p,h=>by simp at h
 |u::us,p,h=>by
  rw[Zz9,Zz9,List.zip_cons_cons] at h;rcases Zzu.mp h with z | z
  ·rw[z];exact⟨Zzj,rfl⟩
  ·obtain⟨h1,h2⟩:=bn z;exact⟨Zzl _ h1,h2⟩
theorem i7{out:List Value}(h:KskOut false ((us.map AM).map kz) us out):(∀u∈out,u∈us)/\Uw kz (us.map AM) (out.map AM):=by
 obtain⟨ps,hp,rfl,hs⟩:=h;have hz:∀p∈ps,p.2∈us/\p.1=kz (AM p.2):=λp hm=>bn (hp.mem_iff.mp hm);refine⟨λu hu=>?_,?_,?_⟩
 ·obtain⟨p,hm,rfl⟩:=Zzo.mp hu;exact(hz p hm).1
 ·have e:(((us.map AM).map kz).zip us).map (λp=>AM p.2)=us.map AM:=by
   have:(((us.map AM).map kz).zip us).map Prod.snd=us:=List.map_snd_zip (by simp);have h2:=congrArg (Zxp AM) this;rw[Zyd] at h2;exact h2
  rw[Zyd,<- e];exact hp.map _
 ·rw[Zyd,List.pairwise_map];refine hs.imp_of_mem λ{a b} ha hb hab=>?_;have hab:a.1<=b.1:=hab;rw[(hz a ha).2,(hz b hb).2] at hab;exact hab
def Jl(P:Addr)(pos:Pos)(q:Str)(i:Nat)(Z:St)(Q:VK)(x:V)(H1:Hp):Prop:=∃(l:Addr) (xs:List Str) (d:Addr) (kvs:List (Key×V)) (kz:Str->Int),x=.ref l/\H1 l=some (.lst (xs.map V.str))/\xs.length<64/\Z[i]?=some (some (.ref d))/\H1 d=some (.dK kvs) /\
 (∀x∈xs,C4 kvs (.inr x)=some (.int (kz x)))/\BK H1 P pos q/\∀r ys H2,H1 r=none->H2 r=some (.lst (ys.map V.str))->Uw kz xs ys->N9 kz xs ys->BK H2 P pos q->But P H1 H2->Q (.ref r) H2
def Q9(P:Addr)(pos:Pos)(q:Str)(i:Nat)(te:TE):TE:=λZ H Q=>te Z H (Jl P pos q i Z Q)
theorem ni{p1 p2 kp lp q1 q2 q3:Pos}{k:Nat}{lv:Str}{P c:Addr}(hg:Gl X "sorted")(hm:X.mg "sorted" = none)(he:PE X e te)(hr:AN k X.A)
  (hcd:X.env.code=.ref c) (hC:codeHdIn X.K c P=true) (hB:Lf X.mg X.base) (hdef:defaultsOf params X.env=([],[])) (hN:X.N[i]?=some lv) (hlv:X.env.scope.names.lookup lv=some .cell) (hcl:∀cc,X.env.cells.lookup lv=some cc->closureFor scope X.env=pure [(lv,cc)])
  (hsc:scope.kind=.function/\scope.isCoroutine=false/\scope.isGenerator=false/\scope.names.lookup nm=some .local/\scope.names.lookup lv=some .free/\∀x∈scope.names,x.2≠.cell)
  (hbind:∀(cc c':Addr) (pm ctv v:Value),bindArgs (kla_fn "<lambda>" (X.env.qual ++ "<lambda>") params (.Subscript (.Name lv q1) (.Name nm q2) q3) scope [(lv,cc)] pm (.ref c') ctv) ⟨[v],[]⟩=pure [(nm,v)])
  (hn1:(nm == ("__debug__" : Str))=false:=by decide) (hn2:(lv == ("__debug__" : Str))=false:=by decide) (hn3:(lv == ("__classdict__" : Str))=false:=by decide) (hn:C5 [e]=true:=by rfl) :
  PE X (.Call (.Name "sorted" p1) [e] [⟨some "key",.Lambda params (.Subscript (.Name lv q1) (.Name nm q2) q3) scope lp,kp⟩] p2) (Q9 P lp (X.env.qual ++ "<lambda>") i te):=by
 intro pins s Z H Q I h;refine wpAny_Call_Name_kw (Jf I hg hm NP.jx ?_ (by decide) (by decide));have hx:∃cc,X.env.cells.lookup lv=some cc:=I.ok.has lv (.inl hlv);obtain⟨cc,hcc⟩:=hx;refine callWith_kw (thn ((A2 he A0 hn) p2 pins s Z H (λvs H1=>match vs with | [x]=>Jl P lp (X.env.qual ++ "<lambda>") i Z Q x H1 | _=>False) I h) λus s1 ⟨vs,H1,I1,r1,hv⟩=>?_) ?_ ?_ rfl rfl
 ·match vs,hv,r1 with
  |[x],⟨l,xs,d,kvs,kz,ex,hl,h64,hσ,hd,hval,tb,q⟩,r1 =>
  subst ex;obtain⟨u,rfl,ru⟩:=Gf r1;cases ru;refine kws_cons (qd I1 hcd hC hB tb hdef (hcl cc hcc) λf c' ctv H' s2 I2 hf Hf hc' tb' bt=>kws_nil ?_);have hPs:∃u,H1 P=some (.tbl u):=tb.elim (λe=>⟨_,e⟩) (λz0=>by obtain⟨c,e,_⟩:=z0;exact ⟨_,e⟩);obtain⟨pt,hPt⟩:=hPs;have hl2:H' l=some (.lst (xs.map V.str)):=bt _ _ (λz=>by rw[z,hPt] at hl;cases hl) hl;have hd2:H' d=some (.dK kvs):=bt _ _ (λz=>by rw[z,hPt] at hd;cases hd) hd;obtain⟨its,rv,hil,hlt⟩:=Bc I2 hl2;obtain⟨eit,hit⟩:=kc rv;obtain⟨m,F⟩:=I2.fr;obtain⟨zd,nd,dv,rel,hdd⟩:=I2.hok d _ hd2;have hcell:s2.heap.IsCell cc (some (.ref d)):=by
   obtain⟨m',hn',hl'⟩:=I2.loc;obtain⟨u,ru,lk⟩:=hl' i lv (.ref d) hN hσ (.inr (.inl hlv));cases ru;rcases lk with ⟨hk,_⟩ | ⟨_,c2,e2,e3⟩
   ·have hk:X.env.scope.names.lookup lv=some .local:=hk
    rw[hlv] at hk;cases hk
   ·rw[hcc] at e2;cases e2;exact e3
  have hrec:s2.heap.CodeRec (.ref c') (X.env.qual ++ "<lambda>"):=sk I2.hok hc';have nL:∀b o,s2.heap.get? b=some o->(∀es ep,o.data≠.dict es ep)->b≠X.env.locals:=λb o e n z=>by
   obtain⟨oL,es,ep,e2,d2,_⟩:=F.ns;rw[<- z,e] at e2;cases e2;exact n _ _ d2
  have keepA:∀(h:Heap) (own:List (Addr×Obj)),Fr X.base X.env.locals h m->News X.base X.env.locals h (E1 X.base s2.heap X.env.locals++own)->∀b o,b≠X.env.locals->s2.heap.get? b=some o->h.get? b=some o:=λh own F' N' b o nb e=>by
   cases z:X.base.get? b with
   |some u =>
    have:=I2.bk b u z;rw[e] at this;cases this;exact F'.keep b _ z
   |none=>exact(N' (b,o) (Zyk _ (Os nb z e))).1
  have hil2:its.length=xs.length:=by have:=rv.length;rw[Zzz] at this;exact this.symm
  have step:∀(v:Value),v∈its->∀(h:Heap) (tk:Nat) (own:List (Addr×Obj)),Fr X.base X.env.locals h m->News X.base X.env.locals h (E1 X.base s2.heap X.env.locals++own) ->
    wpAny (model X.prog X.w) X.A.in1.in1 (call (.ref f) [v]) (λv' s'=>∃h' tk' t',s'={s2 with heap:=h',toks:=tk'}/\v'=.int (kz (AM v)) t'/\∀b o,h.get? b=some o->h'.get? b=some o) (λ_ _=>False) {s2 with heap:=h,toks:=tk}:=by
   intro v hvm h tk own F' N';obtain⟨t,ev⟩:=hit v hvm;have hmem:AM v∈xs:=by rw[<- eit];exact Zzo.mpr ⟨v,hvm,rfl⟩
   have kp:=keepA h own F' N';obtain⟨w',hw,rw'⟩:=AZ.some_of (v:=.int (kz (AM v))) (o:=valueAt dv (.inr (AM v))) (by have:=rel.val (.inr (AM v));rw[hval _ hmem] at this;exact this);obtain⟨tk',ew⟩:=rw';subst ew;have dL:d≠X.env.locals:=λz=>by rw[z,I2.free] at hd2;cases hd2
   have cL:cc≠X.env.locals:=I2.cne lv cc hcc;have fL:f≠X.env.locals:=nL f _ hf (λes ep z=>by cases z);have c'L:c'≠X.env.locals:=λz=>by rw[z,I2.free] at hc';cases hc'
   have hroom:X.A.depth<recursionLimit:=by have:=hr.dp;lia
   have hk1:=x8 (prog:=X.prog) (w:=X.w) (A:=X.A.in1.in1) (s:={s2 with heap:=h,toks:=tk}) (nm:=nm) (lv:=lv) (x:=AM v) (k:=kz (AM v)) (t:=tk') (t0:=t) (vs:=dv) (kp f _ fL hf) (by
    obtain⟨c2,o,vs,t2,e1,e2,r⟩:=hrec
    cases e1
    exact⟨c',o,vs,t2,rfl,kp _ _ c'L e2,r⟩) (by
    obtain⟨o,e1,r⟩:=hcell
    exact⟨o,kp _ _ cL e1,r⟩) (by
    obtain⟨o,es,ep,e1,r⟩:=hdd
    exact⟨o,es,ep,kp _ _ dL e1,r⟩) hw hroom (I2.ok.mod.nolimit.keeps F'.keep) hsc (hbind cc c' _ ctv _) hn1 hn2 hn3
   rw[<- ev] at hk1;exact hk1
  have fin:∀(D:Addr) (h':Heap) (tk:Nat) (out:Array Value) (c:Nat),Fr X.base X.env.locals h' m->News X.base X.env.locals h' ((D,seqObj "list" out c)::E1 X.base s2.heap X.env.locals)->(∀q∈E1 X.base s2.heap X.env.locals,q.1<D)->(∀u∈out.toList,u∈its)->N9 kz xs (out.toList.map AM)->EP X pins Z Q (.ref D) {s2 with heap:=h',toks:=tk}:=by
   intro D h' tk out c F' N' hlt2 hsub hstab;have hsort:=Hg hstab;have hD:=N' (D,seqObj "list" out c) Zzj;have N2:News X.base X.env.locals h' (E1 X.base s2.heap X.env.locals++[]):=λp hp=>N' p (Zzl _ (by rw[Zyw] at hp;exact hp));have kp:=keepA h' [] F' N2;have tL:∀b u,H' b=some u->b≠X.env.locals:=λb u e z=>by rw[z,I2.free] at e;cases e
   have neD:∀b o,s2.heap.get? b=some o->b≠D:=λb o e z=>by
    by_cases hb:b=X.env.locals
    ·exact hD.2.1 (z.symm.trans hb)
    ·cases y:X.base.get? b with
     |some u=>rw[z] at y;rw[hD.2.2] at y;cases y
     |none=>exact absurd (hlt2 (b,o) (Os hb y e)) (by rw[z];exact Zxk _)
   have HD:H' D=none:=by
    cases y:H' D with
    |none=>rfl
    |some u =>
     obtain⟨o,e⟩:=(show ∃o,s2.heap.get? D=some o from wm (I2.hok D u y));exact absurd rfl (neD D o e)
   have vs2:AB ((out.toList.map AM).map V.str) out.toList:=O4 λu hu=>hit u (hsub u hu);have hlen:(out.toList.map AM).length=xs.length:=hsort.1.length_eq;have I3:Inv X pins Z (upd H' D (.lst ((out.toList.map AM).map V.str))) {s2 with heap:=h',gens:=s2.gens,drawn:=s2.drawn,toks:=tk}:=by
    refine I2.step (g':=s2.gens) (d':=s2.drawn) (ch:=[]) (λ_ z=>nomatch z) (λb o nb _ _ e _=>kp b o nb e) (λb o nb _ _ e _=>⟨o.slots,kp b o nb e⟩) (λb o _ e n=>by rw[Ab (neD b o e)];exact n) (λb o _ e=>?_)
     (λb ys e=>by rw[Ab (A9 e HD)];exact e) (λb o u e=>by rw[Ab (A9 e HD)];exact e) (λb ps e=>⟨#[],by rw[Ab (A9 e HD),e];simp⟩) (λm' hm'=>?_) (λb u e=>?_) I2.bare
    ·by_cases hb:b=X.env.locals
     ·obtain⟨oL,_,_,e2,_⟩:=F'.ns;exact⟨oL,by rw[hb];exact e2⟩
     ·exact⟨o,kp b o hb e⟩
    ·have em:m'=m:=funext λx=>hm'.agree F.ns x
     rw[em];exact F'.ns
    ·by_cases hb:b=D
     ·subst hb;rw[A1] at e;cases e;refine⟨by rw[Zzz,hlen];exact Ae (by lia),out.toList,c,vs2,?_⟩;rw[Array.toArray_toList];exact hD.1
     ·rw[Ab hb] at e;refine(I2.hok b u e).stay (λb' u' hb' q'=>kp b' u' ?_ q') (λb' q'=>by rw[Ab (A9 q' HD)];exact q') λb' ys q'=>by rw[Ab (A9 q' HD)];exact q'
      rcases hb' with r | r
      ·rw[r];exact tL b u e
      ·exact tL b' _ r
   have H1D:H1 D=none:=by
    cases y:H1 D with
    |none=>rfl
    |some u =>
     have hDP:D≠P:=λz=>by
      have:H' P=none:=by rw[<- z];exact HD
      rcases tb' with e | ⟨_,e,_⟩<;>· rw[this] at e;cases e
     rw[bt _ _ hDP y] at HD;cases HD
   exact⟨.ref D,_,I3,rfl,q D _ _ H1D A1 hsort hstab (tb'.same (A5 HD)) (bt.new HD)⟩
  by_cases h2:2<=its.length
  ·refine kat_sortedK (f:=.ref f) (b:=false) F Xz hil h2 (by lia) (ksk_s1 _ _) (λx=>ksk_l1 _ _) (λx=>ksk_t1 _ _) λD kS e1 h' F' N' hDk hlt2=>?_;have keys:∀(AO ks don:List Value) (e:Nat) (h:Heap) (tk:Nat),its=don++AO->IntsAre ks ((don.map AM).map kz)->Fr X.base X.env.locals h m->News X.base X.env.locals h ((kS,seqObj "list" (Zyc ks) e)::(D,seqObj "list" #[] e1)::E1 X.base s2.heap X.env.locals) ->
     KatKeys X.prog X.w X.A.in1.in1 X.base X.env.locals m kS (.ref f) (λks e s'=>wpAny (model X.prog X.w) X.A.in1.in1 (keyKind' (Zyc ks)) (λκ s''=>(kas_sort its.length).kasWp (kas_ask X.prog X.w X.A.in1.in1 κ (katRev false ks)) (λp s3=>KatFin X.base X.env.locals m kS D ks e e1 (katRev false (p.toList.map λi=>(katRev false its).getD i Value.none)) (λs4=>EP X pins Z Q (.ref D) s4) s3) s'') (λ_ _=>False) s') AO ks e {s2 with heap:=h,toks:=tk}:=by
    intro AO;induction AO with
    |nil =>
     intro ks don e h tk eq hi Fh Nh;rw[Zyw] at eq;subst eq;have hkl:ks.length=its.length:=by have:=hi.length;rw[Zzz,Zzz] at this;exact this
     show wpAny (model X.prog X.w) X.A.in1.in1 (keyKind' (Zyc ks)) _ _ _;rw[ksk_kind (keys:=Zyc ks) (kz:=(its.map AM).map kz) (by simpa using hi) (by simp;lia)];refine FV ?_;have kat:∀i,i<its.length->∃t,ks.getD i Value.none=.int (kz (AM (its.getD i Value.none))) t:=λi hi2=>by
      have h1:((its.map AM).map kz)[i]?=some (kz (AM (its.getD i Value.none))):=by
       rw[Zzw,Zzw,Zzp hi2,Zz8,Zzp hi2];rfl
      obtain⟨t,ht⟩:=Ig hi h1;exact⟨t,by rw[Zz8,ht];rfl⟩
     refine Ya (n:=its.length) (key:=λi=>kz (AM (its.getD i Value.none))) (Qp:=λp=>Srt its.length (λi=>kz (AM (its.getD i Value.none))) p its.length) (λi j C hi2 hj2 hC=>?_) (λp hp=>?_) (v9 h2)
     ·obtain⟨t1,e1'⟩:=kat i hi2;obtain⟨t2,e2'⟩:=kat j hj2;show wpAny _ _ (keyLt' oneType' (ks.getD i Value.none) (ks.getD j Value.none)) C _ _;rw[e1',e2'];exact kat_lt_int hC
     ·have nkD:kS≠D:=Zwy hDk
      have nall:∀q∈E1 X.base s2.heap X.env.locals,q.1≠kS/\q.1≠D:=λq hq=>by have:=hlt2 q hq;exact⟨Zyv (Nat.lt_trans this hDk),Zyv this⟩
      refine KatFin.intro Fh Nh (.head λq hq=>?_) λh3 c3 F3 N3=>KasFin.intro F3 N3 (.tail nkD (.head λq hq=>(nall q hq).2)) λh4 c4 F4 N4=>?_
      ·rcases Zzu.mp hq with z | z
       ·rw[z];exact Zza nkD
       ·exact(nall q z).1
      ·refine fin D h4 tk (Zyc (p.toList.map λi=>its.getD i Value.none)) c4 F4 (λq hq=>N4 q (Zzl _ hq)) hlt2 (λu hu=>?_) ?_
       ·have hu:u∈p.toList.map λi=>its.getD i Value.none:=by simpa using hu
        obtain⟨i,hi2,rfl⟩:=Zzo.mp hu;have hi3:i<its.length:=Zuk.mp (hp.pm.mem_iff.mp hi2);rw[Zz8,Zzp hi3];exact Zuz hi3
       ·have exs:∀i,xs.getD i "" = AM (its.getD i Value.none):=λi=>by
         rw[<- eit,Zz8,Zz8,Zzw];cases its[i]?<;>rfl
        refine⟨p.toList,by rw[<- hil2];exact hp.pm,?_,?_⟩
        ·rw[Zyd];exact Zx2 λi _=>(exs i).symm
        ·have:(λi=>kz (xs.getD i ""))=λi=>kz (AM (its.getD i Value.none)):=funext λi=>by rw[exs]
         rw[this];exact A05 hp
    |cons v r ih =>
     intro ks don e h tk eq hi Fh Nh;have hvm:v∈its:=by rw[eq];simp
     have Nh2:News X.base X.env.locals h (E1 X.base s2.heap X.env.locals++[(kS,seqObj "list" (Zyc ks) e),(D,seqObj "list" #[] e1)]):=λq hq=>by
      rcases Zz2.mp hq with z | z
      ·exact Nh q (Zzl _ (Zzl _ z))
      ·rcases Zzu.mp z with y | y
       ·rw[y];exact Nh _ Zzj
       ·rw[Zzr.mp y];exact Nh _ (Zzl _ Zzj)
     refine KatKeys.cons (wpAny_mono (step v hvm h tk _ Fh Nh2) (λv' s' hh=>?_) (λ_ _ z=>z));obtain⟨h3,tk3,t3,e1',e2',k3⟩:=hh;subst e1' e2';have nkD:kS≠D:=Zwy hDk;refine KatBack.intro (F:=Fh.kept k3) (N:=Nh.grown k3) (U:=.head λq hq=>?_) λh4 c4 F4 N4=>?_
     ·rcases Zzu.mp hq with z | z
      ·rw[z];exact Zza nkD
      ·have:=hlt2 q z;exact Zyv (Nat.lt_trans this hDk)
     ·exact ih (ks++[.int (kz (AM v)) t3]) (don++[v]) c4 h4 tk3 (by rw[eq];simp) (by rw[Zzi,Zzi];exact ksk_snoc hi) F4 N4
   exact keys its [] [] 0 h' s2.toks rfl .nil F' N'
  ·refine ksk_sorted (kz:=(its.map AM).map kz) (f:=.ref f) (b:=false) F Xz hil (by simp) (by lia) (ksk_s1 _ _) (λx=>ksk_l1 _ _) (λx=>ksk_t1 _ _) (λj v kk hv hk h tk own F' N'=>?_) (λD h' tk out c F' N' hlt2 hout=>?_)
   ·have ek:kk=kz (AM v):=by
     rw[Zzw,Zzw,hv] at hk;exact(Zzm hk).symm
    subst ek;refine wpAny_mono (step v (Zzt hv) h tk own F' N') (λv' s' hh=>?_) (λ_ _ z=>z);obtain⟨h3,tk3,t3,e1,e2,k3⟩:=hh;subst e1 e2;exact⟨h3,tk3,t3,rfl,rfl,F'.kept k3,N'.grown k3⟩
   ·obtain⟨hsub,hsort⟩:=i7 hout;rw[eit] at hsort;exact fin D h' tk out c F' N' hlt2 hsub (Z8 hsort.1 (by lia))
 ·rw[D7 hn];rfl
 ·exact C1 hn
def A29(H:Hp)(a Pt:Addr):Prop:=∀b u,H b=some u->(b=Pt/\u=.tbl #[])\/(b=a/\∃o xs,u=.frz o (.lst xs))
theorem Yi{K:Frag}{mb:Str->Option Value}{k:Nat}{fa ct:Addr}{s₁:Shared}
  (KX:K.In s₁.heap) (hns:s₁.heap.Ns mainGlobals mg) (hb:s₁.heap.Ns builtinsNs mb) (hbb:∀x:Str,x ≠ "__name__" -> mb x=bootBuiltins x) (hlim:s₁.heap.NoLimit) (hg:s₁.gens=#[]) (hr:AN k callerA)
  (hT:s₁.heap.TableAt ct Pt #[]) (hBM:Lf mg s₁.heap) (hO:A29 H a Pt) (hHK:∀b u,H b=some u->K.lookup b=none) (ok:HOk P w H s₁.heap)
  (F:∀base:Heap,K.In base->base.Ns mainGlobals mg->Lf mg base->Ax P w K mg base CX0 k fa fd [x] sp) (hbind:∀(s:Shared) (u:Value),BindsTo s fd ⟨[u],[]⟩ [(x,u)])
  (hsp:sp [.ref a] H (λv _=>v=.bl true) λ_ _ _=>False) :
  codeAny (model P w) callerA (.call (.ref fa) ⟨[.ref a],[]⟩) (λr s'=>r=.ok (.ret (.bool true))/\OldK s₁.heap s'.heap/\s'.os=s₁.os/\AllBare s'.gens) s₁:=by
 have noD:∀{b:Addr} {o:Obj},s₁.heap.get? b=some o->(∀vs:Array Value,o.data≠.fields vs)->(∀vs n,o.data≠.seq vs n)->H b=none:=λ{b o} e n1 n2=>by
  cases q:H b with
  |none=>rfl
  |some u =>
   have y:=ok b u q;rcases hO b u q with ⟨_,rfl⟩ | ⟨_,ob,xs,rfl⟩
   ·have y:s₁.heap.get? b=some {cls:=.none,data:=.fields #[]}:=y
    rw[e] at y;cases y;exact absurd rfl (n1 _)
   ·obtain⟨_,_,its,m,_,y3⟩:=y;rw[e] at y3;cases y3;exact absurd rfl (n2 _ _)
 have baseG:∀{b:Addr} {o:Obj},s₁.heap.get? b=some o->H b=none->(T6 s₁.heap H).get? b=some o:=λe n=>qm e n;have nsB:∀{b:Addr} {m:Str->Option Value},s₁.heap.Ns b m->(T6 s₁.heap H).Ns b m:=λ{b m} ⟨o,es,ep,e,d,r⟩=>⟨o,es,ep,baseG e (noD e (λ_ z=>by rw[d] at z;cases z) (λ_ _ z=>by rw[d] at z;cases z)),d,r⟩;have kB:K.In (T6 s₁.heap H):=λb o e=>baseG (KX b o e) (by
  cases q:H b with
  |none=>rfl
  |some u=>rw[hHK b u q] at e;cases e)
 have bB:Lf mg (T6 s₁.heap H):=by
  obtain⟨bm,ob,b1,b2,b3,b4,b5,b6,b7⟩:=hBM;exact⟨bm,ob,b1,b2,b3,baseG b4 (noD b4 (λ_ z=>by rw[b7] at z;cases z) (λ_ _ z=>by rw[b7] at z;cases z)),b5,b6,b7⟩
 have mB:Mod K mg (T6 s₁.heap H):=⟨kB,nsB hns,⟨mb,nsB hb,hbb⟩,by obtain⟨mc,h1,h2⟩:=hlim;exact⟨mc,nsB h1,h2⟩⟩;have e0:DL P w K mg (T6 s₁.heap H) callerA [] s₁ H:=⟨rfl,mB,λb o e=>wj e,Nat.le_of_eq (jb _ _),trivial,(λb hb=>nomatch (show b∈([]:List Addr) from hb)),ok,.of_eq hg⟩;refine codeAny_mono ((F _ kB (nsB hns) bB).run callerA [] s₁ H ⟨[.ref a],[]⟩ [.ref a] [.ref a] _ _ hr e0 (hbind s₁ (.ref a)) (.cons rfl .nil) hsp) λr s' h=>?_;cases r with
 |error e=>exact h.elim
 |ok fl =>
  cases fl with
  |next=>exact h.elim
  |brk=>exact h.elim
  |cont=>exact h.elim
  |ret u =>
   obtain⟨v,H',os,bare,un,ok',r',q⟩:=h;have q:v=.bl true:=q;subst q;obtain rfl:u=Value.bool true:=r';have old:∀b o,s₁.heap.get? b=some o->asItWas s₁.heap s'.heap b o:=λb o e=>by
    cases y:H b with
    |none=>exact .inl (un.keep b o e y (by intro z;cases z) (by simp))
    |some u =>
     have ob:=ok b u y;rcases hO b u y with ⟨rfl,rfl⟩ | ⟨_,oo,xs,rfl⟩
     ·obtain⟨more,e2⟩:=un.tbls b #[] y;have ob:s₁.heap.get? b=some {cls:=.none,data:=.fields #[]}:=ob;rw[e] at ob;cases ob;have e3:s'.heap.get? b=some {cls:=.none,data:=.fields (#[]++more)}:=ok' b _ e2;exact .inr (.inl ⟨hT.isCodeTable,rfl,#[],more,rfl,e3⟩)
     ·have e2:=un.frzs b oo _ y
      have e3:=(ok' b _ e2).1;have e4:=ob.1;rw[e] at e4;cases e4;exact .inl e3
   exact⟨rfl,⟨old,λb o e=>un.there b o e (by simp)⟩,os,bare⟩
theorem k9{l:OpenLaw}{k:Nat}{q:Program}{d dw:DefRec}{K:Params->Frag}{sp:World->Addr->Sp}{wk:Str}
  (hn:l.most=some n) (hn2:n<=sizeLine) (hdf:d.params.defaults=[]) (hr:AN k callerA) (hY:∀(w:World) (h:Heap),YP w h->(K w.params).In h) (hw:(recsOf q).find? (λe=>e.name == wk)=some dw)
  (F:∀(w:World) (mg:Str->Option Value) (fa:Addr) (h:Heap),(K w.params).In h->h.Ns mainGlobals mg->mg d.name=some (.ref fa) ->
   ∃(fd:FuncData) (ct Pt:Addr),(∀(s:Shared) (u:Value),BindsTo s fd ⟨[u],[]⟩ [(x,u)])/\tabIn (K w.params) wk=some (ct,Pt)/\(K w.params).lookup Pt=none /\
    ∀base:Heap,(K w.params).In base->base.Ns mainGlobals mg->Lf mg base->Ax l.prog w (K w.params) mg base CX0 k fa fd [x] (sp w Pt))
  (hsp:∀(w:World) (H:Hp) (a Pt:Addr) (ns:List Int),ns.length<=n->H Pt=some (.tbl #[])->SqL (K w.params) H a (ns.map V.int)->sp w Pt [.ref a] H (λv _=>v=.bl true) λ_ _ _=>False) :
  WalkO q loose XP YP l.row.toRowW d [] (λf vs=>PySem.call f vs):=by
 refine Att.attach_call hn hdf λw s₀ s₁ mg mb fa o pm cd doc a vs ns G Y ho hd hcd hmg hobj hints hlen hg=>?_;have KX:=hY w _ Y;obtain⟨fd,ct,Pt,hbd,htab,hKP,hF⟩:=F w mg fa _ KX G.T.g hmg;obtain⟨hC,hP⟩:=tab_of G.T KX hw htab;have hT:=hC.tab hP;have aP:a≠Pt:=λz=>by rw[z,hP] at hobj;cases hobj
 have hBM:Lf mg s₁.heap:=by
  obtain⟨bm,ob,b1,b2,b3,b4,b5,b6⟩:=G.T.bmain;refine⟨bm,ob,b1,b2,λz=>?_,b3,b4,b5,b6⟩;obtain⟨og,es,ep,e,dg,_⟩:=G.T.g;rw[<- z,b3] at e;cases e;rw[b6] at dg;cases dg
 have rv:=Tg hints;have lenV:=hints.length;have okP:∀H:Hp,AF l.prog w H s₁.heap Pt (.tbl #[]):=λ_=>hP;cases hk:(K w.params).lookup a with
 |some oa =>
  have e:=KX a oa hk;rw[hobj] at e;cases e;refine Yi (H:=upd (λ_=>none) Pt (.tbl #[])) KX G.T.g G.T.b G.T.builtins G.T.nolimit hg hr hT hBM (λb u y=>?_) (λb u y=>?_) (λb u y=>?_) hF hbd (hsp w _ a Pt ns hlen A1 (.inr ⟨_,vs.toArray,_,hk,rfl,rfl,rfl,by rw[Zzs,lenV];exact Zzk hlen hn2,by simpa using rv⟩))
  ·by_cases z:b=Pt
   ·subst z;rw[A1] at y;cases y;exact .inl ⟨rfl,rfl⟩
   ·rw[Ab z] at y;cases y
  ·by_cases z:b=Pt
   ·rw[z];exact hKP
   ·rw[Ab z] at y;cases y
  ·by_cases z:b=Pt
   ·subst z;rw[A1] at y;cases y;exact okP _
   ·rw[Ab z] at y;cases y
 |none =>
  refine Yi (H:=upd (upd (λ_=>none) Pt (.tbl #[])) a (.frz {cls:=.type "list",data:=.seq vs.toArray} (.lst (ns.map V.int)))) KX G.T.g G.T.b G.T.builtins G.T.nolimit hg hr hT hBM (λb u y=>?_) (λb u y=>?_) (λb u y=>?_) hF hbd (hsp w _ a Pt ns hlen (by rw[Ab (Zza aP),A1]) (.inl (.inr ⟨_,A1⟩)))
  ·by_cases z2:b=a
   ·subst z2;rw[A1] at y;cases y;exact .inr ⟨rfl,_,_,rfl⟩
   ·rw[Ab z2] at y;by_cases z:b=Pt
    ·subst z;rw[A1] at y;cases y;exact .inl ⟨rfl,rfl⟩
    ·rw[Ab z] at y;cases y
  ·by_cases z2:b=a
   ·rw[z2];exact hk
   ·rw[Ab z2] at y;by_cases z:b=Pt
    ·rw[z];exact hKP
    ·rw[Ab z] at y;cases y
  ·by_cases z2:b=a
   ·subst z2;rw[A1] at y;cases y;exact⟨hobj,by rw[Zzz];exact Zzk hlen hn2,vs,_,rv,hobj⟩
   ·rw[Ab z2] at y;by_cases z:b=Pt
    ·subst z;rw[A1] at y;cases y;exact okP _
    ·rw[Ab z] at y;cases y
def si(vs:Array Value)(c P:Addr):Bool:=(match vs.getD 18 .none with | .str _ _=>true | _=>false)&&(match vs.getD 7 .none with | .int _ _=>true | _=>false)&&(match vs.getD 9 .none with | .bool _=>true | _=>false)&&(match vs.getD 10 .none with | .int _ _=>true | _=>false)&&c != P
theorem jo{K:Frag}{c P:Addr}{vs:Array Value}(tl:K.lookup c=some ⟨.type "code",od,.fields vs,sl⟩)(h11:vs[11]?=some (.ref P))(h:si vs c P=true):codeHdIn K c P=true:=by
 unfold codeHdIn;rw[tl];simp only[h11,BEq.rfl,Zyf];exact h
theorem ki{K:Frag}{c P:Addr}{odc:Option Addr}{slc:Array (Option Value)}{vs:Array Value}(hn:nsIn K mainGlobals x=some (some (.ref f)))(hl:K.lookup f=some ⟨oc,od,.func fd,sl⟩)(hc:fd.code=.ref c)(tl:K.lookup c=some ⟨.type "code",odc,.fields vs,slc⟩)(h11:vs[11]?=some (.ref P)):tabIn K x=some (c,P):=by
 unfold tabIn;simp only[hn,hl,hc,tl,h11]
theorem Yr{K:Frag}{c P:Addr}(h:tabIn K x=some (c,P))(hn:nsIn K mainGlobals x=some (some (.ref f)))(hl:K.lookup f=some ⟨oc,od,.func fd,sl⟩):fd.code=.ref c:=by
 unfold tabIn at h;simp only[hn,hl] at h;split at h
 ·rename_i c' hc;split at h
  ·split at h
   ·cases h;exact hc
   ·cases h
  ·cases h
 ·cases h
theorem Yt{lv:Str}{cc:Addr}(hs:scope.names=[(nm,.local),(lv,.free)])(h:env.cells.lookup lv=some cc):closureFor scope env=pure [(lv,cc)]:=by
 unfold closureFor;rw[hs];simp[cellOf,h]
structure uo(K:Frag)(f c P:Addr):Prop where
 code:∀oc od fd sl,K.lookup f=some ⟨oc,od,.func fd,sl⟩->fd.code=.ref c
 hd:codeHdIn K c P=true
theorem Fun.okC{K:Frag}{st:Stmt}{c:Addr}{k:Nat}(F:Fun K x qual st f fd)(C:uo K f c Pt)(S:Ce N ps (Ar st))(len:∀vs H Q E,sp vs H Q E->vs.length=ps.length)
  (hbody:∀(A:Around) (outer:List Env) (s:Shared) (H:Hp) (vs:List V) (Q:VK) (E:XK),AN k (A.deeper (envOfC qual (Ar st) s.heap.objs.size f (.ref c)))->sp vs H Q E ->
   ∃t,PSs (Nx CX0 P w K mg base N qual (Ar st) f (.ref c) A outer s H E).nox (C8 st) t/\t {nx:=λ_ H'=>Q .non H',rt:=Q} (Hm N vs) H):Ax P w K mg base CX0 (k+1) f fd ps sp:=by
 obtain⟨oc,od,kV,doc,pm,an,cdv,ct,osl,rfl,lk,hcd⟩:=F.ex;have e:cdv=.ref c:=C.code _ _ _ _ lk;subst e;refine qz lk hcd S len λA outer s H vs Q E hr hsp=>?_;obtain⟨t,h,q⟩:=hbody A outer s H vs Q E hr hsp;exact⟨t,h.nox,q⟩
end L2
namespace NP
open PySem L2
def Hw(S:Sh)(x:Str):List Wr:=S.wares.filter λw=>decide (x∈w.parts.map (·.1))
def lvF(S:Sh):Nat->Str->Int
 |0,_=>0
 |k+1,x=>Hv ((Hw S x).map λu=>1+lvF S k u.name)
def lv(S:Sh)(x:Str):Int:=lvF S S.wares.length x
structure Lev(S:Sh):Prop where
 nd:(S.wares.map (·.name)).Nodup
 own:∀w∈S.wares,∀p∈w.parts,p.1∈S.wares.map (·.name)
 low:∃r:Str->Nat,(∀w∈S.wares,r w.name<S.wares.length)/\∀w∈S.wares,∀p∈w.parts,r p.1<r w.name
theorem CN{w:Wr}:w∈Hw S x↔w∈S.wares/\x∈w.parts.map (·.1):=by
 unfold Hw;rw[Zx5];exact⟨λz0=>by obtain⟨a,b⟩:=z0;exact ⟨a,FP b⟩,λz1=>by obtain⟨a,b⟩:=z1;exact ⟨a,FQ b⟩⟩
theorem pj(S:Sh):∀k x,0<=lvF S k x
 |0,_=>Zys _
 |k+1,x=>dm λy hy=>by
  obtain⟨u,_,rfl⟩:=Zzo.mp hy;have:=pj S k u.name;show 0<=1+lvF S k u.name;lia
theorem Y5{r:Str->Nat}(hr:∀w∈S.wares,r w.name<S.wares.length)(hp:∀w∈S.wares,∀p∈w.parts,r p.1<r w.name):∀k w,w∈S.wares->S.wares.length - r w.name<=k->lvF S (k+1) w.name=lvF S k w.name
 |0,w,hw,h=>by have:=hr w hw;lia
 |k+1,w,hw,h=>by
  show Hv ((Hw S w.name).map λu=>1+lvF S (k+1) u.name)=Hv ((Hw S w.name).map λu=>1+lvF S k u.name);congr 1;apply Zx2;intro u hu;obtain⟨h1,h2⟩:=CN.mp hu;obtain⟨p,hp1,hp2⟩:=Zzo.mp h2;have h3:=hp u h1 p hp1;rw[hp2] at h3;have:=hr u h1;rw[Y5 hr hp k u h1 (by lia)]
theorem A1o(L:Lev S){w:Wr}(hw:w∈S.wares):lv S w.name=Hv ((Hw S w.name).map λu=>1+lv S u.name):=by
 obtain⟨r,h1,h2⟩:=L.low;have:=Y5 h1 h2 S.wares.length w hw (by lia);exact this.symm
theorem A1n(S:Sh)(x:Str):0<=lv S x:=pj S _ x
theorem dz(L:Lev S){w:Wr}(hw:w∈S.wares){p:Str×Int}(hp:p∈w.parts):lv S w.name+1<=lv S p.1:=by
 obtain⟨v,hv,e⟩:=Zzo.mp (L.own w hw p hp);rw[<- e,A1o L hv];have:1+lv S w.name<=Hv ((Hw S v.name).map λu=>1+lv S u.name):=du (Zzo.mpr ⟨w,CN.mpr ⟨hw,Zzo.mpr ⟨p,hp,e.symm⟩⟩,rfl⟩);lia
theorem pi{k:Nat}{g:Str->Int}(h0:∀x,0<=g x)(h:∀w∈S.wares,∀p∈w.parts,1+lvF S k w.name<=g p.1)(x:Str):lvF S (k+1) x<=g x:=by
 show Hv ((Hw S x).map λu=>1+lvF S k u.name)<=g x;unfold Hv;split
 ·exact h0 x
 ·rename_i hn;obtain⟨u,hu,e⟩:=Zzo.mp (Rs hn);rw[<- e];obtain⟨h1,h2⟩:=CN.mp hu;obtain⟨p,hp1,hp2⟩:=Zzo.mp h2;rw[<- hp2];exact h u h1 p hp1
def fnD(names:List Str)(g:Str->Int):List (Key×V):=names.map λx=>(Zy9 x,V.int (g x))
theorem fh(names:List Str)(g:Str->Int):(fnD names g).length=names.length:=by unfold fnD;rw[Zzz]
theorem Pz{g:Str->Int}(h:x∈names):C4 (fnD names g) (.inr x)=some (.int (g x)):=by
 induction names with
 |nil=>cases h
 |cons y r ih =>
  unfold fnD;rw[Zz9];by_cases e:y=x
  ·rw[Cf (by rw[e])];rw[e]
  ·rw[C7 (λz=>e (Zwa z))];exact ih ((Zzu.mp h).resolve_left λz=>e z.symm)
theorem r0{g:Str->Int}(h:x∉names):C4 (fnD names g) (.inr x)=none:=by
 induction names with
 |nil=>rfl
 |cons y r ih =>
  unfold fnD;rw[Zz9,C7 (λz=>h (by rw[<- Zwa z];exact Zzj))];exact ih λm=>h (Zzl _ m)
theorem xw{g:Str->Int}{y:Str}{v:Int}(h:y∈names):Gp (fnD names g) (.inr y) (.int v)=fnD names λx=>if x=y then v else g x:=by
 unfold Gp;rw[FT (by rw[G1,Pz h];rfl)];unfold fnD;rw[Zyd];apply Zx2;intro x _;show (if Zy9 x=(Zy9 y:Key) then (Zy9 x,V.int v) else (Zy9 x,V.int (g x)))=(Zy9 x,V.int (if x=y then v else g x));by_cases e:x=y
 ·rw[FT (by rw[e]),FT e]
 ·rw[FS (λz=>e (Zwa z)),FS e]
theorem Uk{g g':Str->Int}(h:∀x∈names,g x=g' x):fnD names g=fnD names g':=by
 unfold fnD;exact Zx2 λx hx=>by rw[h x hx]
theorem xx{g:Str->Int}{y:Str}{v:Int}(h:y∉names):Gp (fnD names g) (.inr y) (.int v)=fnD (names++[y]) λx=>if x=y then v else g x:=by
 rw[R7 _ (r0 h)];unfold fnD;rw[Zzi];congr 1
 ·refine Zx2 λx hx=>?_;show (Zy9 x,V.int (g x))=(Zy9 x,V.int (if x=y then v else g x));rw[FS (λe:x=y=>h (e▸hx))]
 ·show [(Zy9 y,V.int v)]=[(Zy9 y,V.int (if y=y then v else g y))]
  rw[FT rfl]
theorem Ko{xs:List Str}(nd:xs.Nodup)(h:xs[i]?=some x):x∉xs.take i:=by
 intro m;obtain⟨j,hj⟩:=Zwv.mp m;rw[Zvh] at hj;split at hj
 ·rename_i hlt;have hj2:j<xs.length:=(Zzb.mp hj).1;have:=(List.getElem?_inj hj2 nd).mp (hj.trans h.symm);lia
 ·cases hj
end NP
namespace L2
open PySem PySem.Spec PyProof.Rows
def ItV(a:Addr)(xs:List V):It:=⟨λi H=>H a=some (.lst xs)/\i<xs.length,λi H x H'=>H'=H/\xs.reverse[i]?=some x,λi H=>H a=some (.lst xs)/\i=xs.length⟩
def xn(ta:TA):TI:=λZ H R=>ta Z H λvs H1=>∃a xs,vs=[.ref a]/\H1 a=some (.lst xs)/\R (ItV a xs) H1
end L2
namespace NP
open PySem L2
def Wk(S:Sh)(x:Str):Option Wr:=S.wares.find? λw=>decide (w.name=x)
theorem Q2(nd:(S.wares.map (·.name)).Nodup){w:Wr}(hw:w∈S.wares):Wk S w.name=some w:=by
 unfold Wk;cases e:S.wares.find? (λv=>decide (v.name=w.name)) with
 |none =>
  have:=List.find?_eq_none.mp e w hw;simp at this
 |some v =>
  have h1:v.name=w.name:=FP (by simpa using List.find?_some e);have h2:=List.mem_of_find?_eq_some e;obtain⟨i,hi,ei⟩:=Zur.mp hw;obtain⟨j,hj,ej⟩:=Zur.mp h2;have:(S.wares.map (·.name))[i]?=(S.wares.map (·.name))[j]?:=by
   rw[Zzw,Zzw,Zzp hi,Zzp hj,ei,ej];show some w.name=some v.name;rw[h1]
  have e2:=(List.getElem?_inj (by rw[Zzz];exact hi) nd).mp this;subst e2;rw[<- ei,<- ej]
end NP
namespace L2
open PySem PySem.Spec PyProof.Rows PySem.W NP
def A28(a b:Str):Prop:=¬ b.cps.toList<a.cps.toList
def gp(xs ys:List Str):Prop:=ys.Perm xs/\ys.Pairwise A28
theorem Inv.laidF{o:HO}(I:Inv X pins Z H s)(k:∀b u,s.heap.get? b=some u->h'.get? b=some u)(fr:∀b u,s.heap.get? b=some u->b≠a)(hn:H a=none)(new:AF X.prog X.w (upd H a o) h' a o) :
  Inv X pins Z (upd H a o) {s with heap:=h',toks:=t'}:=by
 refine I.un ⟨λb u e _ _ _=>k b u e,λb u e _ _ _=>⟨u.slots,k b u e⟩,λb u e n _=>by rw[Ab (fr b u e)];exact n,λb u e _=>⟨u,k b u e⟩,λb xs e=>by rw[Ab (A9 e hn)];exact e,λb u v e=>by rw[Ab (A9 e hn)];exact e,λb ps e=>⟨#[],by rw[Ab (A9 e hn),e];simp⟩⟩ λb u e=>?_;by_cases hb:b=a
 ·subst hb;rw[A1] at e;cases e;exact new
 ·rw[Ab hb] at e;exact(I.hok b u e).stay (λb' u' _ q=>k b' u' q) (λb' q=>by rw[Ab (A9 q hn)];exact q) λb' xs q=>by rw[Ab (A9 q hn)];exact q
def V7:List V->Hp->VK->Prop:=λvs H Q=>∃a xs,vs=[.ref a]/\H a=some (.lst (xs.map V.str))/\xs.length<64/\∀p ys,H p=none->gp xs ys->Q (.ref p) (upd H p (.lst (ys.map V.str)))
def V8:List V->Hp->VK->Prop:=λvs H Q=>∃a kvs xs,vs=[.ref a]/\H a=some (.dK kvs)/\kvs.map (·.1)=xs.map Zy9/\xs.length<64/\∀p ys,H p=none->gp xs ys->Q (.ref p) (upd H p (.lst (ys.map V.str)))
def Vb:List V->Hp->VK->Prop:=λvs H Q=>∃a kvs,vs=[.ref a]/\Rd H a (.dK kvs)/\∀p,H p=none->Q (.ref p) (upd H p (.dK kvs))
def Pm:V->List V->Hp->VK->Prop:=λx vs H Q=>∃a kvs,x=.ref a/\vs=[]/\H a=some (.dK kvs)/\Q .non (upd H a (.dK []))
def X9(xs:List Str):PyData:=.list (xs.map .str)
theorem Iy:∀xs:List Str,RDs H (xs.map .str) (xs.map V.str)
 |[]=>RDs.nil
 |x::r=>RDs.cons RD.str_mk (Iy r)
theorem Mp{xs:List Str}(h:∀x∈xs,PyData.strOk x=true):okD (X9 xs)=true:=by
 have h1:∀ys:List Str,(∀x∈ys,PyData.strOk x=true)->PyData.canLayAll0 (ys.map .str)=true/\PyData.depthAll (ys.map .str)=0:=λys=>by
  induction ys with
  |nil=>intro _;exact⟨by rw[Zxs,PyData.canLayAll0],by rw[Zxs,PyData.depthAll]⟩
  |cons y r ih =>
   intro hy;obtain⟨a,b⟩:=ih λx hx=>hy x (Zzl _ hx);refine⟨?_,?_⟩
   ·rw[Zz9,PyData.canLayAll0,PyData.canLay0,hy y Zzj,a];rfl
   ·rw[Zz9,PyData.depthAll,PyData.depth,b];rfl
 obtain⟨a,b⟩:=h1 xs h;unfold okD X9;rw[PyData.canLay0,a,PyData.depth,b];rfl
theorem S1(xs:List Str):PyData.eqv (X9 xs) (X9 xs)=true:=by
 have h1:∀ys:List Str,PyData.eqvAll (ys.map .str) (ys.map .str)=true:=λys=>by
  induction ys with
  |nil=>rw[Zxs,PyData.eqvAll]
  |cons y r ih=>rw[Zz9,PyData.eqvAll,PyData.eqv,ih];simp
 unfold X9;rw[PyData.eqv];exact h1 xs
end L2
set_option maxHeartbeats 4000000
namespace L2
open PySem PyProof.Rows
def EQ:V->List V->Hp->VK->Prop:=λx vs H Q=>∃(l:Addr) (xs:List Str) (y:Str),x=.ref l/\vs=[.str y]/\H l=some (.lst (xs.map V.str))/\y∈xs/\Q (.int (xs.idxOf y:Nat)) H
theorem Nb:∀{xs:List Str} {us:List Value},AB (xs.map V.str) us->∀j (hj:j<us.length) (y:Str),eqU (.str y) us[j]=(xs.getD j "" == y)
 |[],_,.nil,j,hj,y=>absurd hj (Zvk _)
 |x::xs,u::us,.cons r t,0,hj,y=>by
  obtain⟨t',rfl⟩:=r;rfl
 |x::xs,u::us,.cons r t,j+1,hj,y=>Nb t j (Zw8 hj) y
theorem Hj:∀xs:List Str,(xs.map V.str).all Gj=true
 |[]=>rfl
 |x::xs=>by rw[Zz9,Zwu,Hj xs];rfl
theorem qi{xs:List Str}{y:Str}(h:y∈xs):xs.getD (xs.idxOf y) "" = y:=by
 have hl:xs.idxOf y<xs.length:=List.idxOf_lt_length_iff.mpr h;rw[Zz8,Zzp hl,Zw0];exact List.getElem_idxOf hl
theorem Mx{y:Str}:∀{xs:List Str} {m:Nat},m<xs.idxOf y->m<xs.length->(xs.getD m "" == y)=false
 |[],m,h,hm=>absurd hm (Zvk _)
 |x::xs,0,h,_=>by
  rw[List.idxOf_cons] at h;cases e:x == y with
  |false=>exact e
  |true=>rw[e] at h;exact absurd h (Zxk _)
 |x::xs,m+1,h,hm=>by
  rw[List.idxOf_cons] at h;cases e:x == y with
  |false=>rw[e] at h;exact Mx (xs:=xs) (m:=m) (Zw8 h) (Zw8 hm)
  |true=>rw[e] at h;exact absurd h (Zvk _)
theorem oy:MtM X "list.index" EQ:=by
 intro pins s Z H x vs v us Q I rx rv h;obtain⟨l,xs,y,rfl,rfl,hH,hy,q⟩:=h;cases rx;obtain⟨u,rfl,ru⟩:=rv.one;obtain⟨z,its,n,r,hl,e⟩:=I.lstM hH;rw[Zzz] at hl z;have hj:xs.idxOf y<xs.length:=List.idxOf_lt_length_iff.mpr hy;have hs:its.toArray.size=xs.length:=by rw[Zzs,hl]
 rw[sizeLine_eq] at z;refine call_meets F.slot_list_index ⟨_,e,rfl⟩ F.entry_list_index (F.args_list_index_2 _ _) (SeqAt.list_indexAt l its.toArray n none #[] u (eqU (.str y)) (xs.idxOf y) (by lia) (by lia) ?_ (λm hm hlt=>?_)) ⟨e,λw hw=>G5 ru rfl r (Hj xs) w (by simpa using hw),?_⟩
 ·rw[Zvx,Nb r,qi hy];exact beq_self_eq_true y
 ·rw[Zvx,Nb r];exact Mx hlt (by lia)
 ·exact⟨.int _,H,I.tok _,⟨_,rfl⟩,q⟩
theorem Ng{xs zs:List Str}(h:N9 kz xs ys)(h':N9 kz xs zs):ys=zs:=by
 obtain⟨ps,p1,rfl,p2⟩:=h;obtain⟨qs,q1,rfl,q2⟩:=h';have e:ps=qs:=List.Perm.eq_of_pairwise (λa b _ _ h1 h2=>by unfold klt at h1 h2;lia) p2 q2 (p1.trans q1.symm);rw[e]
theorem Mw(x:Str):∀xs:List Str,inV (.str x) (xs.map V.str)=decide (x∈xs)
 |[]=>rfl
 |y::xs=>by
  show (y == x||inV (.str x) (xs.map V.str))=decide (x∈y::xs);rw[Mw x xs];by_cases e:y=x
  ·rw[e];simp
  ·have e2:(y == x)=false:=by simpa using e
   rw[e2,Bool.false_or];exact decide_eq_decide.mpr ⟨λm=>Zzl _ m,λm=>(Zzu.mp m).resolve_left λz=>e z.symm⟩
end L2
set_option exponentiation.threshold 4000
namespace L2
open PySem PySem.Spec PyProof.Rows
def cw:V->V->Hp->VK->Prop:=λo i H Q=>∃(p:Addr) (kvs:List (Key×V)) (k:Str) (v:V),o=.ref p/\i=.str k/\H p=some (.dK kvs)/\C4 kvs (.inr k)=some v/\Q v H
end L2
namespace NP
open PySem L2
def Bv(m g:Int):Int:=if -(-m / g) > 0 then -(-m / g) else 0
theorem iz(m g:Int):0<=Bv m g:=by unfold Bv;split<;>lia
theorem T4{m g:Int}(h:0<g):m<=g*Bv m g:=by
 have h1:=Int.mul_ediv_add_emod (-m) g;have h2:=Int.emod_nonneg (-m) (b:=g) (by lia);have h3:g*(-(-m / g))=-(g*(-m / g)):=Int.mul_neg ..;unfold Bv;split
 ·rw[h3];lia
 ·rename_i q;have h4:0<=-m / g:=by lia
  have h5:0<=g*(-m / g):=Zuh (by lia) h4;lia
theorem W6{m g:Int}(h:0<g)(hl:0<Bv m g):g*Bv m g<m+g:=by
 have h1:=Int.mul_ediv_add_emod (-m) g;have h2:=Zud (-m) h;have h3:g*(-(-m / g))=-(g*(-m / g)):=Int.mul_neg ..;unfold Bv at hl ⊢;split
 ·rw[h3];lia
 ·rename_i q;rw[FS q] at hl;lia
theorem j0{m g:Int}(h:0<g)(hm:0<=m):Bv m g<=m:=by
 by_cases hz:0<Bv m g
 ·have h1:=W6 h hz
  have h2:Bv m g*1<=Bv m g*g:=Int.mul_le_mul_of_nonneg_left (by lia) (by lia);have h3:g*Bv m g=Bv m g*g:=Int.mul_comm ..;have h4:(g - 1)*1<=(g - 1)*Bv m g:=Int.mul_le_mul_of_nonneg_left (by lia) (by lia);have h5:(g - 1)*Bv m g=g*Bv m g - Bv m g:=by rw[Int.sub_mul,Int.one_mul]
  lia
 ·lia
def v8:List Int->Int
 |[]=>0
 |x::r=>x+v8 r
def ur(us:List Wt)(x:Str):Int:=v8 (us.map λu=>if u.1=x then u.2.2 else 0)
def A01(L:Str->Int)(w:Wr)(x:Str):Int:=v8 (w.parts.map λp=>if p.1=x then L w.name*p.2 else 0)
def v0(ws:List Wr)(L:Str->Int)(x:Str):Int:=v8 (ws.map λw=>A01 L w x)
def A0k(S:Sh)(L:Str->Int)(x:Str):Int:=ur S.wants x+v0 S.wares L x
def exF(S:Sh):Nat->Str->Int
 |0,_=>0
 |k+1,x=>match Wk S x with
  |some w=>Bv (A0k S (exF S k) x) w.gives
  |none=>0
def ex(S:Sh)(x:Str):Int:=exF S S.wares.length x
theorem gw{w:Wr}(h:Wk S x=some w):w∈S.wares/\w.name=x:=⟨List.mem_of_find?_eq_some h,FP (by simpa using List.find?_some h)⟩
theorem Y7{m g:Int}(h:0<g)(hm:m<=0):Bv m g=0:=by
 unfold Bv;have:0<=-m / g:=Int.ediv_nonneg (by lia) (by lia);rw[FS (by lia)]
def above(f g:Int)(xs ys:List Int):Nat->Int
 |0=>-f
 |i+1=>above f g xs ys i+(xs.getD i 0 - ys.getD i 0)+g*Bv (-(above f g xs ys i+(xs.getD i 0 - ys.getD i 0))) g
def Mt(f g:Int)(xs ys:List Int)(i:Nat):Int:=Bv (-(above f g xs ys i+(xs.getD i 0 - ys.getD i 0))) g
def AT(f g:Int)(xs ys:List Int)(n:Nat):List Int:=(Zyo n).map (Mt f g xs ys)
theorem Y6(f g:Int)(xs ys:List Int)(n:Nat):(AT f g xs ys n).length=n:=by simp[AT]
theorem iy(f g:Int)(xs ys:List Int)(n:Nat):AT f g xs ys (n+1)=AT f g xs ys n++[Mt f g xs ys n]:=by
 unfold AT;rw[List.range_succ,Zzi];rfl
theorem bg(f g:Int)(xs ys:List Int)(i:Nat):above f g xs ys (i+1)=above f g xs ys i+(xs.getD i 0 - ys.getD i 0)+g*Mt f g xs ys i:=rfl
theorem tj{f g:Int}{xs ys:List Int}(hg:0<g)(i:Nat):0<=above f g xs ys (i+1):=by
 have:=T4 (m:=-(above f g xs ys i+(xs.getD i 0 - ys.getD i 0))) hg;rw[bg];unfold Mt;lia
theorem pk(f g:Int)(xs ys:List Int)(i:Nat):0<=Mt f g xs ys i:=iz _ _
theorem tm{f g:Int}{xs ys:List Int}(hg:0<g)(hf:0<=f)(i:Nat):-f<=above f g xs ys i:=by
 cases i with
 |zero=>exact Zys _
 |succ i=>have:=tj (f:=f) (xs:=xs) (ys:=ys) hg i;lia
theorem px{f g:Int}{xs ys:List Int}(hg:0<g)(hf:0<=f)(hx:0<=xs.getD i 0)(hy:0<=ys.getD i 0):Mt f g xs ys i<=f+ys.getD i 0:=by
 have h1:=tm (f:=f) (xs:=xs) (ys:=ys) hg hf i;unfold Mt;by_cases h:0<=-(above f g xs ys i+(xs.getD i 0 - ys.getD i 0))
 ·have:=j0 hg h
  lia
 ·rw[Y7 hg (by lia)];lia
def LRF(S:Sh):Nat->Str->List Int
 |0,_=>[]
 |k+1,x=>match Wk S x with
  |some w=>AT w.floor w.gives (Bh (AE S) (Js w)) (Da S (LRF S k) x) (AE S)
  |none=>[]
def LR(S:Sh)(x:Str):List Int:=LRF S S.wares.length x
theorem W4{plan':Str->List Int}(h:∀t∈S.wares,∀p∈t.parts,p.1=nm->plan t.name=plan' t.name)(d:Nat):Kc S plan nm d=Kc S plan' nm d:=by
 unfold Kc;congr 1;refine Qf λt ht=>?_;unfold pAt;refine Qf λp hp=>?_;by_cases e:p.1=nm
 ·rw[FT e,FT e,h t ht p hp e]
 ·rw[FS e,FS e]
theorem Rp{plan':Str->List Int}(h:∀t∈S.wares,∀p∈t.parts,p.1=nm->plan t.name=plan' t.name):Da S plan nm=Da S plan' nm:=Cp λd _=>W4 h d
theorem Sf(L:Lev S)(k:Nat){w:Wr}(hw:w∈S.wares):LRF S (k+1) w.name=AT w.floor w.gives (Bh (AE S) (Js w)) (Da S (LRF S k) w.name) (AE S):=by rw[LRF,Q2 L.nd hw]
theorem Yw(L:Lev S){r:Str->Nat}(hr:∀w∈S.wares,r w.name<S.wares.length)(hp:∀w∈S.wares,∀p∈w.parts,r p.1<r w.name):∀k w,w∈S.wares->S.wares.length - r w.name<=k->LRF S (k+1) w.name=LRF S k w.name
 |0,w,hw,h=>by have:=hr w hw;lia
 |k+1,w,hw,h=>by
  rw[Sf L _ hw,Sf L _ hw];congr 1;refine Rp λu hu p hpm e=>?_;have h3:=hp u hu p hpm;rw[e] at h3;have:=hr u hu;exact Yw L hr hp k u hu (by lia)
theorem zr(L:Lev S){w:Wr}(hw:w∈S.wares):LR S w.name=AT w.floor w.gives (Bh (AE S) (Js w)) (Da S (LR S) w.name) (AE S):=by
 obtain⟨r,h1,h2⟩:=L.low;have h3:=Yw L h1 h2 S.wares.length w hw (by lia);rw[Sf L _ hw] at h3;exact h3.symm
theorem bi(L:Lev S){w:Wr}(hw:w∈S.wares):(LR S w.name).length=AE S:=by rw[zr L hw,Y6]
theorem kh(L:Lev S)(so:Uw (lv S) (S.wares.map (·.name)) ys)(hi:ys[i]?=some nm){t:Wr}(ht:t∈S.wares){p:Str×Int}(hp:p∈t.parts)(e:p.1=nm):t.name∈ys.take i:=by
 have h1:=dz L ht hp;rw[e] at h1;obtain⟨j,hj⟩:=Zwv.mp (so.1.mem_iff.mpr (Zzo.mpr ⟨t,ht,rfl⟩));obtain⟨hil,ei⟩:=Zzb.mp hi;obtain⟨hjl,ej⟩:=Zzb.mp hj;have hlt:j<i:=by
  rcases Nat.lt_trichotomy j i with z | z | z
  ·exact z
  ·subst z;rw[ei] at ej;rw[ej] at h1;lia
  ·have:=Zwq.mp so.2 i j hil hjl z
   rw[ei,ej] at this;lia
 exact Zzt (i:=j) (by rw[Zvh,FT hlt];exact hj)
structure ue(S:Sh):Prop where
 wb:∀w∈S.wares,(1<=w.gives/\w.gives<=10^41)/\(0<=w.floor/\w.floor<=10^41)/\0<=w.stock/\w.parts.length<=12/\∀p∈w.parts,1<=p.2/\p.2<=10^41
 com:∀w∈S.wares,∀p∈w.coming,0<=p.2
 few:S.wares.length<=12
 wt:S.wants.length<=20/\∀u∈S.wants,0<=u.2.2/\u.2.2<=10^41
theorem Pg{α:Type}{l:List α}{f:α->Int}(h:∀x∈l,0<=f x):0<=Cb f l:=by
 induction l with
 |nil=>exact Zys _
 |cons x r ih =>
  rw[Kq];have h1:=h x Zzj;have h2:=ih λy hy=>h y (Zzl _ hy);lia
theorem Uz{α:Type}{l:List α}{f:α->Int}{c:Int}(hc:0<=c)(hl:l.length<=n)(h:∀x∈l,f x<=c):Cb f l<=n*c:=by
 induction l generalizing n with
 |nil=>exact Zuh (Zvg n) hc
 |cons x r ih =>
  cases n with
  |zero=>cases hl
  |succ n =>
   rw[Kq];have h1:=h x Zzj;have h2:=ih (n:=n) (Nat.le_of_succ_le_succ hl) λy hy=>h y (Zzl _ hy);have e:((n+1:Nat):Int)*c=n*c+c:=by rw[Int.natCast_add,Int.add_mul];simp
   lia
theorem xr{xs:List Int}{B:Int}(hB:0<=B)(h:∀x∈xs,0<=x/\x<=B)(i:Nat):0<=xs.getD i 0/\xs.getD i 0<=B:=by
 rw[Zz8];cases e:xs[i]? with
 |none=>exact⟨Zys _,hB⟩
 |some x=>exact h x (Zzt e)
theorem t6{xs:List Int}{B:Int}(hB:0<=B)(h:∀x∈xs,0<=x/\x<=B)(lag:Int)(d:Nat):0<=bAt xs lag d/\bAt xs lag d<=B:=by
 unfold bAt;split
 ·exact xr hB h _
 ·exact⟨Zys _,hB⟩
theorem ip(E:ue S){B:Int}(hB:0<=B)(h:∀nm,∀x∈plan nm,0<=x/\x<=B)(nm:Str)(d:Nat):0<=Kc S plan nm d/\Kc S plan nm d<=20*10^41+12*(12*(10^41*B)):=by
 have hB2:0<=10^41*B:=Zuh (by decide +kernel) hB;have w0:0<=Cb (wAt nm d) S.wants:=Pg λu hu=>by
  unfold wAt;split
  ·exact(E.wt.2 u hu).1
  ·exact Zys _
 have w1:Cb (wAt nm d) S.wants<=(20:Nat)*(10:Int)^41:=Uz (by decide +kernel) E.wt.1 λu hu=>by
  unfold wAt;split
  ·exact(E.wt.2 u hu).2
  ·decide +kernel
 have p0:0<=Cb (pAt plan nm d) S.wares:=Pg λt ht=>Pg λp hp=>by
  split
  ·exact Zuh (by have:=((E.wb t ht).2.2.2.2 p hp).1;lia) (t6 hB (h t.name) t.lag d).1
  ·exact Zys _
 have p1:Cb (pAt plan nm d) S.wares<=(12:Nat)*(12*(10^41*B)):=Uz (by lia) E.few λt ht=>by
  have:pAt plan nm d t<=(12:Nat)*(10^41*B):=Uz hB2 (E.wb t ht).2.2.2.1 λp hp=>by
   split
   ·have h3:=(E.wb t ht).2.2.2.2 p hp
    have h4:=t6 hB (h t.name) t.lag d;exact Int.mul_le_mul h3.2 h4.2 h4.1 (by decide +kernel)
   ·exact hB2
  exact this
 unfold Kc;exact⟨by lia,Int.add_le_add w1 p1⟩
theorem tf(E:ue S){w:Wr}(hw:w∈S.wares)(d:Nat):0<=Js w d:=by
 unfold Js;have h1:0<=(if d=0 then w.stock else 0):=by
  split
  ·exact(E.wb w hw).2.2.1
  ·exact Zys _
 have h2:0<=Cb (cAt d) w.coming:=Pg λp hp=>by
  unfold cAt;split
  ·exact E.com w hw p hp
  ·exact Zys _
 lia
theorem bj(E:ue S):∀(k:Nat) (nm:Str),∀x∈LRF S k nm,0<=x/\x<=10^(45*k)
 |0,nm,x,h=>by cases h
 |k+1,nm,x,h=>by
  have hB:(0:Int)<=10^(45*k):=Int.pow_nonneg (by decide);have h1:(1:Int)<=10^(45*k):=Int.pow_pos (by decide);have e:(10:Int)^(45*(k+1))=10^(45*k)*10^45:=by rw[<- Int.pow_add];rfl
  rw[LRF] at h;split at h
  ·rename_i w hw;have hw2:=(gw hw).1;unfold AT at h;obtain⟨i,hi,rfl⟩:=Zzo.mp h;have hi:=Zuk.mp hi;have hwb:=E.wb w hw2;have hn:=ip E hB (λy=>bj E k y) nm i;have e1:(Bh (AE S) (Js w)).getD i 0=Js w i:=Qy hi;have e2:(Da S (LRF S k) nm).getD i 0=Kc S (LRF S k) nm i:=Qy hi;have h2:=px (f:=w.floor) (g:=w.gives) (xs:=Bh (AE S) (Js w)) (ys:=Da S (LRF S k) nm) (i:=i) (by lia) hwb.2.1.1 (by rw[e1];exact tf E hw2 i) (by rw[e2];exact hn.1);rw[e2] at h2;refine⟨pk _ _ _ _ _,?_⟩;rw[e];have hn2:=hn.2;have hf:=hwb.2.1.2;generalize (10:Int)^(45*k)=B at hB h1 hn2 ⊢;lia
  ·cases h
theorem zq(E:ue S)(nm:Str):∀x∈LR S nm,0<=x/\x<10^600:=λx hx=>by
 have h1:=bj E S.wares.length nm x hx;have h2:(10:Int)^(45*S.wares.length)<=10^(45*12):=by
  have:(10:Nat)^(45*S.wares.length)<=10^(45*12):=Nat.pow_le_pow_right (by decide) (Nat.mul_le_mul_left _ E.few);exact_mod_cast this
 exact⟨h1.1,Zyh (Zxb h1.2 h2) (by decide +kernel)⟩
def Dg(row:List Int)(lag:Int):Nat->Option Nat
 |0=>none
 |n+1=>match Dg row lag n with
  |some d=>some d
  |none=>if (n:Int)<lag/\0<row.getD n 0 then some n else none
def Ej(row:List Int)(lag:Int):Option Nat:=Dg row lag row.length
theorem Oz{lag:Int}:∀{n:Nat},Dg row lag n=none->∀e,e<n->¬ ((e:Int)<lag/\0<row.getD e 0)
 |0,_,e,he=>absurd he (Zvk _)
 |n+1,h,e,he=>by
  rw[Dg] at h;split at h
  ·cases h
  ·rename_i q;split at h
   ·cases h
   ·rename_i c;by_cases z:e=n
    ·subst z;exact c
    ·exact Oz q e (by lia)
theorem S3{lag:Int}{d:Nat}(h:Dg row lag n=some d):∀k,Dg row lag (n+k)=some d
 |0=>h
 |k+1=>by
  show Dg row lag ((n+k)+1)=some d;rw[Dg,S3 h k]
theorem ah{lag:Int}{d:Nat}(h:Dg row lag n=some d)(hn:n<=row.length):Ej row lag=some d:=by
 have:=S3 h (row.length - n);rw[Nat.add_sub_cancel' hn] at this;exact this
theorem G8{lag:Int}:∀{n d:Nat},Dg row lag n=some d->d<n/\(d:Int)<lag/\0<row.getD d 0/\∀e,e<d->¬ ((e:Int)<lag/\0<row.getD e 0)
 |0,d,h=>by cases h
 |n+1,d,h=>by
  rw[Dg] at h;split at h
  ·rename_i d' e;obtain rfl:=Zzm h;obtain⟨h1,h2,h3,h4⟩:=G8 e;exact⟨by lia,h2,h3,h4⟩
  ·rename_i e;split at h
   ·rename_i c;obtain rfl:=Zzm h;exact⟨by lia,c.1,c.2,λi hi=>Oz e i hi⟩
   ·cases h
end NP
set_option maxHeartbeats 400000
namespace L2
open PySem PySem.Spec PyProof.Rows PySem.W NP
def V6:List V->Hp->VK->Prop:=λvs H Q=>∃(a:Addr) (as:List Addr) (kz:Nat->Int),vs=[.ref a]/\H a=some (.lst (as.map V.ref))/\as.length<64/\(∀i,i<as.length->H (as.getD i 0)=some (.tup [.int (kz i),.int i])) /\
 ∀(r:Addr) (ps:List Nat),H r=none->ps.Perm (Zyo as.length)->ps.Pairwise (klt kz)->Q (.ref r) (upd H r (.lst (ps.map λi=>V.ref (as.getD i 0))))
end L2
namespace L2
open PySem PySem.Spec PyProof.Rows
def a9(ns:Nat->Int):Nat->Int
 |0=>ns 0
 |k+1=>if ns (k+1)<a9 ns k then ns (k+1) else a9 ns k
section
variable {I:Addr}{P:Nat->Value->Prop}{St:Nat->Heap->Prop}
end
def minL(ns:List Int):Int:=a9 (λi=>(ns[i]?).getD 0) (ns.length - 1)
def cm:List V->Hp->VK->Prop:=λvs H Q=>∃a ns,vs=[.ref a]/\H a=some (.lst (ns.map V.int))/\ns≠[]/\Q (.int (minL ns)) H
end L2
namespace L2
open PySem PySem.Spec PyProof.Rows PySem.W NP
end L2
namespace L2
open PySem PySem.Spec PyProof.Rows
end L2
set_option maxHeartbeats 4000000
namespace L2
open PySem PySem.Spec PyProof.Rows PySem.W
def N2(e:Addr)(h:Heap):Prop:=∃(o:Obj) (vs:Array Value),h.get? e=some o/\o.data=.fields vs/\vs[2]?=some Value.none
def Kn{α:Type}(e:Addr)(t:Sem α):Prop:=∀(M:Model) (Γ:PySem.Ctx) (Q:α->Pos->Shared->Prop) (E:Value->Pos->Shared->Prop) (p:Pos) (s:Shared),N2 e s.heap->Sem.wp M Γ t Q E p s->Sem.wp M Γ t (λa p s=>Q a p s/\N2 e s.heap) E p s
section
variable {α β:Type}{e:Addr}
theorem Kn.pure(x:α):Kn e (Pure.pure x:Sem α):=λM Γ Q E p s n h=>by
 rw[Sem.wp_pure'] at h ⊢;exact⟨h,n⟩
theorem Kn.bind{t:Sem α}{k:α->Sem β}(ht:Kn e t)(hk:∀a,Kn e (k a)):Kn e (t >>= k):=λM Γ Q E p s n h=>by
 rw[Sem.wp_bind'] at h ⊢;exact Sem.wp_mono M Γ t (λa p s z=>hk a M Γ Q E p s z.2 z.1) (λ_ _ _ x=>x) p s (ht M Γ _ E p s n h)
theorem Kn.uns(m:String):Kn e (unsupported m:Sem α):=λM Γ Q E p s n h=>False.elim h
theorem Kn.load:Kn e (load a):=λM Γ Q E p s n h=>by
 obtain⟨o,h1,h2⟩:=h;exact⟨o,h1,h2,n⟩
theorem Kn.stack:Kn e stack:=λM Γ Q E p s n h=>⟨h,n⟩
theorem Kn.alloc(o:Obj):Kn e (alloc o):=λM Γ Q E p s n h=>by
 refine⟨h,?_⟩;obtain⟨o',vs,h1,h2⟩:=n;exact⟨o',vs,Zzv _ h1,h2⟩
theorem Kn.update(f:Obj->Obj)(hf:∀(o:Obj) (vs:Array Value),o.data=.fields vs->vs[2]?=some Value.none->∃vs':Array Value,(f o).data=.fields vs'/\vs'[2]?=some Value.none):Kn e (update a f):=λM Γ Q E p s n h=>by
 obtain⟨h1,h2⟩:=h;refine⟨h1,h2,?_⟩;obtain⟨o,vs,e1,e2,e3⟩:=n;by_cases z:e=a
 ·subst z;obtain⟨vs',e4,e5⟩:=hf o vs e2 e3;exact⟨f o,vs',Zxn _ e1 (Obj.isFreed_of_fields e4),e4,e5⟩
 ·exact⟨o,vs,(Zyt _ _ (Zza z)).trans e1,e2,e3⟩
theorem Kn.fieldsOf(v:Value):Kn e (fieldsOf v):=by
 unfold PySem.fieldsOf;repeat (first | exact Kn.pure _ | exact Kn.uns _ | exact Kn.load | (refine Kn.bind ?_ λ_=>?_) | split)
theorem Kn.field(v:Value)(i:Nat):Kn e (field v i):=by
 unfold PySem.field;refine Kn.bind (Kn.fieldsOf v) λ_=>?_;repeat (first | exact Kn.pure _ | exact Kn.uns _ | exact Kn.load | (refine Kn.bind ?_ λ_=>?_) | split)
theorem Kn.setField(v x:Value)(hi:i≠2):Kn e (setField v i x):=by
 unfold PySem.setField updateField;split
 ·refine Kn.bind Kn.load λo=>?_;split
  ·split
   ·refine Kn.update _ λo vs h1 h2=>⟨_,Obj.data_mapFields h1 _,?_⟩;rw[Array.getElem?_setIfInBounds_ne hi];exact h2
   ·exact Kn.uns _
  ·exact Kn.uns _
 ·exact Kn.uns _
theorem Kn.setFlight(v:Value)(f:Option Addr):Kn e (setFlight v f):=by
 unfold PySem.setFlight;refine Kn.bind (Kn.field _ _) λ_=>?_;split
 ·exact Kn.setField _ _ (by decide)
 ·exact Kn.pure _
theorem Kn.ready:∀l:List Env,Kn e (readyFrames l)
 |[]=>Kn.pure _
 |env::outer=>by
  have hb:Kn e (behindIsImport env outer):=by
   unfold behindIsImport;repeat (first | exact Kn.pure _ | exact Kn.uns _ | exact Kn.field _ _ | (refine Kn.bind ?_ λ_=>?_) | split)
  have hk:∀b,Kn e (keptBack env b outer):=λb=>by
   unfold keptBack underTheClaimsCaller;repeat (first | exact Kn.pure _ | exact Kn.stack | (refine Kn.bind ?_ λ_=>?_) | split)
  unfold readyFrames;split
  ·refine Kn.bind Kn.load λo=>?_;split
   ·exact Kn.pure _
   ·refine Kn.bind hb λb=>Kn.bind (hk b) λv=>Kn.bind (Kn.update _ λo vs h1 h2=>⟨vs,h1,h2⟩) λ_=>Kn.ready outer
  ·exact Kn.uns _
theorem Kn.frameOf(env:Env):Kn e (frameOf env):=by
 unfold PySem.frameOf frameEnvs;refine Kn.bind (Kn.bind Kn.stack λ_=>Kn.pure _) λl=>Kn.bind ?_ λo=>?_
 ·unfold frameObject;split
  ·exact Kn.pure _
  ·exact Kn.bind (Kn.ready _) λ_=>Kn.pure _
 ·split
  ·exact Kn.pure _
  ·exact Kn.uns _
theorem Kn.newFields(ty:String)(vs:List Value):Kn e (newFields ty vs):=by
 unfold PySem.newFields newObj newObjAsIs;dsimp only;repeat (first | exact Kn.pure _ | exact Kn.uns _ | exact Kn.alloc _ | (refine Kn.bind ?_ λ_=>?_) | split)
theorem Kn.place(f:Addr)(b:Bool):Kn e (entryPlaceOf f b):=by
 unfold entryPlaceOf;refine Kn.bind Kn.stack λ_=>?_;split
 ·exact Kn.pure _
 ·exact Kn.pure _
theorem Kn.noteFrame(v:Value)(env:Env):Kn e (noteFrame v env):=by
 unfold PySem.noteFrame EntryCells.newEntry;repeat (first | exact Kn.pure _ | exact Kn.uns _ | exact Kn.field _ _ | exact Kn.setField _ _ (by decide) | exact Kn.frameOf _ | exact Kn.place _ _ | exact Kn.newFields _ _ | (refine Kn.bind ?_ λ_=>?_) | split)
theorem Kn.leaving(v:Value)(env:Env):Kn e (leaving env v):=Kn.bind (Kn.noteFrame v env) λ_=>Kn.setFlight v none
theorem Kn.any{t:Sem α}{Q:α->Shared->Prop}(k:Kn e t)(n:N2 e s.heap)(h:wpAny M A t Q E s):wpAny M A t (λa s'=>Q a s'/\N2 e s'.heap) E s:=λΓ p hΓ=>k M Γ _ _ p s n (h Γ p hΓ)
theorem Kn.with{t:Sem Unit}{Q:Unit->Shared->Prop}{C:Heap->Prop}(k:Kn e t)(n:N2 e s.heap)(h:∀Q':Unit->Shared->Prop,(∀h',C h'->Q' () {s with heap:=h'})->wpAny M A t Q' E s)(hq:∀h',C h'->N2 e h'->Q () {s with heap:=h'}):wpAny M A t Q E s:=by
 refine wpAny_mono (k.any n (h (λ_ s'=>∃h',s'={s with heap:=h'}/\C h') λh' c=>⟨h',rfl,c⟩)) (λ_ s' z=>?_) λ_ _ x=>x;obtain⟨⟨h',rfl,c⟩,n'⟩:=z;exact hq h' c n'
end
theorem AF.ex{o:HO}(x:AF P w H h a o):∃ob,h.get? a=some ob:=by
 cases o with
 |lst xs=>obtain⟨_,_,_,_,e⟩:=x;exact⟨_,e⟩
 |tup xs=>obtain⟨_,_,_,ob,e,_⟩:=x;exact⟨ob,e⟩
 |dK kvs=>obtain⟨_,_,_,_,o,_,_,e,_⟩:=x;exact⟨o,e⟩
 |dT kvs=>obtain⟨_,_,_,_,o,_,_,e,_⟩:=x;exact⟨o,e⟩
 |set S n=>obtain⟨ob,_,_,_,e,_⟩:=x;exact⟨ob,e⟩
 |ins C dx fs=>obtain⟨_,_,_,e,_⟩:=x;exact⟨_,e⟩
 |own y=>exact x
 |xd fs=>obtain⟨_,⟨od,_,_,e,_⟩,_⟩:=x;exact⟨od,e⟩
 |rng lo hi=>obtain⟨_,_,_,e⟩:=x;exact⟨_,e⟩
 |frz ob u=>exact⟨_,x.1⟩
 |tbl ps=>exact⟨_,x⟩
 |met f y=>exact⟨_,x⟩
 |ext φ=>exact x.2.1
structure Fl(P:Program)(w:World)(fs:List Addr)(H:Hp)(h:Heap)(a:Addr)(H':Hp)(B h':Heap):Prop where
 un:Un fs [] H H' h h'
 hok:HOk P w H' h'
 new:h.get? a=none
 free:H' a=none
 k1:∀b o,h.get? b=some o->H b=none->b∉fs->B.get? b=some o
 k2:∀b o u,H' b=some u->h'.get? b=some o->B.get? b=some o
 k3:∀b o,h.get? b=some o->b∉fs->∃o',B.get? b=some o'
 fr:∀b∈fs,∃o,h.get? b=some o/\H b=none/\∀vs,o.data≠.fields vs
section
variable {fs:List Addr}{H0:Hp}{h0 h1 h2:Heap}
theorem Fl.slots(F:Fl P w fs H h a H' B h1)(up:h1.UpToSlots h2){b:Addr}{o:Obj}(e:h.get? b=some o)(hb:b∈fs):∃sl,h2.get? b=some {o with slots:=sl}:=by
 obtain⟨o',e',n,hd⟩:=F.fr b hb;rw[e] at e';cases e';obtain⟨sl,q⟩:=F.un.slot b o e n hb (by simp);obtain⟨sl2,q2⟩:=up b _ q hd;exact⟨sl2,q2⟩
theorem Fl.on(F:Fl P w fs H h a H' B h1)(st:B.StaysIn h2)(up:h1.UpToSlots h2):Fl P w fs H h a H' B h2 where
 un:={
  keep:=λb o e n hb _=>st b o (F.k1 b o e n hb)
  slot:=λb o e n hb _=>F.slots up e hb
  free:=F.un.free
  there:=λb o e _=>by
   by_cases hb:b∈fs
   ·obtain⟨sl,q⟩:=F.slots up e hb
    exact⟨_,q⟩
   ·obtain⟨o',q⟩:=F.k3 b o e hb
    exact⟨o',st b o' q⟩
  tups:=F.un.tups
  frzs:=F.un.frzs
  tbls:=F.un.tbls}
 hok:=λb u e=>(F.hok b u e).stay (λc o hc q=>st c o (by
  rcases hc with rfl | hc
  ·exact F.k2 _ o u e q
  ·exact F.k2 c o _ hc q)) (λ_ q=>q) λ_ _ q=>q
 new:=F.new;free:=F.free;k1:=F.k1;k2:=λb o u e q=>by
  obtain⟨o1,q1⟩:=(F.hok b u e).ex;have z:=F.k2 b o1 u e q1;have z2:=st _ _ z;rw[q] at z2;cases z2;exact z
 k3:=F.k3;fr:=F.fr
theorem Fl.out(F:Fl P w (L::fs) H h a H' B h1)(U:Un fs [] H0 H h0 h)(hL:h0.objs.size<=L)(fr:∀b∈fs,∃o,h0.get? b=some o/\H0 b=none/\∀vs,o.data≠.fields vs):Fl P w fs H0 h0 a H' B h1:=by
 have nL:∀b o,h0.get? b=some o->b∉fs->b∉L::fs:=λb o e hb z=>by
  rcases Zzu.mp z with z | z
  ·rw[z] at e;exact absurd (Zze (Zzn e) hL) (Zxk _)
  ·exact hb z
 have nx:∀b:Addr,b∉([]:List Addr):=λb z=>by cases z
 refine⟨⟨λb o e n hb hx=>?_,λb o e n hb hx=>?_,λb o e n hx=>?_,λb o e hx=>?_,λb xs e=>F.un.tups b xs (U.tups b xs e),λb o u e=>F.un.frzs b o u (U.frzs b o u e),λb ps e=>?_⟩,F.hok,?_,F.free,λb o e n hb=>?_,F.k2,λb o e hb=>?_,fr⟩
 ·exact F.un.keep b o (U.keep b o e n hb hx) (U.free b o e n hx) (nL b o e hb) hx
 ·obtain⟨sl,q⟩:=U.slot b o e n hb hx;obtain⟨sl2,q2⟩:=F.un.slot b _ q (U.free b o e n hx) (Zzl _ hb) hx;exact⟨sl2,q2⟩
 ·obtain⟨o',q⟩:=U.there b o e hx;exact F.un.free b o' q (U.free b o e n hx) hx
 ·obtain⟨o',q⟩:=U.there b o e hx;exact F.un.there b o' q hx
 ·obtain⟨m1,e1⟩:=U.tbls b ps e;obtain⟨m2,e2⟩:=F.un.tbls b _ e1;exact⟨m1++m2,by rw[e2,Array.append_assoc]⟩
 ·cases e:h0.get? a with
  |none=>rfl
  |some o =>
   obtain⟨o',q⟩:=U.there a o e (nx a);rw[F.new] at q;cases q
 ·exact F.k1 b o (U.keep b o e n hb (nx b)) (U.free b o e n (nx b)) (nL b o e hb)
 ·obtain⟨o',q⟩:=U.there b o e (nx b);exact F.k3 b o' q (nL b o e hb)
end
abbrev CXE(P:Program)(w:World):CXT:=λouter H s E e s'=>∃(a:Addr) (cls:Value) (H':Hp) (B:Heap) (t:Addr),e=.ref a/\s'.os=s.os/\AllBare s'.gens/\Fl P w (frs outer) H s.heap a H' B s'.heap/\(Zwl B outer a cls (.ref t) s'.heap/\N2 a s'.heap)/\E cls none H'
abbrev XG:=Value->St->Hp->Prop
def Jm(X:Cx)(G:XG):Prop:=∀(pins:List (Addr×Obj)) (Z:St) (H:Hp) (s:Shared) (e:Value) (s':Shared),Inv X pins Z H s->CXE X.prog X.w X.stack H s (λcls _ H'=>G cls Z H') e s'->X.xe e s'
def uh(X:Cx)(G:XG):Prop:=∀(pins:List (Addr×Obj)) (Z:St) (H:Hp) (s:Shared) (h':Heap) (e:Addr) (cls:Value) (vs:List Value),Inv X pins Z H s->Heap.MadeExcOf s.heap h' e cls vs->G cls Z H->X.xe (.ref e) {s with heap:=h'}
section
variable {E:XK}
theorem Inv.frfl(I:Inv X pins Z H s):∀b∈frs X.stack,∃o,s.heap.get? b=some o/\H b=none/\∀vs,o.data≠.fields vs:=λb hb=>by
 obtain⟨_,o,ho,hd⟩:=I.stack.mem hb;exact⟨o,ho,I.stkFree b hb,hd⟩
theorem rz(I:Inv X pins Z H s):∀b∈frs X.outer,∃o,X.s₀.heap.get? b=some o/\X.H₀ b=none/\∀vs,o.data≠.fields vs:=λb hb=>by
 obtain⟨_,o,ho,hd⟩:=I.ok.funs.mem hb;exact⟨o,ho,I.ok.frf b hb,hd⟩
theorem Op:Jm (Nx (CXE P w) P w K mg base N qual scope f cd A outer s H E) λcls _ H'=>E cls none H':=by
 rintro pins Z H1 s1 e s' I ⟨a,cls,H2,B,t,he,os,bare,F,fl,hE⟩;subst he;refine(Kn.leaving (.ref a) _).with fl.2 (C:=λh'=>Zwl B outer a cls (.ref t) h'/\s'.heap.UpToSlots h') (λQ' hq=>wpAny_leaves_onW (outer:=outer) I.ok.frames rfl fl.1 λh' x y=>hq h' ⟨x,y⟩) λh' z n'=>?_;obtain⟨fl',up⟩:=z;have F1:Fl P w (s.heap.objs.size::frs outer) H1 s1.heap a H2 B h':=F.on fl'.1 up;exact⟨a,cls,H2,B,t,rfl,os.trans I.os,bare,F1.out I.base (Zzx _) (rz I),⟨fl',n'⟩,hE⟩
theorem Inv.flNew{e:Addr}{vs:List Value}(I:Inv X pins Z H s)(hx:Heap.MadeExcOf s.heap h' e cls vs):Fl X.prog X.w (frs X.stack) H s.heap e H (hideAll s.heap (frs X.stack)) h' where
 un:=Un.kept hx.keeps
 hok:=I.hok.kept hx.keeps
 new:=hx.new
 free:=by
  cases q:H e with
  |none=>rfl
  |some u =>
   obtain⟨ob,z⟩:=(I.hok e u q).ex;rw[hx.new] at z;cases z
 k1:=λb o q _ hb=>hideAll_get _ q hb;k2:=λb o u q z=>by
  obtain⟨o1,z1⟩:=(I.hok b u q).ex;have z2:=hx.keeps b o1 z1;rw[z] at z2;cases z2;exact hideAll_get _ z1 λm=>by rw[I.stkFree b m] at q;cases q
 k3:=λb o q hb=>⟨o,hideAll_get _ q hb⟩;fr:=I.frfl
theorem Kd:uh (Nx (CXE P w) P w K mg base N qual scope f cd A outer s H E) λcls _ H'=>E cls none H':=by
 intro pins Z H1 s1 h' e cls vs I hx hE;have F:=I.flNew hx;have n0:N2 e h':=by
  obtain⟨t,he,_⟩:=hx.there;exact⟨_,_,he,rfl,rfl⟩
 refine(Kn.leaving (.ref e) _).with (s:={s1 with heap:=h'}) n0 (C:=λh2=>∃t,Zwl (hideAll s1.heap (frs (envOfC qual scope s.heap.objs.size f cd::outer))) outer e cls (.ref t) h2/\h'.UpToSlots h2) (λQ' hq=>wpAny_leaves_madeW (outer:=outer) (h:=s1.heap) I.ok.frames rfl (λb o q=>of_hideAll _ q) (funFrames_hide I.stack λenv he b hb=>Zwz.mpr ⟨env,he,hb⟩) hx λh2 t fl _ _ up=>hq h2 ⟨t,fl,up⟩) λh2 z n2=>?_;obtain⟨t,fl,up⟩:=z;have F1:Fl P w (s.heap.objs.size::frs outer) H1 s1.heap e H1 _ h2:=F.on fl.1 up;exact⟨e,cls,H1,_,t,rfl,I.os,I.bare,F1.out I.base (Zzx _) (rz I),⟨fl,n2⟩,hE⟩
end
theorem Fun.okX{st:Stmt}{k:Nat}(F:Fun K x qual st f fd)(S:Ce N ps (Ar st))(len:∀vs H Q E,sp vs H Q E->vs.length=ps.length)
  (hbody:∀(cdv:Value) (A:Around) (outer:List Env) (s:Shared) (H:Hp) (vs:List V) (Q:VK) (E:XK),AN k (A.deeper (envOfC qual (Ar st) s.heap.objs.size f cdv))->sp vs H Q E ->
   ∃t,PSs (Nx (CXE P w) P w K mg base N qual (Ar st) f cdv A outer s H E) (C8 st) t/\t {nx:=λ_ H'=>Q .non H',rt:=Q} (Hm N vs) H):Ax P w K mg base (CXE P w) (k+1) f fd ps sp:=by
 obtain⟨oc,od,kV,doc,pm,an,cdv,ct,osl,rfl,lk,hcd⟩:=F.ex;exact qz lk hcd S len λA outer s H vs Q E hr hsp=>hbody cdv A outer s H vs Q E hr hsp
def Lo(P:Program)(w:World)(K:Zzy)(mg:Str->Option Value)(base:Heap)(x:Str)(k:Nat)(ps:List Str)(sp:Sp):Prop :=
 ∃f fd,mg x=some (.ref f)/\Zx9 K (.ref f)=true/\BD K fd ps []/\Ax P w K mg base (CXE P w) k f fd ps sp
def Qd(sp:Sp)(G:XG)(t:TA):TE:=λZ H Q=>t Z H λvs H1=>sp vs H1 Q λcls _ H'=>G cls Z H'
theorem c7{k:Nat}{G:XG}{Q:VK}{vs:List V}(F:Ax X.prog X.w X.K X.mg X.base (CXE X.prog X.w) k f fd ps sp)(hr:AN k X.A)(hb:BD X.K fd ps [])(hp:Jm X G)
  (I:Inv X pins Z H s) (r:AB vs us) (h:sp vs H Q λcls _ H'=>G cls Z H'):wpAny (model X.prog X.w) X.A (call (.ref f) us) (EP X pins Z Q) X.xe s:=by
 have hl:us.length=ps.length:=by rw[<- r.length];exact F.len _ _ _ _ h
 have hb':=hb s us I.kIn (by rw[Zyw];exact hl);rw[Zyw] at hb';refine wpAny_call (codeAny_mono (F.run X.A X.stack s H ⟨us,[]⟩ us vs Q _ hr I.env0 hb' r h) λr s' hq=>?_);cases r with
 |error e=>exact hp pins Z H s e s' I hq
 |ok fl =>
  cases fl with
  |ret u=>exact I.after hq
  |next=>exact False.elim hq
  |brk=>exact False.elim hq
  |cont=>exact False.elim hq
theorem Ch{k:Nat}{G:XG}{p:Pos}(h:Lo X.prog X.w X.K X.mg X.base x k ps sp)(hp:Jm X G)(hr:AN k X.A)(hg:Gl X x)(ha:PA X (e::es) t)(hn:C5 (e::es)=true:=by rfl)(hdb:(x == ("__debug__" : Str))=false:=by decide) :
  PE X (.Call (.Name x p) (e::es) [] pos) (Qd sp G t):=by
 obtain⟨f,fd,hm,hk,hb,F⟩:=h;intro pins s Z H Q I ht;refine wpAny_Call_Name_kw (Kx I hg hm ?_ hdb);refine Zue (h₀:=X.base) I.ok.mod.kin hk (thn (ha pos pins s Z H _ I ht) λus s1 ⟨vs,H1,I1,r,q⟩=>⟨I1.kIn,?_⟩) (B6 (Az hn).1) (C1 (Az hn).2);exact c7 F hr hb hp I1 r q
abbrev Cx.tried(X:Cx)(pn:List (Addr×Obj))(W:Value->Shared->Prop):Cx:={X with pn:=pn,xe:=W}
abbrev Cx.caught(X:Cx)(a:Addr):Cx:={X with A:=X.A.mark (some (.ref a)),calm:=false,xe:=λ_ _=>False}
def Lk(a:Addr)(cls:Value):HO:=.ext λh=>(∃o,h.get? a=some o/\o.cls=cls)/\N2 a h
section
variable {W:Value->Shared->Prop}
theorem Inv.tried(I:Inv X pins Z H s)(W:Value->Shared->Prop):Inv (X.tried (X.pn++pins) W) [] Z H s :=
 ⟨⟨I.ok.mod,I.ok.kind,I.ok.glob,I.ok.blt,I.ok.above,I.ok.inj,I.ok.has,I.ok.cab,I.ok.hd,I.ok.frames,I.ok.stk,I.ok.exf,I.ok.bs,I.ok.bsz,I.ok.noex,I.ok.exfs,I.ok.funs,I.ok.frf⟩,I.os,I.bare,I.base,I.loc,I.cell,I.free,I.freeC,λp hp=>I.pin p (by rw[Zyw] at hp;exact hp),I.hok,I.len⟩
theorem Inv.untried{ps:List (Addr×Obj)}(I:Inv (X.tried (X.pn++pins) W) ps Z H s):Inv X pins Z H s :=
 ⟨⟨I.ok.mod,I.ok.kind,I.ok.glob,I.ok.blt,I.ok.above,I.ok.inj,I.ok.has,I.ok.cab,I.ok.hd,I.ok.frames,I.ok.stk,I.ok.exf,I.ok.bs,I.ok.bsz,I.ok.noex,I.ok.exfs,I.ok.funs,I.ok.frf⟩,I.os,I.bare,I.base,I.loc,I.cell,I.free,I.freeC,λp hp=>I.pin p (Zyk _ hp),I.hok,I.len⟩
theorem Inv.caught(I:Inv X pins Z H s)(a:Addr):Inv (X.caught a) pins Z H s :=
 ⟨⟨I.ok.mod,I.ok.kind,I.ok.glob,I.ok.blt,I.ok.above,I.ok.inj,I.ok.has,I.ok.cab,(λz=>by cases z),I.ok.frames,I.ok.stk,I.ok.exf,I.ok.bs,I.ok.bsz,I.ok.noex,I.ok.exfs,I.ok.funs,I.ok.frf⟩,I.os,I.bare,I.base,I.loc,I.cell,I.free,I.freeC,I.pin,I.hok,I.len⟩
theorem Inv.uncaught(I:Inv (X.caught a) pins Z H s)(ok:X.Ok):Inv X pins Z H s:=⟨ok,I.os,I.bare,I.base,I.loc,I.cell,I.free,I.freeC,I.pin,I.hok,I.len⟩
theorem Inv.lands(I:Inv X pins Z H s)(os:s'.os=s.os)(bare:AllBare s'.gens)(F:Fl X.prog X.w (frs X.stack) H s.heap a H' B s'.heap)(hc:∃o,s'.heap.get? a=some o/\o.cls=cls)(hn:N2 a s'.heap):Inv X pins Z (upd H' a (Lk a cls)) s':=by
 have na:∀b u,H' b=some u->b≠a:=λb u e z=>by rw[z,F.free] at e;cases e
 refine I.call' (ch:=[]) os ⟨F.un.keep,F.un.slot,λb o e n hx=>?_,F.un.there,λb xs e=>?_,λb o u e=>?_,λb ps e=>?_⟩ (λb u e=>?_) bare (λb z=>by cases z)
 ·rw[Ab (λz=>by rw[z,F.new] at e;cases e)];exact F.un.free b o e n hx
 ·have q:=F.un.tups b xs e
  rw[Ab (na b _ q)];exact q
 ·have q:=F.un.frzs b o u e
  rw[Ab (na b _ q)];exact q
 ·obtain⟨more,q⟩:=F.un.tbls b ps e;exact⟨more,by rw[Ab (na b _ q)];exact q⟩
 ·by_cases hb:b=a
  ·subst hb;rw[A1] at e;cases e;obtain⟨o,ho,hcl⟩:=hc;exact⟨⟨⟨o,ho,hcl⟩,hn⟩,⟨o,ho⟩,λh1 h2 ⟨⟨o,e,c⟩,o',vs,e',r⟩ k=>⟨⟨o,k o e,c⟩,o',vs,k o' e',r⟩⟩
  ·rw[Ab hb] at e;exact(F.hok b u e).stay (λc o _ q=>q) (λc q=>by rw[Ab (na c _ q)];exact q) λc xs q=>by rw[Ab (na c _ q)];exact q
theorem Ku{n:Str}{Q:Unit->Shared->Prop}(I:Inv X pins Z H s)(nd:X.N.Nodup)(hi:X.N[i]?=some n)(hl:X.env.scope.names.lookup n=some .local)(h:∀s',Inv X pins (Z.set i none) H s'->Q () s') :
  wpAny M A (do bindName X.env n .none;unbindBehindTheSuite X.env n pos) Q E s:=by
 obtain⟨m,hn,hlk⟩:=I.loc;refine wpAny_nameGoes_keeps (m:=m) hl hn (by rw[I.ok.kind];rfl) λh' v hn' hs=>h _ ?_;have neL:∀b o,X.s₀.heap.get? b=some o->b≠X.env.locals:=λb o e=>Zyv (Zze (Zzn e) I.ok.above);refine⟨I.ok,I.os,I.bare,⟨λb o e n hb hx=>(hs.2 b (neL b o e)).trans (I.base.keep b o e n hb hx),λb o e n hb hx=>?_,I.base.free,λb o e hx=>?_,I.base.tups,I.base.frzs,I.base.tbls⟩,⟨_,hn',λj y v' e1 e2 e3=>?_⟩,λy c e=>?_,I.free,I.freeC,λp hp=>?_,λb u e=>?_,by rw[Zuv];exact I.len⟩
 ·obtain⟨sl,q⟩:=I.base.slot b o e n hb hx;exact⟨sl,(hs.2 b (neL b o e)).trans q⟩
 ·obtain⟨o',q⟩:=I.base.there b o e hx;exact⟨o',(hs.2 b (neL b o e)).trans q⟩
 ·by_cases hj:j=i
  ·subst hj;rw[List.getElem?_set] at e2;split at e2<;>rename_i z
   ·split at e2<;>cases e2
   ·exact absurd rfl z
  ·rw[Zxt (Zza hj)] at e2;obtain⟨u',r',q⟩:=hlk j y v' e1 e2 e3;refine⟨u',r',?_⟩;rcases q with ⟨k,e⟩ | ⟨k,c,e,z⟩
   ·refine .inl ⟨k,?_⟩;have:y≠n:=λe=>hj (Rn nd e1 (e▸hi));simp[this,e]
   ·exact .inr ⟨k,c,e,z.sameBut hs (I.cne y c e)⟩
 ·obtain⟨w',z⟩:=I.cell y c e;exact⟨w',z.sameBut hs (I.cne y c e)⟩
 ·obtain⟨e,n,ne,nf,d⟩:=I.pin p hp;exact⟨(hs.2 p.1 ne).trans e,n,ne,nf,d⟩
 ·refine(I.hok b u e).stay (λc o hc q=>?_) (λ_ q=>q) λ_ _ q=>q;have nc:c≠X.env.locals:=λz=>by
   rcases hc with rfl | hc
   ·rw[z,I.free] at e;cases e
   ·rw[z,I.free] at hc;cases hc
  exact(hs.2 c nc).trans q
end
def AY.lose(D:AY)(i:Nat):AY:={nx:=λZ H=>D.nx (Z.set i none) H,rt:=D.rt,bk:=λZ H=>D.bk (Z.set i none) H,ct:=λZ H=>D.ct (Z.set i none) H}
def km(i:Nat)(fits:Value->Prop)(tb:XG->TS)(ts:Addr->TS):TS:=λD Z H=>tb (λcls Z' H'=>fits cls/\∀a,H' a=none->ts a (D.lose i) (Z'.set i (some (.ref a))) (upd H' a (Lk a cls))) D Z H
theorem A0a{suite:List Stmt}{b₀:Stmt}{c n:Str}{cp hp:Pos}{C0:Addr}{tb:XG->TS}{ts:Addr->TS}{fits:Value->Prop}(nd:X.N.Nodup)(hi:X.N[i]?=some n)(hl:X.env.scope.names.lookup n=some .local)(hst:X.stack=X.env::X.outer)(hfr:X.env.frame=some X.env.locals)
  (hg:Gl X c) (hm:X.mg c=some (.ref C0)) (hf:∀cls,fits cls->exmOne X.K cls (.ref C0)=some true)
  (hb:∀(pn:List (Addr×Obj)) (W:Value->Shared->Prop) (G:XG),Jm (X.tried pn W) G->PSs (X.tried pn W) body (tb G)) (hs:∀a,PSs (X.caught a) (b₀::suite) (ts a)) (hd:(c == ("__debug__" : Str))=false:=by decide) :
  PS X (.Try body [.ExceptHandler (some (.Name c cp)) (some n) (b₀::suite) hp] [] [] pos) (km i fits tb ts):=by
 intro pins s Z H D I h;refine wpAny_Try_except ?_;refine wpAny_mono (hb (X.pn++pins) (λe s'=>∃a cls σ1 H1 s1 H' B t,e=.ref a/\Inv X pins σ1 H1 s1/\s'.os=s1.os/\AllBare s'.gens/\Fl X.prog X.w (frs X.stack) H1 s1.heap a H' B s'.heap/\(Zwl B X.stack a cls (.ref t) s'.heap/\N2 a s'.heap) /\
  fits cls/\∀a,H' a=none->ts a (D.lose i) (σ1.set i (some (.ref a))) (upd H' a (Lk a cls))) _ (λps σ1 H1 s1 e s' I1 ⟨a,cls,H',B,t,he,os,bare,F,fl,q⟩=>⟨a,cls,σ1,H1,s1,H',B,t,he,I1.untried,os,bare,F,fl,q⟩) [] s Z H D (I.tried _) h) (λf s1 q=>?_) (λe s' q=>?_)
 ·cases f with
  |next=>obtain⟨Z',H',I',q⟩:=q;exact FV ⟨Z',H',I'.untried,q⟩
  |brk=>obtain⟨Z',H',I',q⟩:=q;exact⟨Z',H',I'.untried,q⟩
  |cont=>obtain⟨Z',H',I',q⟩:=q;exact⟨Z',H',I'.untried,q⟩
  |ret u=>obtain⟨v,Z',H',I',r,q⟩:=q;exact⟨v,Z',H',I'.untried,r,q⟩
 ·obtain⟨a,cls,σ1,H1,s1,H',B,t,rfl,I1,os,bare,F,fl,hf1,hq⟩:=q;obtain⟨fl,n3⟩:=fl;have fl':=fl;rw[hst] at fl';refine(Kn.noteFrame (.ref a) _).with n3 (C:=λh'=>Heap.HeldW B (X.env::X.outer) a cls (.ref t) X.env.locals h'/\s'.heap.UpToSlots h') (λQ' hq=>wpAny_looks_onW (outer:=X.outer) (by rw[I.ok.frames,hst]) hfr fl' λh' x y=>hq h' ⟨x,y⟩) λh4 z4 n4=>?_;obtain⟨held,up4⟩:=z4;refine(Kn.setFlight (.ref a) none).with (s:={s' with heap:=h4}) n4 (C:=λh'=>Zwl B (X.env::X.outer) a cls (.ref t) h'/\h4.UpToSlots h') (λQ' hq=>wpAny_landsW held λh' x y=>hq h' ⟨x,y⟩) λh5 z5 n5=>?_;obtain⟨fl5,up5⟩:=z5;have F5:=(F.on held.1 up4).on fl5.1 up5;have I5:Inv X pins σ1 H' {s' with heap:=h5}:=I1.call' (ch:=[]) os F5.un F5.hok bare (λb z=>by cases z);refine wpAny_handleBy_cons (codeAny_handlers_test ?_) (by intro z;cases z);refine Kx (X:=X.caught a) (I5.caught a) hg hm ?_ hd;obtain⟨oe,hoe,hoc⟩:=fl5.there;have LT:Looks (model X.prog X.w) h5 (typeOf (.ref a)) cls:=hoc▸(Looks.ld hoe).andThen .now;refine(exm_one I5.kIn LT (hf cls hf1)).here ?_;refine codeAny_handlers_suite_as ?_;refine(Kn.setFlight (.ref a) none).with (s:={s' with heap:=h5}) n5 (C:=λh'=>Zwl B (X.env::X.outer) a cls (.ref t) h'/\h5.UpToSlots h') (λQ' hq=>lands_againW fl5 λh' x y=>hq h' ⟨x,y⟩) λh6 z6 n6=>?_;obtain⟨fl6,up6⟩:=z6;have F6:=F5.on fl6.1 up6;have I6:Inv X pins σ1 (upd H' a (Lk a cls)) {s' with heap:=h6}:=I1.lands os bare F6 fl6.there n6;refine Ls (X:=X.caught a) (I6.caught a) nd hi (.inl hl) (v:=.ref a) rfl (λs7 I7=>?_) (.inr hl);refine wpAny_mono (hs a pins s7 _ _ (D.lose i) I7 (hq a F.free)) (λf s8 q8=>?_) (λe s8 z=>z.elim);cases f with
  |next=>obtain⟨Z',H2,I',q⟩:=q8;exact Ku (I'.uncaught I.ok) nd hi hl λs9 I9=>⟨_,H2,I9,q⟩
  |brk=>obtain⟨Z',H2,I',q⟩:=q8;exact Ku (I'.uncaught I.ok) nd hi hl λs9 I9=>⟨_,H2,I9,q⟩
  |cont=>obtain⟨Z',H2,I',q⟩:=q8;exact Ku (I'.uncaught I.ok) nd hi hl λs9 I9=>⟨_,H2,I9,q⟩
  |ret u=>obtain⟨v,Z',H2,I',r,q⟩:=q8;exact Ku (I'.uncaught I.ok) nd hi hl λs9 I9=>⟨v,_,H2,I9,r,q⟩
def Wl:List Value:=[.type "ValueError",.type "Exception",.type "BaseException",.type "object"]
def Nv(K:Frag)(C:Addr):Bool:=excIn K C Wl "ValueError.__new__"
theorem jf{K:Frag}(Y:K.In h)(z:Nv K C=true) :
  ∃bm N nm q bs hdct sn sub ab col dd k0 k1 k2 k3 k5 mN,h.get? C=some (excClassObj nm q C N bs bm hdct sn sub ab col dd k0 k1 k2 k3 k5 "ValueError.__new__")/\h.Ns N mN/\mN "__init__" = none/\OwnTail h Wl bm:=by
 unfold Nv excIn at z;split at z
 ·rename_i d1 c1 l1 lk;split at z
  ·rename_i C2 b2 a0 a1 a2 a3 nn a5 em es;obtain⟨z,z6⟩:=Zy8.mp z;obtain⟨z,z5⟩:=Zy8.mp z;obtain⟨z,z4⟩:=Zy8.mp z;obtain⟨z,z3⟩:=Zy8.mp z;obtain⟨z1,z2⟩:=Zy8.mp z;have e1:=beq_iff_eq.mp z1;have e2:=beq_iff_eq.mp z2;have e6:=beq_iff_eq.mp z6;subst e1 e2;cases c1 with
   |mk nm1 bs1 mro1 ns1 qn1 hd1 sn1 sub1 ab1 col1 del1 =>
   have e3:del1=false:=by simpa using z3
   have em:mro1=_:=em;subst e3 em;have el:l1=#[a0,a1,a2,a3,some (.builtin "ValueError.__new__"),a5]:=by
    cases l1 with
    |mk l=>exact congrArg Array.mk es
   subst el;exact⟨b2,ns1,nm1,qn1,bs1,hd1,sn1,sub1,ab1,col1,d1,a0,a1,a2,a3,a5,_,Y _ _ lk,.of_isNs (isNs_of_in Y z5),nsMap_none_of_in Y z5 e6,tail_of_in Y z4⟩
  ·cases z
 ·cases z
def Qa(C:Addr)(G:XG)(te:TA):TS:=λD Z H=>te Z H λvs H1=>vs.length<=sizeLine/\G (.ref C) Z H1
theorem D8{G:XG}{ta:TA}{np cpos:Pos}(hm:uh X G)(hc:X.calm=true)(hg:Gl X x)(hmg:X.mg x=some (.ref C))(q:Nv X.K C=true)(ha:PA X [e] ta)(hn:C5 [e]=true:=by rfl)(hd:(x == ("__debug__" : Str))=false:=by decide) :
  PS X (.Raise (some (.Call (.Name x np) [e] [] cpos)) none pos) (Qa C G ta):=by
 intro pins s Z H D I h;obtain⟨bm,N,nm,qn,bs,hdct,sn,sub,ab,col,dd,k0,k1,k2,k3,k5,mN,hC,hN,hni,T⟩:=jf I.ok.mod.kin q;refine wpAny_Raise_call_subT (C:=C) (nm:=nm) (q:=qn) (N:=N) (bs:=bs) (bm:=bm) (hdct:=hdct) (sn:=sn) (sub:=sub) (ab:=ab) (col:=col) (dd:=dd) (k0:=k0) (k1:=k1) (k2:=k2) (k3:=k3) (k5:=k5) F.excBase_ValueError (mN:=mN) (T.hasType F.excBase_ValueError.hasBase) (I.ok.hd hc) (by rw[B6 hn];exact C1 rfl) hni ?_;refine Kx I hg hmg ⟨rfl,?_⟩ hd;rw[B6 hn];have h1:=ha cpos pins s Z H _ I h;rw[B6 hn] at h1;exact Zut (wpAny_mono h1 (λus s2 z0=>by obtain⟨vs,H1,I1,r,hv,hG⟩:=z0;exact ⟨rfl,by rw[<- r.length];exact hv,I1.bk _ _ hC,hN.keeps I1.bk,T.keeps I1.bk,λh' e' hx=>hm pins Z H1 s2 h' e' (.ref C) us I1 hx hG⟩) λ_ _ y=>y)
abbrev TF:=Nat->St->Hp->(Hp->Prop)->Prop
def PF(X:Cx)(es:List Expr)(t:TF):Prop:=∀(pins:List (Addr×Obj)) (s:Shared) (Z:St) (H:Hp) (acc:Str) (Q:VK) (n:Nat),acc.length<=n->Inv X pins Z H s->t n Z H (λH'=>∀z:Str,Q (.str z) H')->wpAny (model X.prog X.w) X.A (joinParts acc (evalEach es X.env)) (EP X pins Z Q) X.xe s
def FJ:TF:=λn _ H K=>n<=1000000/\K H
def X3(k:Nat)(t:TF):TF:=λn Z H K=>n+k<=1000000/\t (n+k) Z H K
def X1(te:TE)(t:TF):TF:=λn Z H K=>te Z H λv H1=>∃y,v=.str y/\n+y.length<=1000000/\t (n+y.length) Z H1 K
def X2(te:TE)(t:TF):TF:=λn Z H K=>te Z H λv H1=>∃y,v=.str y/\(∀c∈y.cps.toList,c<0x110000)/\n+(10*y.length+2)<=1000000/\t (n+(10*y.length+2)) Z H1 K
section
variable {t:TF}{p q:Pos}
theorem Fj(h:n<=1000000):n<=sizeLine:=Zzk h (by decide)
theorem ng:PF X [] FJ:=λpins s Z H acc Q n ha I h=>joinParts_nil ⟨.str acc,H,I.tok _,⟨_,rfl⟩,h.2 acc⟩ (Fj (Zzk ha h.1))
theorem nh(ht:PF X es t):PF X (.Constant (.str x) j p::es) (X3 x.length t):=λpins s Z H acc Q n ha I h=>by
 refine joinParts_cons (Zuf ?_);have hl:(acc++x).length<=n+x.length:=by rw[strLen_append];lia
 exact⟨Fj (Zzk hl h.1),ht pins _ Z H (acc++x) Q _ hl (I.tok _) h.2⟩
theorem A0c(he:PE X e te)(ht:PF X es t):PF X (.FormattedValue e (-1) none p::es) (X1 te t):=λpins s Z H acc Q n ha I h=>by
 refine joinParts_cons (FormattedValue_plain (thn (he pins s Z H _ I h) λu s1 z0=>?_));obtain⟨v,H1,I1,r,y,hv,hy,hq⟩:=z0;subst hv;obtain⟨tk,rfl⟩:=r;have hl:(acc++y).length<=n+y.length:=by rw[strLen_append];lia
 exact formatField_str (λt' tk'=>⟨Fj (Zzk hl hy),ht pins _ Z H1 (acc++y) Q _ hl (I1.tok _) hq⟩) (Fj (by lia))
theorem A0d(he:PE X e te)(ht:PF X es t):PF X (.FormattedValue e 114 none p::es) (X2 te t):=λpins s Z H acc Q n ha I h=>by
 refine joinParts_cons (wpAny_FormattedValue_repr (thn (he pins s Z H _ I h) λu s1 z0=>?_));obtain⟨v,H1,I1,r,y,hv,hc,hy,hq⟩:=z0;subst hv;obtain⟨tk,rfl⟩:=r;have hr:(reprText y).length<=10*y.length+2:=PySem.StrLaws.reprText_len y λc hm=>Zze (hc c hm) (by decide);refine wpAny_pyReprObj_str ?_ (Fj (by lia));have hl:(acc++reprText y).length<=n+(10*y.length+2):=by rw[strLen_append];lia
 exact formatField_str (λt' tk'=>⟨Fj (Zzk hl hy),ht pins _ Z H1 (acc++reprText y) Q _ hl (I1.tok _) hq⟩) (Fj (by lia))
def l9(t:TF):TE:=λZ H Q=>t 0 Z H λH'=>∀z:Str,Q (.str z) H'
theorem nv(h:PF X (e::e2::es) t):PE X (.JoinedStr (e::e2::es) p) (l9 t):=λpins s Z H Q I hq=>JoinedStr_many (h pins s Z H Str.empty Q 0 (Zzx _) I hq)
end
end L2
set_option maxHeartbeats 1000000
namespace L2
open PySem PySem.Spec PySem.Calls PyProof.Rows PySem.W Builtin Builtin.ObjectAttr Builtin.Getset_descriptor
structure Ga(K:Frag)(D:Addr):Prop where
 ga:findIn K (.ref D) "__getattribute__" = some (some (.builtin "BaseException.__getattribute__"))
 gt:findIn K (.ref D) "__getattr__" = some none
 cl:findIn K (.ref D) "__class__" = some (some (.builtin "object.__class__"))
 gs:specialIn K (.builtin "object.__class__") "__get__" = some (some (.builtin "getset_descriptor.__get__"))
 tk:takesIn K (.builtin "object.__class__")=some true
 ob:mroIn K D (.type "object")=some true
 be:mroIn K D (.type "BaseException")=some true
 is:(clsIn K D).isSome=true
def Sk(x D:Addr)(h:Heap):Prop:=∃o,h.get? x=some o/\o.cls=.ref D
theorem Kh{x D:Addr}(p:Sk x D h):Looks M h (typeOf (.ref x)) (.ref D):=by
 obtain⟨o,h1,h2⟩:=p;exact h2▸(Looks.ld h1).andThen .now
section
variable {K:Frag}{x D:Addr}
theorem y0{tp:Value}(Y:K.In s.heap)(p:Sk x D s.heap)(k:Ga K D)(h:R (.ok (.ret (.ref D))) s):codeAny (model prog w) A (.call (.builtin "getset_descriptor.__get__") ⟨[.builtin "object.__class__",.ref x,tp],[]⟩) R s:=by
 obtain⟨h0,g,dr,t,os⟩:=s;have T0:=Kh (M:=model prog w) p;have T1:=looks_mroIn (M:=model prog w) Y k.ob;refine codeAny_call_builtin KF.slot_gs.plain KF.entry_gs
  (KF.slot_gs.check _ _ _ _ _ _ _ _ KF.type_class (KF.args_gs _ _ _) ?_)
 unfold Builtin.«getset_descriptor.__get__» descrGet;rw[dga_obj];refine FU (FV ?_);unfold descrGetter descrCheckInstance descrNameAndClass isInstance;simp only[KF.owner_class];repeat lk
 refine And.intro (Code.quiet_builtin _ (by decide +kernel)) (codeAny_builtin KF.entry_class ?_);unfold Builtin.«object.__class__» shownTypeOf;repeat lk
 exact h
theorem jg{tk:Tok}{Q:Fin->Shared->Prop}(Y:K.In s.heap)(p:Sk x D s.heap)(k:Ga K D)(h:Q (.done (.ret (.ref D))) s):wpAny (model prog w) A (Builtin.«object.__getattribute__» ⟨[.ref x,.str "__class__" tk],[]⟩) Q E s:=by
 obtain⟨h0,g,dr,t,os⟩:=s;have T0:=Kh (M:=model prog w) p;have T1:=looks_findIn (M:=model prog w) Y k.cl;have T2:=looks_specialIn (M:=model prog w) Y k.gs;have T3:=looks_takesIn (M:=model prog w) Y k.tk;have TF:Looks (model prog w) h0 (find (.ref x) (.ref D) "__class__") (.bind (.builtin "getset_descriptor.__get__") (.builtin "object.__class__")) :=
  T1.andThen (Looks.andThen (show Looks (model prog w) h0 (getOf (some (.builtin "object.__class__"))) (some (.builtin "getset_descriptor.__get__")) from T2) ((show Looks (model prog w) h0 (dataDescriptor? (some (.builtin "object.__class__")) (some (.builtin "getset_descriptor.__get__"))) (some (.builtin "getset_descriptor.__get__",.builtin "object.__class__")) from T3.andThen .now).andThen (Looks.tag .now)))
 refine FU (FV ?_);refine FU (FV (FU (T0.at (FU (TF.at ?_)))));show wpAny _ _ (holding [Value.builtin "object.__class__"] (call (.builtin "getset_descriptor.__get__") [.builtin "object.__class__",.ref x,.ref D]) >>= ret) _ _ _;exact FU (wpAny_holding (wpAny_call (y0 (s:=⟨h0,g,dr,t,os⟩) Y p k (FV h))))
theorem ji{nameV:Value}{Q:Unit->Shared->Prop}(Y:K.In s.heap)(p:Sk x D s.heap)(k:Ga K D)(h:Q () s):wpAny (model prog w) A (checkBuiltinCall "BaseException.__getattribute__" ⟨[.ref x,nameV],[]⟩) Q E s:=by
 obtain⟨h0,g,dr,t,os⟩:=s;have T0:=Kh (M:=model prog w) p;have T1:=looks_mroIn (M:=model prog w) Y k.be;have TI:Looks (model prog w) h0 (isInstance (.ref x) (.type "BaseException")) true:=T0.andThen T1;have b1:builtinKind "BaseException.__getattribute__" = some .slot:=by decide +kernel
 have b2:splitId "BaseException.__getattribute__" = some ("BaseException", "__getattribute__"):=by decide +kernel
 have ar:=F.args_bexc_ga (.ref x) nameV;simp only[checkBuiltinCall,b1,b2];refine FU (TI.at ?_);rw[FS (by decide)];exact wpAny_of_eq ar h
theorem jh{Q:Option Value->Shared->Prop}(Y:K.In s.heap)(p:Sk x D s.heap)(k:Ga K D)(h:Q (some (.ref D)) {s with toks:=s.toks+1}):wpAny (model prog w) A (getAttr? (.ref x) "__class__") Q E s:=by
 obtain⟨h0,g,dr,t,os⟩:=s;have T0:=Kh (M:=model prog w) p;have T1:=looks_findIn (M:=model prog w) Y k.ga;have T2:=looks_findIn (M:=model prog w) Y k.gt;unfold getAttr? getAttrBy? getAttrBy;refine FU (wpAny_mkText (FU (wpAny_attempt (wpAny_holding (FU (T0.at (FU (T1.at ?_))))))));show wpAny _ _ (getAttrByItsOwn _ _ _ _ _ _) _ _ _;unfold getAttrByItsOwn;refine FU (show wpAny _ _ (typeLookup (.ref D) "__getattr__") _ _ _ from T2.at ?_);refine FU (wpAny_attempt (wpAny_holding ?_));show wpAny _ _ (boundAndCalled (.builtin "BaseException.__getattribute__") (.ref x) (.str "__class__" t)) _ _ _;unfold boundAndCalled;rw[F.attr_ValueError.ga.bind (.ref x)];refine FU (FV (wpAny_call (codeAny_call_builtin F.attr_ValueError.ga.plain F.entry_bexc_ga (ji Y p k (jg Y p k ?_)))));exact FV (FV h)
theorem Nw(k:Ga K D):KitX K (.ref x) (.ref D) (Sk x D) where
 ty:=λ_ _ _ p=>Kh p
 it:=λM h Y _=>by
  obtain⟨cd,hc⟩:=Zwn.mp k.is;unfold clsIn at hc;split at hc
  ·rename_i ho;exact λA' Q' E' s' kk q=>FU (wpAny_loadPart (kk _ _ (Y _ _ ho)) (FV q))
  ·cases hc
 ne:=λh tp dd its n sl Y htp=>by
  obtain⟨cd,hc⟩:=Zwn.mp k.is;refine Zw5.mpr λq=>?_;obtain rfl:D=tp:=Value.ref.inj (beq_iff_eq.mp q);unfold clsIn at hc;split at hc
  ·rename_i ho;have z:=(Y _ _ ho).symm.trans htp;cases z
  ·cases hc
 ca:=λY p h=>jh Y p k h
end
def ia(K:Frag):List V->Hp->VK->Prop:=λxs H Q=>∃(a D:Addr) (c:V) (b:Bool),xs=[.ref a,c]/\H a=some (Lk a (.ref D))/\Ga K D /\
 ((∃C:Addr,c=.ref C/\kitOne K (.ref D) (.ref C)=some b)\/(∃T:String,c=.ty T/\kitOne K (.ref D) (.type T)=some b)\/∃(tp:Addr) (Cs:List Addr),c=.ref tp/\H tp=some (.tup (Cs.map V.ref))/\kitAny K (.ref D) (Cs.map Value.ref)=some b)/\Q (.bl b) H
theorem Tf:∀{Cs:List Addr} {us:List Value},AB (Cs.map V.ref) us->us=Cs.map Value.ref
 |[],_,.nil=>rfl
 |C::Cs,_,.cons r t=>by
  have e:_=Value.ref C:=r;rw[e,Tf t];rfl
theorem ss:AK X (.builtin "isinstance") (ia X.K):=by
 intro pins s Z H xs us Q I r h;obtain⟨a,D,c,b,rfl,ha,k,hc,q⟩:=h;obtain⟨u,v,rfl,ru,rv⟩:=Ti r;have ru:u=Value.ref a:=ru;subst ru;have p:Sk a D s.heap:=(I.hok a _ ha).1.1;have ne:(Value.ref a)≠.builtin "__main__.__loader__#opaque" := λz=>by cases z
 rcases hc with ⟨C,rfl,e⟩ | ⟨T,rfl,e⟩ | ⟨tp,Cs,rfl,ht,e⟩
 ·have rv:v=Value.ref C:=rv
  subst rv;exact kia_one (Nw k) I.kIn p e ne λtk=>⟨.bl b,H,I.tok tk,rfl,q⟩
 ·have rv:v=Value.type T:=rv
  subst rv;exact kia_one (Nw k) I.kIn p e ne λtk=>⟨.bl b,H,I.tok tk,rfl,q⟩
 ·have rv:v=Value.ref tp:=rv
  subst rv;obtain⟨its,rt,pt,_⟩:=I.tuple (SqT.of ht);have ei:=Tf rt;subst ei;obtain⟨⟨c2,dd,data,sl⟩,ho,hcl,n,hd⟩:=id (show s.heap.IsTuple tp (Cs.map Value.ref).toArray from pt);simp only at hcl hd;subst hcl hd;exact kia_tup (Nw k) I.kIn p ho e ne λtk=>⟨.bl b,H,I.tok tk,rfl,q⟩
end L2
namespace L2
open PySem PySem.Spec PyProof.Rows PySem.W
theorem U8:Jm X (λ_ _ _=>False):=λ_ _ _ _ _ _ _ h=>by
 obtain⟨_,_,_,_,_,_,_,_,_,_,z⟩:=h;exact z.elim
theorem Hi{K0:Frag}(h:X.K=K0):AK X (.builtin "isinstance") (ia K0):=by
 subst h;exact ss
theorem Tc:bootBuiltins "ValueError" = some (.type "ValueError"):=by decide +kernel
def EJ:List V->Hp->VK->Prop:=λxs H Q=>∃i:Int,xs=[.int i]/\i.natAbs<10^577/\Q (.str (Str.ofString (toString i))) H
theorem qc(h:n<10^577):n.log2<1920:=by
 by_cases z:n=0
 ·subst z;decide
 ·rw[Nat.log2_lt z];exact Zze h (by decide +kernel)
theorem Fd:AK X (.type "str") EJ:=by
 intro pins s Z H xs us Q I r h;obtain⟨i,rfl,hi,q⟩:=h;obtain⟨u,rfl,t,rfl⟩:=Gf r;exact P.str_of_int (qc hi) ⟨.str _,H,I.tok _,⟨_,rfl⟩,q⟩
def FK:List V->Hp->VK->Prop:=λxs H Q=>∃(x:Str) (n:Int),xs=[.str x]/\Zxj x=some n/\x.length<=640/\Q (.int n) H
theorem jw:AK X (.type "int") FK:=by
 intro pins s Z H xs us Q I r h;obtain⟨x,n,rfl,hn,hl,q⟩:=h;obtain⟨u,rfl,t,rfl⟩:=Gf r;exact KIN.call_text hn hl ⟨.int _,H,I.tok _,⟨_,rfl⟩,q⟩
def ce:R2:=λx y H Q=>∃(z:Str) (n:Int),x=.str z/\y=.int n/\z.length<=1000/\0<=n/\n<=1000/\∀z':Str,z'.length<=z.length*n.toNat+z.length->Q (.str z') H
end L2
namespace L2
open PySem PySem.Spec PyProof.Rows PySem.W NP
def Kp(g h:Heap):Prop:=∀b o,g.get? b=some o->h.get? b=some o
section
variable {I S:Addr}{P:Nat->Value->Prop}{St:Nat->Heap->Prop}
end
theorem x9{dv:List (Key×Value)}(r:KV kvs dv):dv.map (·.1)=kvs.map (·.1):=by
 induction r with
 |nil=>rfl
 |cons r1 _ ih=>rw[Zz9,Zz9,ih,r1.1]
theorem Wm:∀{ys:List V} {us:List Value},us.length=ys.length->(∀(j:Nat) (v:Value),us[j]?=some v->∃y,ys[j]?=some y/\AC y v)->AB ys us
 |[],[],_,_=>.nil
 |[],_::_,e,_=>by simp at e
 |_::_,[],e,_=>by simp at e
 |y::ys,u::us,e,h=>by
  obtain⟨y',e1,r⟩:=h 0 u rfl;have e1:y=y':=by simpa using e1
  subst e1;exact .cons r (Wm (by simpa using e) λj v hv=>h (j+1) v hv)
def EZ:List V->Hp->VK->Prop:=λxs H Q=>∃(d:Addr) (kvs:List (Key×V)),xs=[.ref d]/\Rd H d (.dK kvs)/\kvs.length<=1000/\∀l,H l=none->Q (.ref l) (upd H l (.lst (kvs.map λp=>kV p.1)))
theorem au(hc:X.calm=true):AK X (.type "list") EZ:=by
 intro pins s Z H xs us Q I r h;obtain⟨d,kvs,rfl,hd,hl,q⟩:=h;obtain⟨u,rfl,ru⟩:=Gf r;cases ru;obtain⟨zd,nd,dv,rel,hdd⟩:=S5 I.hok hd;obtain⟨ep,hat⟩:=hdd.dictAt;have hlen:dv.length=kvs.length:=rel.length.symm;have hkk:=x9 rel;refine kdl_call (kdl_dict (knd:=B5 X.prog X.w) (kvs:=dv) (ep:=ep) nd) (I.ok.hd hc) hat (by rw[hlen];exact Ae hl) λh' tk acc c hk hS hacc=>?_;have hn:H s.heap.objs.size=none:=I.hok.fresh (Zzx _);have hal:acc.toList.length=(kvs.map λp=>kV p.1).length:=by rw[Zxz,hacc.1,hlen,Zzz]
 have vals:AB (kvs.map λp=>kV p.1) acc.toList:=Wm hal λj v hv=>by
  obtain⟨k,x,hx,hkv⟩:=hacc.2 j v (by rw[<- Zw3];exact hv);have e1:=congrArg (λz=>z[j]?) hkk;simp only[Zzw,hx,Zwd] at e1;cases ex:kvs[j]? with
  |none=>rw[ex] at e1;cases e1
  |some y =>
   rw[ex] at e1;have e2:k=y.1:=Zzm e1;subst e2;exact⟨kV y.1,by rw[Zzw,ex];rfl,ze hkv⟩
 refine⟨.ref s.heap.objs.size,_,I.laidF (t':=tk) (o:=.lst (kvs.map λp=>kV p.1)) (λb o eb=>hk b o eb) (λb o eb=>Zyv (Zzn eb)) hn ⟨?_,acc.toList,c,vals,?_⟩,rfl,q _ hn⟩
 ·rw[Zzz];exact Ae hl
 ·rw[Array.toArray_toList];exact hS
end L2
namespace L2
open PySem PySem.Spec PyProof.Rows
end L2
namespace NP
open PySem L2
def nk(j:Nat):Key:=Zvb (j:Int)
end NP
namespace L2
open PySem PySem.Spec PyProof.Rows PySem.W
end L2
namespace NP
open PySem L2
end NP
set_option maxHeartbeats 4000000
namespace L2
open PySem PySem.Spec PyProof.Rows
def FL:V->List V->Hp->VK->Prop:=λx vs H Q=>∃(sep:Str) (l:Addr) (xs:List Str) (B:Nat),x=.str sep/\vs=[.ref l]/\H l=some (.lst (xs.map V.str))/\(∀y∈xs,y.length<=B)/\xs.length*B+xs.length*sep.length<=16777216/\Q (.str (Str.join sep xs)) H
theorem G7{sep:Str}{B:Nat}{xs:List Str}(h:∀y∈xs,y.length<=B):(Str.join sep xs).length<=xs.length*B+xs.length*sep.length:=by
 rw[<- Zuy,size_glued];have h1:=StrLaws.sumLen_le xs h;have h2:(xs.length - 1)*sep.length<=xs.length*sep.length:=Nat.mul_le_mul_right _ (Nat.sub_le _ _);lia
theorem Q4:∀{xs:List Str} {us:List Value},AB (xs.map V.str) us->∃l:List (Str×Tok),strValues l=us/\l.map (·.1)=xs
 |[],_,.nil=>⟨[],rfl,rfl⟩
 |x::xs,u::us,.cons r t=>by
  obtain⟨l,h1,h2⟩:=Q4 t;obtain⟨tk,rfl⟩:=r;exact⟨(x,tk)::l,by rw[<- h1];rfl,by rw[<- h2];rfl⟩
theorem Je:MtM X "str.join" FL:=by
 intro pins s Z H x vs v us Q I rx hv h;obtain⟨sep,l,xs,B,rfl,rfl,hH,hB,hz,q⟩:=h;obtain⟨tk,rfl⟩:=rx;obtain⟨u,rfl,ru⟩:=hv.one;cases ru;obtain⟨z,its,n,r,hlx,e⟩:=I.lstM hH;obtain⟨ps,rfl,hps⟩:=Q4 r;refine call_meets F.slot_str_join (typeIs_str s sep tk) F.entry_str_join (F.args_str_join_2 _ _) (meets_str_join_list sep tk l ps (by rw[hps];exact StrLaws.joinFits hB hz)) ⟨⟨_,e,rfl,n,rfl⟩,?_⟩;have fin:∀t,(EP X pins Z Q) (.str (Str.join sep xs) t) s:=λt=>⟨.str (Str.join sep xs),H,I,⟨t,rfl⟩,q⟩;have fin2:∀t t',(EP X pins Z Q) (.str (Str.join sep xs) t) {s with toks:=t'}:=λt t'=>⟨.str (Str.join sep xs),H,I.tok _,⟨t,rfl⟩,q⟩;have hjl:(Builtin.Str.glued sep xs).length<=sizeLine:=by
  rw[Zuy,sizeLine_eq];exact Zzk (G7 hB) hz
 subst hps;match ps with
 |[]=>exact⟨hjl,fin2 _ _⟩
 |[p]=>exact fin p.2
 |p::p2::r2 =>
  have e2:=Zuy sep ((p::p2::r2).map (·.1));have f3:=fin2 s.toks (s.toks+1);rw[<- e2] at f3;exact⟨hjl,f3⟩
section
variable {I:Addr}{G:Array GenState->Array GenState->Prop}{St:Nat->Shared->Prop}
end
end L2
namespace L2
open PySem PySem.Spec PyProof.Rows PySem.W NP
end L2
namespace L2
open PySem PySem.Spec PyProof.Rows
end L2
namespace L2
open PySem PySem.Spec PyProof.Rows PySem.W
theorem AN.z{k:Nat}(h:AN k A)(e:j<=k:=by decide):AN j A:=h.mono e
end L2
namespace L2
open PySem PySem.Spec PyProof.Rows PySem.W NP
def bu(ta:TE):TT:=λZ H Q=>ta Z H λx H'=>∃a xs,x=.ref a/\H' a=some (.tup xs)/\Q (!xs.isEmpty) H'
def ER:V->List V->Hp->VK->Prop:=λx vs H Q=>∃(l:Addr) (xs:List Bool) (n:Nat),x=.ref l/\vs=[.bl true]/\H l=some (.lst (xs.map V.bl))/\xs[n]?=some true/\(∀m,m<n->xs.getD m false=false)/\Q (.int n) H
theorem Q6:∀{xs:List Bool} {us:List Value},AB (xs.map V.bl) us->∀j (hj:j<us.length),eqU (.bl true) us[j]=xs.getD j false
 |[],_,.nil,j,hj=>absurd hj (Zvk _)
 |x::xs,u::us,.cons r t,0,hj=>by
  cases r;cases x<;>rfl
 |x::xs,u::us,.cons r t,j+1,hj=>Q6 t j (Zw8 hj)
theorem Uv:∀xs:List Bool,(xs.map V.bl).all Gj=true
 |[]=>rfl
 |x::xs=>by rw[Zz9,Zwu,Uv xs];rfl
theorem ir:MtM X "list.index" ER:=by
 intro pins s Z H x vs v us Q I rx rv h;obtain⟨l,xs,j,rfl,rfl,hH,hy,hno,q⟩:=h;cases rx;obtain⟨u,rfl,ru⟩:=rv.one;obtain⟨z,its,n,r,hl,e⟩:=I.lstM hH;rw[Zzz] at hl z;have hj:j<xs.length:=(Zzb.mp hy).1;have hs:its.toArray.size=xs.length:=by rw[Zzs,hl]
 rw[sizeLine_eq] at z;refine call_meets F.slot_list_index ⟨_,e,rfl⟩ F.entry_list_index (F.args_list_index_2 _ _) (SeqAt.list_indexAt l its.toArray n none #[] u (eqU (.bl true)) j (by lia) (by lia) ?_ (λm hm hlt=>?_)) ⟨e,λw hw=>G5 ru rfl r (Uv xs) w (by simpa using hw),?_⟩
 ·rw[Zvx,Q6 r,Zz8,hy];rfl
 ·rw[Zvx,Q6 r];exact hno m hlt
 ·exact⟨.int _,H,I.tok _,⟨_,rfl⟩,q⟩
theorem T7:entryFor table "proto.unchain" = some Builtin.«proto.unchain»:=entryFor_of_fast (by kernel_rfl)
theorem gz{v:Value}(n:N2 ea s.heap)(hq:Q .none s):wpAny (model prog w) A (runValue (.builtin "proto.unchain" ⟨[v,.ref ea,.ref ea,.bool false],[]⟩)) Q E s:=by
 obtain⟨o,vs,h1,h2,h3⟩:=n;refine wpAny_runValue (codeAny_builtin T7 ?_);show wpAny _ _ (field (.ref ea) 2 >>= _) _ _ s;refine FU (wpAny_field h1 h2 h3 ?_);exact FV hq
theorem Ub{it l:Addr}{xs}{Q:Option Value->Shared->Prop}(hh:A.handled=some (.ref ea))(n:N2 ea s.heap)(st:s.heap.IsListIter it l i)(hl:s.heap.IsList l xs)(hx:xs[i]?=none)
  (hq:∀h',Heap.ExtBut it s.heap h'->Q none {s with heap:=h'}):wpAny (model prog w) A (pyNext (.ref it)) Q E s:=by
 obtain⟨oi,ei,ci,di⟩:=id st;obtain⟨ol,el,_,nl,dl⟩:=hl;have nea:ea≠it:=λz=>by
  obtain⟨o,vs,h1,h2,h3⟩:=n;rw[z,ei] at h1;cases h1;rw[di] at h2;cases h2;cases h3
 unfold pyNext;refine FU (wpAny_attempt (wpAny_callSpecial?_slot (name:=Str.ofString "__next__") st.typeIs slot_listiter_next (wpAny_call_entry slot_listiter_next st.typeIs entry_listiter_next ?_ (args_listiter_next _))));show wpAny _ _ (field (.ref it) 0 >>= _) _ _ s;refine FU (wpAny_field ei di (x:=.ref l) rfl ?_);show wpAny _ _ (if (Value.ref l == Value.none)=true then _ else _) _ _ s;rw[FS (λz:(Value.ref l == Value.none)=true=>Zzd z)];show wpAny _ _ (field (.ref it) 1 >>= _) _ _ s;refine FU (wpAny_field ei di (x:=.int i 0) rfl ?_);show wpAny _ _ (seqItems? (.ref l) >>= _) _ _ s;refine FU (wpAny_seqItems el dl ?_);simp only[hx,Zxq];refine FU (wpAny_rule (FU (wpAny_setField ei di (by simp) ?_)));show wpAny _ _ (newExc (.type "StopIteration") [] >>= _) _ _ _
 refine FU ?_;simp only[newExc,newTuple];refine FU (wpAny_newObj_type ?_ (by size_fits));refine FU (m:=firstArgMember _ _) (wpAny_of_eq (a:=Value.none) (by first | rfl | (simp only[firstArgMember];rfl)) ?_);refine wpAny_newObj_type ?_ (by size_fits);simp only[raiseNew];refine FU (wpAny_handled ?_);rw[show A.in1.handled=some (.ref ea) from hh];have n1:N2 ea (s.heap.update it (Obj.mapFields λx=>x.setIfInBounds 0 Value.none)):=by
  obtain⟨o,vs,h1,h2,h3⟩:=n;exact⟨o,vs,(Zyt _ _ (Zza nea)).trans h1,h2,h3⟩
 have eb0:Heap.ExtBut it s.heap (s.heap.update it (Obj.mapFields λx=>x.setIfInBounds 0 Value.none)):=(Zum ..).extBut;generalize (s.heap.update it (Obj.mapFields λx=>x.setIfInBounds 0 Value.none))=h1 at n1 eb0 ⊢;have n2:N2 ea (h1.push {cls:=Value.type "tuple",data:=Data.seq #[]}):=by
  obtain⟨o,vs,e1,e2⟩:=n1;exact⟨o,vs,Zzv _ e1,e2⟩
 have eb2:=eb0.push {cls:=Value.type "tuple",data:=Data.seq #[]};generalize (h1.push {cls:=Value.type "tuple",data:=Data.seq #[]})=h2 at n2 eb2 ⊢;have ne:ea≠h2.objs.size:=λz=>by
  obtain⟨o,vs,e1,_⟩:=n2;have:=Zzn e1;rw[z] at this;exact absurd this (Zxk _)
 dsimp only;have hc:(Value.ref ea != Value.ref h2.objs.size)=true:=by simpa using ne
 rw[FT hc];have n3:∀o,N2 ea (h2.push o):=λo=>by
  obtain⟨o',vs,e1,e2⟩:=n2;exact⟨o',vs,Zzv _ e1,e2⟩
 refine FU (wpAny_holding (gz (n3 _) ?_));show wpAny _ _ (setField (.ref h2.objs.size) 2 (.ref ea) >>= _) _ _ _;refine FU (wpAny_setField (Zzh _ rfl) rfl (by rw[Array.size_append];exact Zze (show 2<6 by decide) (Zvz _ _)) ?_);refine wpAny_throw (FU (wpAny_isInstance (T := "StopIteration") (b:=true) ⟨_,Zxn _ (Zzh _ rfl) (Obj.isFreed_of_fields (Obj.data_mapFields rfl _)),Obj.cls_mapFields ..⟩ isSubtype_stop ?_));refine FV (hq _ λb o hb e=>?_);have e2:=eb2 b o hb e;have nb:h2.objs.size≠b:=λz=>by
  have:=Zzn e2;rw[z] at this;exact absurd this (Zxk _)
 exact(Zyt _ _ nb).trans (Zzv _ e2)
structure zj(P:Program)(w:World)(K:Frag)(tg:Expr)(J:It)(fp:List Addr)(it:Addr)(tn:Nat->Heap->Prop)(ea:Addr):Prop where
 obj:∀i h,tn i h->∀b∈fp,∃o,h.get? b=some o/\∀v,o.data≠.cell v
 keep:∀i h h',tn i h->(∀b∈fp,∀o,h.get? b=some o->h'.get? b=some o)->tn i h'
 item:∀(X:Cx),X.prog=P->X.w=w->X.K=K->X.A.handled=some (.ref ea)->∀(i:Nat) (pins:List (Addr×Obj)) (s:Shared) (Z:St) (H:Hp) (E:Value->Shared->Prop),Inv X pins Z H s->(∀b∈fp,Ge X pins H b)->tn i s.heap->J.go i H->wpAny (model P w) X.A (pyNext (.ref it)) (λr s1=>∃u,r=some u/\wpAny (model P w) X.A (letOwnedTupleGo tg (.ref it) u) (λ_ s2=>∃x H',Inv X pins Z H' s2/\AC x u/\J.yld i H x H'/\tn (i+1) s2.heap/\∀b∈fp,H' b=none) E s1) E s
 done:∀(X:Cx),X.prog=P->X.w=w->X.K=K->X.A.handled=some (.ref ea)->∀(i:Nat) (pins:List (Addr×Obj)) (s:Shared) (Z:St) (H:Hp) (E:Value->Shared->Prop),Inv X pins Z H s->(∀b∈fp,Ge X pins H b)->tn i s.heap->J.stop i H->wpAny (model P w) X.A (pyNext (.ref it)) (λr s1=>r=none/\Inv X pins Z H s1) E s
 self:∀(A:Around) (i:Nat) (s:Shared) (Q:Value->Shared->Prop) (E:Value->Shared->Prop),tn i s.heap->Q (.ref it) s->wpAny (model P w) A (pyIter (.ref it)) Q E s
def yx(ea a:Addr)(xs:List V):It:=⟨λi H=>H a=some (.lst xs)/\i<xs.length,λi H x H'=>H'=H/\xs[i]?=some x,λi H=>(H a=some (.lst xs)/\∃cls,H ea=some (Lk ea cls))/\xs.length<=i⟩
theorem A0u(ea a:Addr)(xs:List V):Si (yx ea a xs) xs.length (λi x=>xs[i]?=some x) (λH=>H a=some (.lst xs)/\∃cls,H ea=some (Lk ea cls)):=⟨λ_ _ h o=>⟨o.1,h⟩,λ_ _ _ _ _ _ y=>y,λ_ o=>⟨o,Zzx _⟩⟩
theorem Z2{K:Frag}(ea a it:Addr)(xs:List V):zj P w K tg (yx ea a xs) [it] it (λi h=>h.IsListIter it a i) ea where
 obj:=(Ct (P:=P) (w:=w) (K:=K) (tg:=tg) a it).obj
 keep:=(Ct (P:=P) (w:=w) (K:=K) (tg:=tg) a it).keep
 item:=λX hP hw hK hc i pins s Z H E I hf st hg=>by
  subst hP hw hK;obtain⟨ha,hi⟩:=hg;have hx:xs[i]?=some xs[i]:=Zzp hi;obtain⟨its,rv,p,_⟩:=I.list (SqL.of ha);obtain⟨u,hu,ru⟩:=rv.get hx;obtain⟨f0,f1,_,f3,f4,f5⟩:=hf it (by simp);refine wpAny_pyNext_list_item st p.isList (x:=u) (by simpa using hu) λh2 st2 sb=>?_;have I2:Inv X pins Z H {s with heap:=h2}:=I.turned (t':=s.toks) (λb o hb e=>(sb.2 b hb).trans e) f0 f1 f3 f4 f5;obtain⟨o,e,c,d⟩:=id st2;exact⟨u,rfl,Uh (s:={s with heap:=h2}) e c d (by decide) ⟨xs[i],H,I2,ru,⟨rfl,hx⟩,st2,λb hb=>(hf b hb).1⟩⟩
 done:=λX hP hw hK hc i pins s Z H E I hf st hg=>by
  subst hP hw hK;obtain⟨⟨ha,cls,he⟩,hi⟩:=hg;obtain⟨its,rv,p,_⟩:=I.list (SqL.of ha);obtain⟨f0,f1,_,f3,f4,f5⟩:=hf it (by simp);have hl:=rv.length;exact Ub hc (I.hok ea _ he).1.2 st p.isList (by simp;lia) λh2 eb=>⟨rfl,I.turned (t':=s.toks) (λb o hb e=>eb b o hb e) f0 f1 f3 f4 f5⟩
 self:=(Ct (P:=P) (w:=w) (K:=K) (tg:=tg) a it).self
theorem Yq
  {it:Addr} {tn:Nat->Heap->Prop} {J:It} {Q:VK} {RR:Value->Addr->Result->Shared->Prop}
  (hc:X.A.handled=some (.ref ea)) (S:G0 X.N X.env.scope sc own cap) (hown:Wj own.length g)
  (cl1:∀x c,cl.lookup x=some c->X.env.cells.lookup x=some c) (cl2:∀x,(x,Zyx)∈sc.names->∃c,cl.lookup x=some c)
  (hb:∀cl C s H fp pins,PG (AD X sc own cap cl C s H fp pins) tg g/\PTs (AD X sc own cap cl C s H fp pins) ifs tt/\PE (AD X sc own cap cl C s H fp pins) elt te)
  (I:Inv X pins Z H s) (T:zj X.prog X.w X.K tg J fp it tn ea) (st:tn 0 s.heap) (f:∀b∈fp,Ge X pins H b)
  (W:Nat->Nat->List V->Hp->Prop) (w0:∃m,W 0 m [] H)
  (turn:∀i m acc H,W i m acc H->acc.length<=sizeLine/\((J.stop i H/\∀p,H p=none->Q (.ref p) (upd H p (.lst acc)))\/(J.go i H/\acc.length<sizeLine/\∃N:List V->Hp->Prop,(∀acc' H',N acc' H'->∃m',m'<m/\W (i+1) m' acc' H')/\∀x H',J.yld i H x H'->g x (E6 own cap Z) H' λσ2 H2=>tt σ2 H2 λb H3=>if b=true then te σ2 H3 λy H4=>N (acc++[y]) H4 else N acc H3)))
  (hRR:∀D C H' s',Inv X pins Z H' s'->(∃m,s'.heap.Ns C m)->Ge X pins H' C->Q (.ref D) H'->RR (.ref D) C (.ok .next) s') :
  wpAny (model X.prog X.w) X.A (newList []) (λacc s₃=>wpAny (model X.prog X.w) X.A (newFunctionEnv sc X.env.globals cl [] X.env.qual none .none (some X.env)) (λcenv s₄ =>
   codeAny (model X.prog X.w) X.A (.compStart (.ListComp elt [⟨tg,iter,ifs,0⟩] sc pos) 0 (.ref it) acc {cenv with scope:=relabel sc X.env}) (RR acc cenv.locals) s₄) E s₃) E s:=by
 refine wpAny_newObj_type (wpAny_newFunctionEnv S.nocell (by intro y hy;simp at hy) (λh₁ hns₁ hsb₁=>?_) S.kind);dsimp only at hns₁ hsb₁ ⊢;generalize hH2:s.heap.push {cls:=.type "list",dict:=none,data:=.seq ([]:List Value).toArray}=H2 at hns₁ hsb₁ ⊢;have hCs:H2.objs.size=s.heap.objs.size+1:=by rw[<- hH2,Zy2]
 have hDC:s.heap.objs.size≠H2.objs.size:=by lia
 have hCle:s.heap.objs.size<=H2.objs.size:=by lia
 have old:∀b o,s.heap.get? b=some o->h₁.get? b=some o:=λb o e=>by
  exact hsb₁.extBut b o (Av (Zzn e) hCle) (Zzv _ (hH2▸Zzv _ e))
 have hacc:h₁.get? s.heap.objs.size=some {cls:=.type "list",data:=.seq ([]:List Value).toArray 0}:=hsb₁.extBut _ _ hDC (Zzv _ (hH2▸Zzh _ rfl));have live:∀b∈fp,b<s.heap.objs.size:=λb hb=>by
  obtain⟨o,e,_⟩:=T.obj _ _ st b hb;exact Zzn e
 have ok:=rn (C:=H2.objs.size) S cl1 cl2 I f live hCle;have hDst:s.heap.objs.size∉frs X.stack:=λz=>by
  rcases Zzu.mp (I.stkSub _ z) with q | q
  ·exact Av I.lt (Zzx _) q.symm
  ·exact I.nofs (Zzx _) q
 have fpX:∀(H':Hp) (pl:List (Addr×Obj)),(∀b∈fp,H' b=none)->(∀p∈pl,∀b∈fp,p.1≠b)->∀b∈fp,Ge (AD X sc own cap cl H2.objs.size s H fp pins) pl H' b:=λH' pl hn hp b hb=>by
  obtain⟨f0,f1,f2,f3,f4,f5⟩:=f b hb;refine⟨hn b hb,λz=>?_,λz=>?_,.inl hb,λx c e=>f4 x c (cl1 x c e),λp hpp=>?_⟩
  ·exact Av (live b hb) hCle z
  ·rcases Zzu.mp (I.stkSub b z) with q | q
   ·exact f1 q
   ·exact f2 q
  ·rcases Zz2.mp hpp with q | q
   ·exact f5 p q
   ·exact hp p q b hb
 have loop:∀s₃:Shared,s₃={s with heap:=h₁,toks:=s.toks+([]:List (Str×Value)).length} ->
   codeAny (model X.prog X.w) X.A (.compLoop (.ListComp elt [⟨tg,iter,ifs,0⟩] sc pos) 0 (.ref it) (.ref s.heap.objs.size) (compEnvC sc cl H2.objs.size X.env))
    (RR (.ref s.heap.objs.size) H2.objs.size) s₃:=by
  rintro s₃ rfl;obtain⟨m0,w0⟩:=w0;obtain⟨hg,ht,he⟩:=hb cl H2.objs.size s H fp pins;have I0:Inv (AD X sc own cap cl H2.objs.size s H fp pins) [] (E6 own cap Z) H {s with heap:=h₁,toks:=s.toks+([]:List (Str×Value)).length}:=ai S cl1 cl2 I ok hCle hns₁ old;refine Gk (λn s'=>∃i acc its nn H',Inv (AD X sc own cap cl H2.objs.size s H fp pins) [] (E6 own cap Z) H' s'/\tn i s'.heap/\(∀b∈fp,H' b=none) /\
   s'.heap.get? s.heap.objs.size=some {cls:=.type "list",data:=.seq its.toArray nn}/\AB acc its/\H' s.heap.objs.size=none/\W i n acc H') ?_ m0
   ⟨0,[],[],0,H,I0,T.keep _ _ _ st (λb _ o e=>old b o e),λb hb=>(f b hb).1,hacc,.nil,I.hok.fresh (Zzx _),w0⟩
  rintro n s3 ⟨i,acc,its,nn,H3,I3,st3,fr3,hD3,rv3,hDn,w3⟩;obtain⟨hz,hcase⟩:=turn i n acc H3 w3;have hpl:∀p∈[((s.heap.objs.size:Addr),({cls:=.type "list",data:=.seq its.toArray nn}:Obj))],∀b∈fp,p.1≠b:=λp hp b hb z=>by
   have e:p=_:=Zzr.mp hp;rw[e] at z;exact Av (live b hb) (Zzx _) z.symm
  have I3':Inv (AD X sc own cap cl H2.objs.size s H fp pins) [((s.heap.objs.size:Addr),({cls:=.type "list",data:=.seq its.toArray nn}:Obj))] (E6 own cap Z) H3 s3:=I3.pins_of λp hp=>by
   have e:p=_:=Zzr.mp hp;subst e;exact⟨hD3,hDn,hDC,hDst,λv z=>by cases z⟩
  rcases hcase with ⟨stop,fin⟩ | ⟨go,hlt,N,hN,step⟩
  ·refine thn (T.done (AD X sc own cap cl H2.objs.size s H fp pins) rfl rfl rfl hc i _ s3 _ H3 _ I3' (fpX H3 _ fr3 hpl) st3 stop) λr s4 z0=>?_;obtain⟨hr,I4⟩:=z0;subst hr;have hD4:=(I4.pin (_,_) (Zzg _ (Zzr.mpr rfl))).1;obtain⟨J1,J2,J3⟩:=Wa I f hCle (Zzx _) hDC I4 hDn hD4 rv3 hz;exact hRR _ _ _ _ J1 J2 J3 (fin _ hDn)
  ·refine thn (T.item (AD X sc own cap cl H2.objs.size s H fp pins) rfl rfl rfl hc i _ s3 _ H3 _ I3' (fpX H3 _ fr3 hpl) st3 go) λr s4 z0=>?_;obtain⟨u,hr,h4⟩:=z0;subst hr;refine thn h4 λ_ s5 z0=>?_;obtain⟨x,H5,I5,r5,y5,st5,fr5⟩:=z0;have I5':=I5.pinned (fpX H5 _ fr5 hpl) (T.obj _ _ st5);refine thn (hg _ s5 _ H5 x u _ I5' r5 (hown _ _ _ _ (step x H5 y5))) λ_ s6 z0=>?_;obtain⟨σ6,H6,I6,⟨hx1,hx2⟩,q6⟩:=z0;refine thn (ht _ s6 σ6 H6 _ I6 q6) λb s7 z0=>?_;obtain⟨H7,I7,q7⟩:=z0;have wk:∀{H7:Hp} {s7:Shared} {pl:List (Addr×Obj)},Inv (AD X sc own cap cl H2.objs.size s H fp pins) pl σ6 H7 s7->Inv (AD X sc own cap cl H2.objs.size s H fp pins) pl (E6 own cap Z) H7 s7:=λI=>I.weak hx1.symm λj v e=>by
    rw[hx2 j (Kz e).1];exact e
   have stay:∀{H7:Hp} {s7:Shared} {σ7:St},Inv (AD X sc own cap cl H2.objs.size s H fp pins) ([((s.heap.objs.size:Addr),({cls:=.type "list",data:=.seq its.toArray nn}:Obj))]++Im fp s5.heap) σ7 H7 s7 ->
     tn (i+1) s7.heap/\(∀b∈fp,H7 b=none)/\s7.heap.get? s.heap.objs.size=some {cls:=.type "list",data:=.seq its.toArray nn}/\H7 s.heap.objs.size=none:=λ{H7 s7 σ7} I7=>by
    refine⟨T.keep _ _ _ st5 λb hb o e=>(I7.pin (b,o) (Zzg _ (Zzg _ (Db hb e)))).1,λb hb=>?_,?_,?_⟩
    ·obtain⟨o,e,d⟩:=T.obj _ _ st5 b hb;exact(I7.pin (b,o) (Zzg _ (Zzg _ (Db hb e)))).2.1
    ·exact(I7.pin (_,_) (Zzg _ (Zyk _ (Zzr.mpr rfl)))).1
    ·exact(I7.pin (_,_) (Zzg _ (Zyk _ (Zzr.mpr rfl)))).2.1
   cases b with
   |false =>
    rw[FS Zzd] at q7 ⊢;obtain⟨m',hm,w7⟩:=hN _ _ q7;obtain⟨a1,a2,a3,a4⟩:=stay I7;exact⟨m',hm,i+1,acc,its,nn,H7,(wk I7).pins_of (λp hp=>absurd hp (by simp)),a1,a2,a3,rv3,a4,w7⟩
   |true =>
    rw[FT rfl] at q7 ⊢;refine thn (he _ s7 σ6 H7 _ I7 q7) λy s8 z0=>?_;obtain⟨v,H8,I8,r8,n8⟩:=z0;obtain⟨m',hm,w8⟩:=hN _ _ n8;obtain⟨a1,a2,a3,a4⟩:=stay I8;have hlen:=rv3.length;refine call_meets F.slot_list_append ⟨_,a3,rfl⟩ F.entry_list_append (F.args_list_append_2 _ _) (Zv6 s.heap.objs.size its.toArray nn y (by rw[Zzs];lia)) ⟨a3,?_⟩;obtain⟨n',q⟩:∃n',(s8.heap.update s.heap.objs.size (Obj.mapSeq (·.push y))).get? s.heap.objs.size=some {cls:=.type "list",data:=.seq (its++[y]).toArray n'}:=by
     have q:=Zv0 a3 (·.push y);have e:(its.toArray.push y)=(its++[y]).toArray:=by simp
     rw[<- e];exact⟨_,q⟩
    have I9:=(wk I8).pins_of (pins':=Im fp s5.heap) λp hp=>(wk I8).pin p (Zzg _ (Zzg _ hp));have kk:∀b o,b≠s.heap.objs.size->s8.heap.get? b=some o->(s8.heap.update s.heap.objs.size (Obj.mapSeq (·.push y))).get? b=some o:=λb o hb e=>(Zyt s8.heap (Obj.mapSeq (·.push y)) (Zza hb)).trans e;refine⟨m',hm,i+1,acc++[v],its++[y],n',H8,(I9.pins_of (pins':=[]) λp hp=>absurd hp (by simp)).turned (it:=s.heap.objs.size) kk a4 hDC (.inr (Zzx _)) (λx c e z=>?_) (λp hp z=>?_),T.keep _ _ _ a1 λb hb o e=>kk b o (λz=>?_) e,a2,q,rv3.append (.cons r8 .nil),a4,w8⟩
    ·have e:=cl1 x c e
     obtain⟨w',o,ho,_⟩:=I.cell x c e;exact Av (Zzn ho) (Zzx _) z
    ·have hp:p∈(X.pn++pins)++[]:=hp
     rw[Zyw] at hp;exact Av (Zzn (I.pin p hp).1) (Zzx _) z
    ·exact Av (live b hb) (Zzx _) z
 exact codeAny_compStart_list (loop _ rfl) (T.self _ 0 _ _ _ (T.keep _ _ _ st λb _ o e=>old b o e) (loop _ rfl))
def Yf(ea:Addr)(te:TE):TI:=λZ H R=>te Z H λx H1=>∃a xs,x=.ref a/\H1 a=some (.lst xs)/\R (yx ea a xs) H1
theorem ny{ti:TE}(hc:X.A.handled=some (.ref ea))(S:G0 X.N X.env.scope sc own cap)(hown:Wj own.length g)(hi:PE X iter ti)
  (hb:∀cl C s H fp pins,PG (AD X sc own cap cl C s H fp pins) tg g/\PTs (AD X sc own cap cl C s H fp pins) ifs tt/\PE (AD X sc own cap cl C s H fp pins) elt te)
  (hs:∀x,foldedSetIterable iter X.env x=pure x:=by intro _;rfl):PE X (.ListComp elt [⟨tg,iter,ifs,0⟩] sc pos) (X5 own cap (Yf ea ti) g tt te):=by
 intro pins s Z H Q I h;obtain⟨cl,hcl,cl1,cl2⟩:=Dy (env:=X.env) (scope:=sc) λy hy hf=>I.ok.has y.1 (S.free y hy hf);rw[eval_ListComp];refine wpAny_comprehension_free (use:=none) rfl hs hcl S.kind S.names (thn (hi pins s Z H _ I h) λxv s1 h1=>?_);obtain⟨x,H1,I1,r1,a,xs,e,ha,W,w0,turn⟩:=h1;subst e;cases r1;obtain⟨its,rv,hli,hlt⟩:=Bc I1 ha;refine wpAny_pyIter_list hli ?_;have I2:Inv X pins Z H1 {s1 with heap:=s1.heap.push {cls:=.type "list_iterator",data:=.fields #[.ref a,.int 0 0]}}:=I1.kept (t':=s1.toks) λb o e=>Zzv _ e;refine Yq (RR:=λacc C=>compPost (model X.prog X.w) X.A X.xe none (EP X pins Z Q) acc C) (fp:=[s1.heap.objs.size]) (it:=s1.heap.objs.size) hc S hown cl1 cl2 hb I2 (Z2 ea a s1.heap.objs.size xs) ⟨_,Zzh _ rfl,rfl,rfl⟩ (λb hb=>?_) W w0 turn ?_
 ·have e:b=s1.heap.objs.size:=by simpa using hb
  subst e;exact I1.fpOk (Zzx _) (I1.hok.fresh (Zzx _))
 ·intro D C H' s' J1 ⟨m,J2⟩ ⟨c0,c1,c2,c3,c4,c5⟩ q;exact⟨m,J2,λh' sb=>⟨.ref D,H',J1.turned (t':=s'.toks) (λb o hb e=>(sb.2 b hb).trans e) c0 c1 c3 c4 c5,rfl,q⟩⟩
theorem N2.at{e:Addr}(n:N2 e h)(k:∀o,h.get? e=some o->h'.get? e=some o):N2 e h':=by obtain⟨o,vs,e1,r⟩:=n;exact⟨o,vs,k o e1,r⟩
theorem zx(hh:A.handled=some (.ref ea))(I l:Addr)(ne:l≠I)(xs:Array Value):Walks P w A I [I,l,ea] [I] xs.size (λi v=>xs[i]?=some v) (λi h=>(h.IsListIter I l i/\h.IsList l xs)/\N2 ea h) where
 sub:=λb hb=>by
  rw[Zzr.mp hb];exact Zzj
 frame:=λ_ _ _ st k=>⟨⟨st.1.1.at λo e=>k I (by simp) o e,st.1.2.at λo e=>k l (by simp) o e⟩,st.2.at λo e=>k ea (by simp) o e⟩;item:=λi s Q E hi st hq=>by
  obtain⟨⟨h1,h2⟩,n⟩:=st;have nI:ea≠I:=λz=>by
   obtain⟨oi,ei,ci,di⟩:=h1;obtain⟨o,vs,e1,e2,e3⟩:=n;rw[z,ei] at e1;cases e1;rw[di] at e2;cases e2;cases e3
  refine wpAny_pyNext_list_item h1 h2 (x:=xs[i]) (by simp[hi]) λh' st' sb=>hq _ h' s.toks (by simp[hi]) ⟨⟨st',h2.extBut sb.extBut ne⟩,n.at λo e=>sb.extBut _ o nI e⟩ λb o hb e=>sb.extBut b o (λz=>hb (by simp[z])) e
 done:=λs Q E st hq=>Ub hh st.2 st.1.1 st.1.2 (by simp) λh' eb=>hq h' s.toks λb o hb e=>eb b o (λz=>hb (by simp[z])) e;self:=λ_ _ _ _ st hq=>wpAny_pyIter_listiter st.1.1 hq
def Xf(ea:Addr):List V->Hp->VK->Prop:=λxs H Q=>∃(a:Addr) (ns:List Int) (cls:Value),xs=[.ref a]/\H a=some (.lst (ns.map V.int))/\H ea=some (Lk ea cls)/\Q (.int ns.sum) H
theorem jq(hc:X.A.handled=some (.ref ea)):AK X (.builtin "sum") (Xf ea):=by
 intro pins s Z H xs us Q I r h;obtain⟨a,ns,cls,rfl,ha,he,q⟩:=h;obtain⟨u,rfl,ru⟩:=Gf r;cases ru;obtain⟨its,rv,hl,hlt⟩:=Bc I ha;have n:=(I.hok ea _ he).1.2;have hlen:its.length=ns.length:=by have:=rv.length;rw[Zzz] at this;exact this.symm
 have up:(s.heap.push {cls:=.type "list_iterator",data:=.fields #[.ref a,.int 0 0]}).objs.size=s.heap.objs.size+1:=Zy2 ..;refine call_sum_walkG (wpAny_pyIter_list hl ⟨s.heap.objs.size,[s.heap.objs.size,a,ea],[s.heap.objs.size],its.toArray.size,_,_,λi=>(ns[i]?).getD 0,rfl,zx (A:=X.A.in1) hc _ a (Zyv hlt) its.toArray,⟨⟨⟨_,Zzh _ rfl,rfl,rfl⟩,hl.push _⟩,n.at λo e=>Zzv _ e⟩,λb hb=>?_,λi v hP=>?_,λh' tk t' hk=>?_⟩)
 ·show b<(s.heap.push {cls:=.type "list_iterator",data:=.fields #[.ref a,.int 0 0]}).objs.size
  rw[up];rcases Zzu.mp hb with z | z
  ·rw[z];exact Zv1 _
  ·rcases Zzu.mp z with z | z
   ·rw[z];exact Zws hlt
   ·rw[Zzr.mp z];obtain⟨o,vs,e1,_⟩:=n;exact Zws (Zzn e1)
 ·have hP:its[i]?=some v:=by simpa using hP
  exact Q5 rv hP
 ·rw[Zzs,hlen,Ze];exact⟨.int ns.sum,H,I.walked hk,⟨_,rfl⟩,q⟩
end L2
namespace L2
open PySem PySem.Spec PyProof.Rows PySem.W
end L2
namespace L2
open PySem PySem.Spec PyProof.Rows
def FM:R2:=λx y H Q=>∃l b xs zs,x=.ref l/\y=.ref b/\H l=some (.lst xs)/\H b=some (.lst zs)/\xs.length+zs.length<=sizeLine/\Q (.ref l) (upd H l (.lst (xs++zs)))
theorem qh:fillsInplaceSlot (.type "list") "add" (Operator.Add == .Add)=pure false:=by
 have e:typeLookup (.type "list") (dunderI "add")=pure (some (.builtin "list.__iadd__")):=Zv4.lookup;unfold fillsInplaceSlot;show (typeLookup (.type "list") (dunderI "add") >>= λx=>pure (x.isSome&&!isSeqSlot x))=pure false;rw[e];show (pure ((some (Value.builtin "list.__iadd__")).isSome&&!isSeqSlot (some (Value.builtin "list.__iadd__"))):Sem Bool)=pure false;rw[show isSeqSlot (some (Value.builtin "list.__iadd__"))=true by decide +kernel];rfl
theorem xk:seqSlot? (.type "list") (dunderI "add")=pure (some (.builtin "list.__iadd__")):=PySem.seqSlot_of Zv4.lookup (by decide +kernel)
theorem Nt:PIp X .Add FM:=by
 intro pins s Z H x y v u Q I rx ry h;obtain⟨l,b,xs,zs,rfl,rfl,hH,hB,hz,q⟩:=h;cases rx;cases ry;obtain⟨z,its,n,r,hl,e⟩:=I.lstM hH;obtain⟨z2,its2,n2,r2,hl2,e2⟩:=I.lstM hB;have hsz:its.toArray.size+its2.toArray.size<=sizeLine:=by rw[Zzs,Zzs];lia
 have hlong:¬ (!its.toArray.isEmpty&&Zx4 (its.toArray.size+its2.toArray.size))=true:=by
  rw[Rm hsz];simp
 unfold inplaceOp;refine wpAny_holding (FU (wpAny_typeOf (T := "list") ⟨_,e,rfl⟩ (FU (wpAny_of_eq qh ?_))));show wpAny _ X.A (if false=true then _ else _) _ _ s;rw[FS (λz:false=true=>Bool.noConfusion z)];refine FU (wpAny_binaryOp1_none (nm := "add") (T := "list") ⟨_,e,rfl⟩ ⟨_,e2,rfl⟩ noFill_list_add (FU (wpAny_of_eq xk (FU (wpAny_rule ?_)))));refine call_meets Zv4 ⟨_,e,rfl⟩ PySem.F.entry_list_iadd (PySem.F.args_list_iadd_2 _ _) (AutoSeq1.list___iadd___list_list_0 l its.toArray n b its2.toArray n2 hlong (by rw[Zzs];lia) (by lia)) ⟨e,e2,?_⟩;refine⟨.ref l,_,I.lset (its':=its++its2) hH e (by simp) (r.append r2) ?_,rfl,q⟩;rw[Zzc];lia
end L2
namespace L2
open PySem PySem.Spec PyProof.Rows Builtin Builtin.Str
def one(c:Nat):Str:=⟨#[c]⟩
theorem W0(x:Str)(c lim:Nat):∀(l:List Nat) (st:Array Nat×Nat),(∀i∈l,st.2<=i)->l.Pairwise (·<·)->st.1.size+l.length<=lim ->
  (forIn l st (StrLaws.occBody x (one c) x.length lim)).run.1.toList=st.1.toList++l.filter λi=>decide (x.cps.toList[i]?=some c)
 |[],st,_,_,_=>by simp
 |a::r,st,h1,h2,h3=>by
  rw[Zuu];unfold StrLaws.occBody;have hr:=List.pairwise_cons.mp h2;rw[Zz3] at h3;have iff:=StrLaws.subAt_one x c a;by_cases hc:x.cps.toList[a]?=some c
  ·obtain⟨g1,g2⟩:=iff.mpr hc;rw[FT ⟨⟨⟨by lia,h1 a Zzj⟩,g1⟩,g2⟩,Zx0,FT (FQ hc)];have:=W0 x c lim r (st.1.push a,a+(one c).length) (λi hi=>hr.1 i hi) hr.2 (by simp;lia);refine this.trans ?_;simp
  ·rw[FS (λz=>hc (iff.mp ⟨z.1.2,z.2⟩)),Zx0,FS (by simpa using hc)];exact W0 x c lim r st (λi hi=>h1 i (Zzl _ hi)) hr.2 (by lia)
theorem om(x:Str)(c:Nat):occurrences x (one c) 0 x.length (x.length+1)=(List.range' 0 (x.length+1)).filter λi=>decide (x.cps.toList[i]?=some c):=by
 rw[StrLaws.occ_eq];have:=W0 x c (x.length+1) (List.range' 0 (x.length+1 - 0)) (#[],0) (λ_ _=>Zym _) List.pairwise_lt_range' (by simp);rw[this];rfl
theorem Xm(x:Str)(c:Nat):∀(cuts:List Nat) (a:Nat),(∀i,a<=i->x.cps.toList[i]?=some c->i∈cuts)->(∀i∈cuts,a<=i)->cuts.Pairwise (·<·)->∀p∈StrLaws.partsFrom x 1 a cuts,c∉p.cps.toList
 |[],a,h,_,_,p,hp=>by
  have hp:p∈[strSub x a x.length]:=hp;rw[Zzr.mp hp,StrLaws.strSub_toList];intro z;obtain⟨i,hi⟩:=Zvw (Zwp z);rw[Zwb] at hi;cases h (a+i) (by lia) hi
 |k::r,a,h,h0,hs,p,hp=>by
  have hp:p∈strSub x a k::StrLaws.partsFrom x 1 (k+1) r:=hp;have hr:=List.pairwise_cons.mp hs;rcases Zzu.mp hp with rfl | hp
  ·rw[StrLaws.strSub_toList];intro z;obtain⟨i,hi⟩:=Zvw z;have hl:=(Zzb.mp hi).1;rw[Zz5] at hl;rw[Zxx (by lia),Zwb] at hi;rcases Zzu.mp (h (a+i) (by lia) hi) with e | e
   ·lia
   ·have:=hr.1 _ e
    lia
  ·have hk:=h0 k Zzj
   refine Xm x c r (k+1) (λi hi he=>?_) (λi hi=>hr.1 i hi) hr.2 p hp;rcases Zzu.mp (h i (by lia) he) with e | e
   ·lia
   ·exact e
theorem lz(x:Str)(c:Nat)(hc:c<256):∀p∈Txt.split x (one c),c∉p.cps.toList:=λp hp=>by
 have hs:(List.range' 0 (x.length+1)).Pairwise (·<·):=List.pairwise_lt_range';have all:∀i,x.cps.toList[i]?=some c->i∈occurrences x (one c) 0 x.length (x.length+1):=λi hi=>by
  rw[om];have:=(Zzb.mp hi).1;have hl:x.cps.toList.length=x.length:=by show x.cps.toList.length=x.cps.size;simp
  refine Zx5.mpr ⟨?_,FQ hi⟩;rw[List.mem_range'];exact⟨i,by lia,by lia⟩
 unfold Txt.split at hp;split at hp
 ·rename_i h1;rw[Zzr.mp hp];have l1:(one c).length=1:=rfl;have k1:Zx1 (one c)=1:=by
   unfold Zx1 one;rw[FT (by simpa using hc)]
  have k2:1<=Zx1 x:=by unfold Zx1;split<;>(try split)<;>decide
  have:x.length=0:=by
   rcases Bool.or_eq_true_iff.mp h1 with z | z
   ·have:=FP z;lia
   ·have:=FP z;lia
  intro z;have hl:x.cps.toList.length=0:=by rw[<- this];show x.cps.toList.length=x.cps.size;simp
  rw[List.eq_nil_of_length_eq_zero hl] at z;cases z
 ·split at hp
  ·rename_i h2;rw[Zzr.mp hp];intro z;obtain⟨i,hi⟩:=Zvw z;have:=all i hi;rw[List.isEmpty_iff.mp h2] at this;cases this
  ·rw[StrLaws.partsBetween_eq] at hp;refine Xm x c _ 0 (λi _ hi=>all i hi) (λ_ _=>Zym _) ?_ p hp;rw[om];exact hs.filter _
theorem Um{c:Nat}:∀{w w' X X':List Nat},c∉w->c∉w'->w++c::X=w'++c::X'->w=w'/\X=X'
 |[],[],X,X',_,_,h=>by simpa using h
 |[],b::w',X,X',_,h2,h=>by
  have:c=b:=by simpa using (Zvt h).1
  exact absurd (by rw[this];exact Zzj) h2
 |a::w,[],X,X',h1,_,h=>by
  have:a=c:=by simpa using (Zvt h).1
  exact absurd (by rw[this];exact Zzj) h1
 |a::w,b::w',X,X',h1,h2,h=>by
  have h:=Zvt h;obtain⟨e1,e2⟩:=Um (λz=>h1 (Zzl _ z)) (λz=>h2 (Zzl _ z)) h.2;exact⟨by rw[h.1,e1],e2⟩
theorem J5(c:Nat)(w v:Str)(r:List Str):(Str.join (one c) (w::v::r)).cps.toList=w.cps.toList++c::(Str.join (one c) (v::r)).cps.toList:=by
 show (w++one c++Str.join (one c) (v::r)).cps.toList=_;rw[Str.cps_append,Str.cps_append];simp[one]
theorem Pi{a b:Str}(h:a.cps.toList=b.cps.toList):a=b:=Str.ext' (Array.toList_inj.mp h)
theorem Yb{c:Nat}:∀{ws us:List Str},ws≠[]->us≠[]->(∀w∈ws,c∉w.cps.toList)->(∀w∈us,c∉w.cps.toList)->Str.join (one c) ws=Str.join (one c) us->ws=us
 |[],_,h,_,_,_,_=>absurd rfl h
 |_::_,[],_,h,_,_,_=>absurd rfl h
 |[w],[u],_,_,_,_,h=>by rw[show w=u from h]
 |[w],u::u2::r,_,_,h1,_,h=>by
  have e:=congrArg (λz:Str=>z.cps.toList) h;have e:w.cps.toList=(Str.join (one c) (u::u2::r)).cps.toList:=e;rw[J5] at e;exact absurd (by rw[e];simp) (h1 w Zzj)
 |w::w2::r,[u],_,_,_,h2,h=>by
  have e:=congrArg (λz:Str=>z.cps.toList) h;have e:(Str.join (one c) (w::w2::r)).cps.toList=u.cps.toList:=e;rw[J5] at e;exact absurd (by rw[<- e];simp) (h2 u Zzj)
 |w::w2::r,u::u2::r2,_,_,h1,h2,h=>by
  have e:=congrArg (λz:Str=>z.cps.toList) h;have e:(Str.join (one c) (w::w2::r)).cps.toList=(Str.join (one c) (u::u2::r2)).cps.toList:=e;rw[J5,J5] at e;obtain⟨e1,e2⟩:=Um (h1 w Zzj) (h2 u Zzj) e;have:=Yb (ws:=w2::r) (us:=u2::r2) (by simp) (by simp) (λx hx=>h1 x (Zzl _ hx)) (λx hx=>h2 x (Zzl _ hx)) (Pi e2);rw[Pi e1,this]
theorem Ey{c:Nat}(hc:c<256)(h:ws≠[])(hn:∀w∈ws,c∉w.cps.toList):Txt.split (Str.join (one c) ws) (one c)=ws:=by
 refine Yb (c:=c) (λz=>?_) h (lz _ _ hc) hn (StrLaws.join_split _ _);have:=split_pos (Str.join (one c) ws) (one c);rw[z] at this;exact absurd this (by decide)
def FA:V->List V->Hp->VK->Prop:=λx vs H Q=>∃(y:Str) (c:Nat),x=.str y/\vs=[.str (one c)]/\y.length<=1000000/\∀p,H p=none->Q (.ref p) (upd H p (.lst ((Txt.split y (one c)).map V.str)))
theorem Th:∀(l:List Str) (k:Nat),AB (l.map V.str) (strsFrom k l)
 |[],_=>.nil
 |x::r,k=>.cons ⟨_,rfl⟩ (Th r (k+1))
theorem Rr:MtM X "str.split" FA:=by
 intro pins s Z H x vs v us Q I rx rv h;obtain⟨y,c,rfl,rfl,hy,q⟩:=h;obtain⟨t,rfl⟩:=rx;obtain⟨u,rfl,ru⟩:=rv.one;obtain⟨t2,rfl⟩:=ru;have hz:y.length<=sizeLine:=Zzk hy (by decide);have hf:H s.heap.objs.size=none:=I.hok.fresh (Zzx _);have hl:=split_le y (one c);have hl2:(1000002:Nat)<=sizeLine:=by decide
 have fin:∀(its:List Value) (t':Nat),AB ((Txt.split y (one c)).map V.str) its->(EP X pins Z Q) (.ref s.heap.objs.size) {s with heap:=s.heap.push {cls:=.type "list",data:=.seq its.toArray},toks:=t'}:=λits t' r=>⟨.ref s.heap.objs.size,_,I.laid (t':=t') (λb o e=>Zzv _ e) (Zzx _) (show AF X.prog X.w _ _ _ (.lst ((Txt.split y (one c)).map V.str)) from ⟨by rw[Zzz];lia,its,0,r,Zzh _ rfl⟩),rfl,q _ hf⟩;have one1:Txt.split y (one c)=[y]->AB ((Txt.split y (one c)).map V.str) [Value.str y t]:=λe=>by rw[e];exact .cons ⟨_,rfl⟩ .nil
 cases h1:(decide (y.length<(one c).length)||decide (Zx1 y<Zx1 (one c))) with
 |true =>
  have e:Txt.split y (one c)=[y]:=by unfold Txt.split;exact FT h1
  exact call_meets F.slot_str_split (typeIs_str s y t) F.entry_str_split (F.args_str_split_2 _ _) (meets_str_split_cannot_occur y (one c) t t2 h1) (fin _ s.toks (one1 e))
 |false =>
  cases h2:(occurrences y (one c) 0 y.length (y.length+1)).isEmpty with
  |true =>
   have e:Txt.split y (one c)=[y]:=by unfold Txt.split;rw[FS (by rw[h1];decide)];exact FT h2
   exact call_meets F.slot_str_split (typeIs_str s y t) F.entry_str_split (F.args_str_split_2 _ _) (meets_str_split_not_found y (one c) t t2 h1 rfl h2) (fin _ s.toks (one1 e))
  |false =>
   have e:Txt.split y (one c)=partsBetween y (occurrences y (one c) 0 y.length (y.length+1)) (one c).length:=by unfold Txt.split;rw[FS (by rw[h1];decide)];exact FS (by rw[h2];decide)
   have r:=Th (Txt.split y (one c)) s.toks;rw[e] at r;refine call_meets F.slot_str_split (typeIs_str s y t) F.entry_str_split (F.args_str_split_2 _ _) (meets_str_split_sep y (one c) t t2 h1 rfl h2 hz (by rw[<- e];lia)) ?_;exact fin _ _ (by rw[e];exact r)
end L2
namespace L2
open PySem PySem.Spec PyProof.Rows
def Sj(P:Program)(w:World)(A:Around)(h:Heap)(ex:List Addr)(it:Addr)(x:Value)(Pt:Heap->Prop):Prop:=∀(t:Shared) (Q:Value->Shared->Prop) (E:Value->Shared->Prop),(∀c o,c∉ex->h.get? c=some o->t.heap.get? c=some o)->(∀h',Pt h'->Zxd it t.heap h'->Q x {t with heap:=h'})->wpAny (model P w) A (Zy7 (.ref it)) Q E t
def P3(P:Program)(w:World)(A:Around)(h:Heap)(ex:List Addr)(it:Addr):Prop:=∀(t:Shared) (Q:Value->Shared->Prop) (E:Value->Shared->Prop),(∀c o,c∉ex->h.get? c=some o->t.heap.get? c=some o)->(∀h' e,Heap.ExtBut it t.heap h'->(∃o,h'.get? e=some o/\o.cls=.type "StopIteration")->E (.ref e) {t with heap:=h'})->wpAny (model P w) A (Zy7 (.ref it)) Q E t
section
variable {z TI TO i1 i2:Addr}{x y a b:Value}
theorem gu{P1 P2:Heap->Prop}(nd:[z,TI,TO,i1,i2].Nodup)(hz:IsZip s.heap z TI TO .none)(hTI:IsPair s.heap TI (.ref i1) (.ref i2))(hTO:IsPair s.heap TO a b)
  (g1:Sj P w A s.heap [z] i1 x P1) (g2:Sj P w A s.heap [z,TO,i1] i2 y P2)
  (k1:∀h h',P1 h->(∀o,h.get? i1=some o->h'.get? i1=some o)->P1 h') (k2:∀h h',P2 h->(∀o,h.get? i2=some o->h'.get? i2=some o)->P2 h')
  (hq:∀h',IsZip h' z TI TO (rawInt s.heap.objs.size)->IsPair h' TO x y->P1 h'->P2 h'->IsPair h' s.heap.objs.size x y->h'.objs.size=s.heap.objs.size+1->(∀c o,c∉[z,TO,i1,i2]->s.heap.get? c=some o->h'.get? c=some o)->Q (.ref s.heap.objs.size) {s with heap:=h'}) :
  wpAny (model P w) A (Builtin.«zip.__next__» ⟨[.ref z],[]⟩) (λfin s'=>∃v,fin=.done (.ret v)/\Q v s') E s:=by
 simp only[Zyg,Zzu,Zzf,or_false,not_or,Zwo,and_true,not_false_eq_true] at nd;obtain⟨⟨n1,n2,n3,n4⟩,⟨n5,n6,n7⟩,⟨n8,n9⟩,n10⟩:=nd;show wpAny _ _ (field (.ref z) 2 >>= _) _ _ _;refine FU (wpAny_field hz rfl (x:=.bool false) rfl ?_);show wpAny _ _ (field (.ref z) 3 >>= _) _ _ _;refine FU (wpAny_field hz rfl (x:=.ref TI) rfl (FU (wpAny_seqItems hTI rfl ?_)));show wpAny _ _ (Zxi (.ref z) >>= _) _ _ _;refine FU ?_;unfold Zxi;refine FU (wpAny_field hz rfl (x:=.none) rfl (FV ?_));simp only[if_true];refine FU (wpAny_rule (FU (wpAny_field hz rfl (x:=.ref TO) rfl (FU (wpAny_setField_rec hz (by simp) λh₁ hz₁ hs₁=>FU ?_)))));simp only[List.zipIdx_nil,List.zipIdx_cons,List.forIn_nil,Zuu];have e1:∀c o,c≠z->s.heap.get? c=some o->h₁.get? c=some o:=λc o n e=>hs₁.extBut _ _ n e;refine FU (FU (wpAny_onRaise ?_));show wpAny _ _ (Zy7 (.ref i1) >>= _) _ _ _
 refine FU (g1 {s with heap:=h₁} _ _ (λc o n e=>e1 c o (by simpa using n) e) λh₂ p2 hs₂=>FV ?_);have e2:∀c o,c≠z->c≠i1->s.heap.get? c=some o->h₂.get? c=some o:=λc o n m e=>hs₂.extBut _ _ m (e1 c o n e);have t2:IsPair h₂ TO a b:=e2 _ _ (Zza n2) n8 hTO;refine FU (wpAny_seqItems t2 rfl (FU (wpAny_updateSeq_pair t2 λh₃ t3 hs₃=>FU (wpAny_letGo (FV ?_)))));have t3:IsPair h₃ TO x b:=t3;have e3:∀c o,c≠z->c≠i1->c≠TO->s.heap.get? c=some o->h₃.get? c=some o:=λc o n m k e=>hs₃.extBut _ _ k (e2 c o n m e);refine FU (FU (wpAny_onRaise ?_));show wpAny _ _ (Zy7 (.ref i2) >>= _) _ _ _
 refine FU (g2 {s with heap:=h₃} _ _ (λc o n e=>by simp only[Zzu,Zzf,or_false,not_or] at n;exact e3 c o n.1 n.2.2 n.2.1 e) λh₄ p4 hs₄=>FV ?_);have t4:IsPair h₄ TO x b:=hs₄.extBut _ _ n9 t3;refine FU (wpAny_seqItems t4 rfl (FU (wpAny_updateSeq_pair t4 λh₅ t5 hs₅=>FU (wpAny_letGo (FV (FV ?_))))));have t5:IsPair h₅ TO x y:=t5;refine FU (wpAny_seqItems t5 rfl (FU (wpAny_newTuple ?_)));have sz:h₅.objs.size=s.heap.objs.size:=by rw[hs₅.1,hs₄.1,hs₃.1,hs₂.1,hs₁.1]
 have z5:h₅.get? z=h₁.get? z:=by rw[hs₅.2 z n2,hs₄.2 z n4,hs₃.2 z n2,hs₂.2 z n3]
 have hz₅:IsZip h₅ z TI TO .ellipsis:=z5.trans hz₁;have e5:∀c o,c∉[z,TO,i1,i2]->s.heap.get? c=some o->h₅.get? c=some o:=λc o n e=>by
  simp only[Zzu,Zzf,or_false,not_or] at n;exact hs₅.extBut _ _ n.2.1 (hs₄.extBut _ _ n.2.2.2 (e3 c o n.1 n.2.2.1 n.2.1 e))
 have p1₅:P1 h₅:=k1 _ _ p2 λo e=>hs₅.extBut _ _ (Zza n8) (hs₄.extBut _ _ n10 (hs₃.extBut _ _ (Zza n8) e));have p2₅:P2 h₅:=k2 _ _ p4 λo e=>hs₅.extBut _ _ (Zza n9) e;have zl:z<h₅.objs.size:=Zzn hz₅;show wpAny _ _ (Zvf (.ref z) (.ref h₅.objs.size) >>= _) _ _ _;refine FU ?_;unfold Zvf;refine FU (wpAny_setField_rec (Zzv _ hz₅) (by simp) λh₇ hz₇ hs₇=>wpAny_setField_rec hz₇ (by simp) λh₈ hz₈ hs₈=>?_);have up:∀c o,c≠z->h₅.get? c=some o->h₈.get? c=some o:=λc o n e=>hs₈.extBut _ _ n (hs₇.extBut _ _ n (Zzv _ e));have hz₈:IsZip h₈ z TI TO (rawInt h₅.objs.size):=hz₈;have t8:IsPair h₈ h₅.objs.size x y:=hs₈.extBut _ _ (Zwy zl) (hs₇.extBut _ _ (Zwy zl) (Zzh _ rfl));have s8:h₈.objs.size=h₅.objs.size+1:=by rw[hs₈.1,hs₇.1,Zy2]
 rw[sz] at hz₈ t8 s8;refine FV ⟨_,rfl,?_⟩;show Q (.ref h₅.objs.size) _;rw[sz];exact hq h₈ hz₈ (up _ _ (Zza n2) t5) (k1 _ _ p1₅ λo e=>up _ o (Zza n3) e) (k2 _ _ p2₅ λo e=>up _ o (Zza n4) e) t8 s8 λc o n e=>up c o (λq=>n (by simp[q])) (e5 c o n e)
theorem k7{P1:Heap->Prop}{Q:Fin->Shared->Prop}(nd:[z,TI,TO,i1,i2].Nodup)(hz:IsZip s.heap z TI TO .none)(hTI:IsPair s.heap TI (.ref i1) (.ref i2))(hTO:IsPair s.heap TO a b)
  (g:P3 P w A s.heap [z] i1\/(Sj P w A s.heap [z] i1 x P1/\P3 P w A s.heap [z,TO,i1] i2))
  (hE:∀h' e,(∀c o,c∉[z,TO,i1,i2]->s.heap.get? c=some o->h'.get? c=some o)->(∃o,h'.get? e=some o/\o.cls=.type "StopIteration")->E (.ref e) {s with heap:=h'}) :
  wpAny (model P w) A (Builtin.«zip.__next__» ⟨[.ref z],[]⟩) Q E s:=by
 simp only[Zyg,Zzu,Zzf,or_false,not_or,Zwo,and_true,not_false_eq_true] at nd;obtain⟨⟨n1,n2,n3,n4⟩,⟨n5,n6,n7⟩,⟨n8,n9⟩,n10⟩:=nd;show wpAny _ _ (field (.ref z) 2 >>= _) _ _ _;refine FU (wpAny_field hz rfl (x:=.bool false) rfl ?_);show wpAny _ _ (field (.ref z) 3 >>= _) _ _ _;refine FU (wpAny_field hz rfl (x:=.ref TI) rfl (FU (wpAny_seqItems hTI rfl ?_)));show wpAny _ _ (Zxi (.ref z) >>= _) _ _ _;refine FU ?_;unfold Zxi;refine FU (wpAny_field hz rfl (x:=.none) rfl (FV ?_));simp only[if_true];refine FU (wpAny_rule (FU (wpAny_field hz rfl (x:=.ref TO) rfl (FU (wpAny_setField_rec hz (by simp) λh₁ hz₁ hs₁=>FU ?_)))));simp only[List.zipIdx_nil,List.zipIdx_cons,List.forIn_nil,Zuu];have hz₁:IsZip h₁ z TI TO .ellipsis:=hz₁;have e1:∀c o,c≠z->s.heap.get? c=some o->h₁.get? c=some o:=λc o n e=>hs₁.extBut _ _ n e;refine FU (FU (wpAny_onRaise ?_));show wpAny _ _ (Zy7 (.ref i1) >>= _) _ _ _
 have out:∀(h₂ h₃:Heap) (e:Addr) (f0:Value),IsZip h₂ z TI TO f0->(∃o,h₂.get? e=some o/\o.cls=.type "StopIteration")->Zxd z h₂ h₃->∃o,h₃.get? e=some o/\o.cls=.type "StopIteration" := λh₂ h₃ e f0 q he sb=>by
  obtain⟨oe,h1,h2⟩:=he;have ne:e≠z:=λy=>by rw[y,q] at h1;cases h1;simp at h2
  exact⟨oe,sb.extBut _ _ ne h1,h2⟩
 rcases g with g1 | ⟨g1,g2⟩
 ·refine FU (g1 {s with heap:=h₁} _ _ (λc o n e=>e1 c o (by simpa using n) e) λh₂ e eb he=>?_);have q:=eb _ _ n3 hz₁;refine wpAny_setField_rec q (by simp) λh₃ _ hs₃=>hE h₃ e (λc o n ec=>?_) (out h₂ h₃ e _ q he hs₃);simp only[Zzu,Zzf,or_false,not_or] at n;exact hs₃.extBut _ _ n.1 (eb _ _ n.2.2.1 (e1 c o n.1 ec))
 ·refine FU (g1 {s with heap:=h₁} _ _ (λc o n e=>e1 c o (by simpa using n) e) λh₂ p2 hs₂=>FV ?_);have e2:∀c o,c≠z->c≠i1->s.heap.get? c=some o->h₂.get? c=some o:=λc o n m e=>hs₂.extBut _ _ m (e1 c o n e);have t2:IsPair h₂ TO a b:=e2 _ _ (Zza n2) n8 hTO;refine FU (wpAny_seqItems t2 rfl (FU (wpAny_updateSeq_pair t2 λh₃ t3 hs₃=>FU (wpAny_letGo (FV ?_)))));have e3:∀c o,c≠z->c≠i1->c≠TO->s.heap.get? c=some o->h₃.get? c=some o:=λc o n m k e=>hs₃.extBut _ _ k (e2 c o n m e);refine FU (FU (wpAny_onRaise ?_));show wpAny _ _ (Zy7 (.ref i2) >>= _) _ _ _
  refine FU (g2 {s with heap:=h₃} _ _ (λc o n e=>by simp only[Zzu,Zzf,or_false,not_or] at n;exact e3 c o n.1 n.2.2 n.2.1 e) λh₄ e eb he=>?_);have q:=eb _ _ n4 (hs₃.extBut _ _ n2 (hs₂.extBut _ _ n3 hz₁));refine wpAny_setField_rec q (by simp) λh₅ _ hs₅=>hE h₅ e (λc o n ec=>?_) (out h₄ h₅ e _ q he hs₅);simp only[Zzu,Zzf,or_false,not_or] at n;exact hs₅.extBut _ _ n.1 (eb _ _ n.2.2.2 (e3 c o n.1 n.2.2.1 n.2.1 ec))
theorem Rx{l:Addr}{k:Nat}{xs:Array Value}(ex:List Addr)(h:s.heap.IsListIter i1 l k)(hl:s.heap.IsList l xs)(hx:xs[k]?=some x)(n1:i1∉ex)(n2:l∉ex):Sj P w A s.heap ex i1 x (λh'=>h'.IsListIter i1 l (k+1)):=λt Q E kp hq =>
 wpAny_nextOf_list_item (h.at λo e=>kp _ o n1 e) (hl.at λo e=>kp _ o n2 e) hx λh' a b=>hq h' a b
theorem jj{l:Addr}{k:Nat}{xs:Array Value}(ex:List Addr)(hh:A.handled=none)(h:s.heap.IsListIter i1 l k)(hl:s.heap.IsList l xs)(hx:xs[k]?=none)(n1:i1∉ex)(n2:l∉ex):P3 P w A s.heap ex i1:=λt Q E kp hq =>
 wpAny_nextOf_list_end hh (h.at λo e=>kp _ o n1 e) (hl.at λo e=>kp _ o n2 e) hx λh' e a b=>hq h' e a b
theorem Uy{b:Addr}{ys:Array Value}(q:h.IsTuple b ys)(k:∀o,h.get? b=some o->h'.get? b=some o):h'.IsTuple b ys:=by obtain⟨o,e,r⟩:=q;exact⟨o,k o e,r⟩
theorem jd{l:Addr}{k:Nat}{xs:Array Value}(ex:List Addr)(h:s.heap.IsTupleIter i2 l k)(hl:s.heap.IsTuple l xs)(hx:xs[k]?=some y)(n1:i2∉ex)(n2:l∉ex):Sj P w A s.heap ex i2 y (λh'=>h'.IsTupleIter i2 l (k+1)):=λt Q E kp hq=>by
 have hi:=h.at λo e=>kp _ o n1 e;obtain⟨oi,ei,ci,di⟩:=id hi;obtain⟨ol,el,_,m,dl⟩:=Uy hl λo e=>kp _ o n2 e;unfold Zy7;refine FU (wpAny_callSpecial?_slot (name:=Str.ofString "__next__") hi.typeIs F.slot_tuple_iterator_next (wpAny_call_entry F.slot_tuple_iterator_next hi.typeIs F.entry_tuple_iterator_next ?_ (F.args_tuple_iterator_next_1 _)));show wpAny _ _ (field (.ref i2) 0 >>= _) _ _ t;refine FU (wpAny_field ei di (x:=.ref l) rfl ?_);show wpAny _ _ (if (Value.ref l == Value.none)=true then _ else _) _ _ t;rw[FS (λz:(Value.ref l == Value.none)=true=>Zzd z)];show wpAny _ _ (field (.ref i2) 1 >>= _) _ _ t;refine FU (wpAny_field ei di (x:=.int k 0) rfl ?_);show wpAny _ _ (seqItems? (.ref l) >>= _) _ _ t;refine FU (wpAny_seqItems el dl ?_);simp only[hx,Zxq];refine FU (wpAny_setField ei di (by simp) (FV ⟨y,rfl,FV (hq _ ⟨_,Zxn _ ei (Obj.isFreed_of_fields (Obj.data_mapFields di _)),(Obj.cls_mapFields ..).trans ci,by rw[Obj.data_mapFields di];simp[rawInt]⟩ (Zum ..))⟩))
theorem rg{l:Addr}{k:Nat}{xs:Array Value}(ex:List Addr)(hh:A.handled=none)(h:s.heap.IsTupleIter i2 l k)(hl:s.heap.IsTuple l xs)(hx:xs[k]?=none)(n1:i2∉ex)(n2:l∉ex):P3 P w A s.heap ex i2:=λt Q E kp hq=>by
 have hi:=h.at λo e=>kp _ o n1 e;obtain⟨oi,ei,ci,di⟩:=id hi;obtain⟨ol,el,_,m,dl⟩:=Uy hl λo e=>kp _ o n2 e;unfold Zy7;refine FU (wpAny_callSpecial?_slot (name:=Str.ofString "__next__") hi.typeIs F.slot_tuple_iterator_next (wpAny_call_entry F.slot_tuple_iterator_next hi.typeIs F.entry_tuple_iterator_next ?_ (F.args_tuple_iterator_next_1 _)));show wpAny _ _ (field (.ref i2) 0 >>= _) _ _ t;refine FU (wpAny_field ei di (x:=.ref l) rfl ?_);show wpAny _ _ (if (Value.ref l == Value.none)=true then _ else _) _ _ t;rw[FS (λz:(Value.ref l == Value.none)=true=>Zzd z)];show wpAny _ _ (field (.ref i2) 1 >>= _) _ _ t;refine FU (wpAny_field ei di (x:=.int k 0) rfl ?_);show wpAny _ _ (seqItems? (.ref l) >>= _) _ _ t;refine FU (wpAny_seqItems el dl ?_);simp only[hx,Zxq];refine FU (wpAny_rule (FU (wpAny_setField ei di (by simp) ?_)));show wpAny _ _ (newExc (.type "StopIteration") [] >>= _) _ _ _
 refine FU ?_;simp only[newExc,newTuple];refine FU (wpAny_newObj_type ?_ (by size_fits));refine FU (m:=firstArgMember _ _) (wpAny_of_eq (a:=Value.none) (by first | rfl | (simp only[firstArgMember];rfl)) ?_);refine wpAny_newObj_type ?_ (by size_fits);simp only[raiseNew];refine FU (wpAny_handled ?_);first | rw[show A.in1.handled=none from hh] | rw[hh]
 exact FU (FV (wpAny_throw (hq _ _ (((Zum ..).extBut.push _).push _) ⟨_,Zzh _ rfl,rfl⟩)))
theorem Q3(hh:A.handled=none)(z TI TO i1 i2 l1 l2:Addr)(nd:[z,TI,TO,i1,i2].Nodup)(n1:l1∉[z,TO,i1,i2])(n2:l2∉[z,TO,i1,i2])(xs ys:Array Value) :
  WalksT P w A z [z,TI,TO,i1,i2,l1,l2] [z,TO,i1,i2] (min xs.size ys.size) (λi vals=>∃x y,xs[i]?=some x/\ys[i]?=some y/\vals=#[x,y])
   (λi h=>IsZip h z TI TO .none/\IsPair h TI (.ref i1) (.ref i2)/\(∃a b,IsPair h TO a b)/\h.IsListIter i1 l1 i/\h.IsTupleIter i2 l2 i/\h.IsList l1 xs/\h.IsTuple l2 ys)
   (λi T h=>(IsZip h z TI TO (rawInt T)/\IsPair h TI (.ref i1) (.ref i2)/\(∃a b,IsPair h TO a b)/\h.IsListIter i1 l1 (i+1)/\h.IsTupleIter i2 l2 (i+1)/\h.IsList l1 xs/\h.IsTuple l2 ys)/\T∉[z,TO,i1,i2]):=by
 have nd':=nd;simp only[Zyg,Zzu,Zzf,or_false,not_or,Zwo,and_true,not_false_eq_true] at nd';obtain⟨⟨m1,m2,m3,m4⟩,⟨m5,m6,m7⟩,⟨m8,m9⟩,m10⟩:=nd';have hTIn:TI∉[z,TO,i1,i2]:=by simp only[Zzu,Zzf,or_false,not_or];exact⟨Zza m1,m5,m6,m7⟩
 have q1:=n1;have q2:=n2;simp only[Zzu,Zzf,or_false,not_or] at q1 q2;have x1:i1∉[z]:=by simpa using Zza m3
 have x2:i2∉[z,TO,i1]:=by simp only[Zzu,Zzf,or_false,not_or];exact⟨Zza m4,Zza m9,Zza m10⟩
 have x3:l1∉[z]:=by simpa using q1.1
 have x4:l2∉[z,TO,i1]:=by simp only[Zzu,Zzf,or_false,not_or];exact⟨q2.1,q2.2.1,q2.2.2.1⟩
 refine⟨λc hc=>?_,λi h h' st k=>?_,λi s Q E hi st hq=>?_,λelts k pos i T s Q E hm hq=>?_,λi T h hm=>hm.2,λs Q E st hq=>?_,λi s Q E st hq=>wpAny_pyIter_zip st.1 hq⟩
 ·simp only[Zzu,Zzf,or_false] at hc ⊢;rcases hc with q | q | q | q<;>simp[q]
 ·obtain⟨a1,a2,⟨u,v,a3⟩,a4,a5,a6,a7⟩:=st;exact⟨k z (by simp) _ a1,k TI (by simp) _ a2,⟨u,v,k TO (by simp) _ a3⟩,a4.at λo e=>k i1 (by simp) o e,a5.at λo e=>k i2 (by simp) o e,a6.at λo e=>k l1 (by simp) o e,Uy a7 λo e=>k l2 (by simp) o e⟩
 ·obtain⟨a1,a2,⟨u,v,a3⟩,a4,a5,a6,a7⟩:=st;have hT:s.TypeIs (.ref z) "zip" := ⟨_,a1,rfl⟩;have hix:i<xs.size:=by lia
  have hiy:i<ys.size:=by lia
  have gx:xs[i]?=some xs[i]:=Zx8 hix;have gy:ys[i]?=some ys[i]:=Zx8 hiy;have lt:∀{c:Addr} {o:Obj},s.heap.get? c=some o->s.heap.objs.size≠c:=λe=>Zwy (Zzn e);unfold pyNext;refine FU (wpAny_attempt (wpAny_callSpecial?_slot (name:=Str.ofString "__next__") hT F.slot_zip_next (wpAny_call_entry F.slot_zip_next hT F.entry_zip_next (gu nd a1 a2 a3 (Rx [z] a4 a6 gx x1 x3) (jd [z,TO,i1] a5 a7 gy x2 x4) (λ_ _ p k=>p.at k) (λ_ _ p k=>p.at k) λh' b1 b2 b3 b4 b5 b6 kp=>?_) (F.args_zip_next_1 _))));refine FV (hq _ #[xs[i],ys[i]] h' s.toks ⟨_,_,gx,gy,rfl⟩ (Zzx _) ⟨_,b5,rfl,_,rfl⟩ ⟨⟨b1,kp _ _ hTIn a2,⟨_,_,b2⟩,b3,b4,a6.at λo e=>kp _ o n1 e,Uy a7 λo e=>kp _ o n2 e⟩,?_⟩ kp);obtain⟨_,e4,_⟩:=a4;obtain⟨_,e5,_⟩:=a5;simp only[Zzu,Zzf,or_false,not_or];exact⟨lt a1,lt a3,lt e4,lt e5⟩
 ·obtain⟨⟨a1,a2,⟨u,v,a3⟩,a4,a5,a6,a7⟩,_⟩:=hm;refine wpAny_letOwnedTupleGo_zip a1 λh' b1 sb=>hq h' ⟨b1,sb.extBut _ _ (Zza m1) a2,⟨u,v,sb.extBut _ _ (Zza m2) a3⟩,a4.extBut sb.extBut (Zza m3),a5.extBut sb.extBut (Zza m4),a6.extBut sb.extBut q1.1,a7.extBut sb.extBut q2.1⟩ λc o hc e=>sb.extBut _ _ (λq=>hc (by simp[q])) e
 ·obtain⟨a1,a2,⟨u,v,a3⟩,a4,a5,a6,a7⟩:=st;have hT:s.TypeIs (.ref z) "zip" := ⟨_,a1,rfl⟩;unfold pyNext;have fin:P3 P w A.in1 s.heap [z] i1\/((∃x,Sj P w A.in1 s.heap [z] i1 x (λh'=>h'.IsListIter i1 l1 (min xs.size ys.size+1)))/\P3 P w A.in1 s.heap [z,TO,i1] i2):=by
   by_cases h:xs.size<=ys.size
   ·exact .inl (jj [z] hh a4 a6 (Array.getElem?_eq_none (by lia)) x1 x3)
   ·exact .inr ⟨⟨_,Rx [z] a4 a6 (Zx8 (by lia)) x1 x3⟩,rg [z,TO,i1] hh a5 a7 (Array.getElem?_eq_none (by lia)) x2 x4⟩
  have fin2:∃x,P3 P w A.in1 s.heap [z] i1\/(Sj P w A.in1 s.heap [z] i1 x (λh'=>h'.IsListIter i1 l1 (min xs.size ys.size+1))/\P3 P w A.in1 s.heap [z,TO,i1] i2):=by
   rcases fin with f | ⟨⟨x,f⟩,f2⟩
   ·exact⟨.none,.inl f⟩
   ·exact⟨x,.inr ⟨f,f2⟩⟩
  obtain⟨x,fin2⟩:=fin2;refine FU (wpAny_attempt (wpAny_callSpecial?_slot (name:=Str.ofString "__next__") hT F.slot_zip_next (wpAny_call_entry F.slot_zip_next hT F.entry_zip_next (k7 nd a1 a2 a3 fin2 λh' e kp he=>?_) (F.args_zip_next_1 _))));obtain⟨o,e1,e2⟩:=he;exact FU (wpAny_isInstance (T := "StopIteration") (b:=true) ⟨o,e1,e2⟩ isSubtype_stop (FV (hq h' s.toks kp)))
end
def zt1(h:Heap)(a:Addr):Heap:=h.push {cls:=.type "list_iterator",data:=.fields #[.ref a,.int 0 0]}
def zt2(h:Heap)(a b:Addr):Heap:=(zt1 h a).push {cls:=.type "tuple_iterator",data:=.fields #[.ref b,.int 0 0]}
def zt3(h:Heap)(a b:Addr):Heap:=(zt2 h a b).push {cls:=.type "tuple",data:=.seq #[.ref h.objs.size,.ref (zt1 h a).objs.size]}
def zt4(h:Heap)(a b:Addr):Heap:=(zt3 h a b).push {cls:=.type "tuple",data:=.seq #[.none,.none]}
def zt5(h:Heap)(a b:Addr):Heap:=(zt4 h a b).push {cls:=.type "zip",data:=.fields #[.none,.bool false,.bool false,.ref (zt2 h a b).objs.size,.ref (zt3 h a b).objs.size]}
theorem Zu(a b:Addr)(xs ys:Array Value):Meets (Builtin.«zip.__new__» ⟨[.type "zip",.ref a,.ref b],[]⟩) (λ_ R s=>s.heap.IsList a xs/\s.heap.IsTuple b ys/\R (.ok (.ret (.ref (zt4 s.heap a b).objs.size))) {s with heap:=zt5 s.heap a b}) :=
 .of_wp λP w A R s h=>by
  obtain⟨hp,g,d,tk,os⟩:=s;obtain⟨ha,hb,h⟩:=h;have hsub:=sub_zip;have qa:Heap.IsList (Shared.heap ⟨hp,g,d,tk,os⟩) a xs:=ha;have qb:Heap.IsTuple (Shared.heap ⟨hp.push {cls:=.type "list_iterator",data:=.fields #[.ref a,.int 0 0]},g,d,tk,os⟩) b ys:=Heap.IsTuple.push hb _;wp_walk using wpAny_pyIter_list qa,wpAny_pyIter_tuple qb;exact⟨_,rfl,h⟩
theorem jp{b:Addr}{xs ys:Array Value}(ha:s.heap.IsList a xs)(hb:s.heap.IsTuple b ys)
  (h:∀h',IsZip h' (s.heap.objs.size+4) (s.heap.objs.size+2) (s.heap.objs.size+3) .none->IsPair h' (s.heap.objs.size+2) (.ref s.heap.objs.size) (.ref (s.heap.objs.size+1))->IsPair h' (s.heap.objs.size+3) .none .none ->
   h'.IsListIter s.heap.objs.size a 0->h'.IsTupleIter (s.heap.objs.size+1) b 0->(∀c o,s.heap.get? c=some o->h'.get? c=some o)->Q (.ref (s.heap.objs.size+4)) {s with heap:=h'}) :
  wpAny (model P w) A (call (.type "zip") [.ref a,.ref b]) Q E s:=by
 refine callType_new F.called_zip (by decide) (F.typeCall_zip_2 _ _) (F.newCall_zip_2 _ _) (λobj=>F.args_object_init_3 obj _ _) F.entry_zip_new (Zu a b xs ys) ⟨ha,hb,?_⟩;have z1:(zt1 s.heap a).objs.size=s.heap.objs.size+1:=Zy2 ..;have z2:(zt2 s.heap a b).objs.size=s.heap.objs.size+2:=(Zy2 ..).trans (by rw[z1]);have z3:(zt3 s.heap a b).objs.size=s.heap.objs.size+3:=(Zy2 ..).trans (by rw[z2]);have z4:(zt4 s.heap a b).objs.size=s.heap.objs.size+4:=(Zy2 ..).trans (by rw[z3]);have p5:∀{c:Addr} {o:Obj},(zt4 s.heap a b).get? c=some o->(zt5 s.heap a b).get? c=some o:=λe=>Zzv _ e;have p4:∀{c:Addr} {o:Obj},(zt3 s.heap a b).get? c=some o->(zt5 s.heap a b).get? c=some o:=λe=>p5 (Zzv _ e);have p3:∀{c:Addr} {o:Obj},(zt2 s.heap a b).get? c=some o->(zt5 s.heap a b).get? c=some o:=λe=>p4 (Zzv _ e);have p2:∀{c:Addr} {o:Obj},(zt1 s.heap a).get? c=some o->(zt5 s.heap a b).get? c=some o:=λe=>p3 (Zzv _ e);have g5:(zt5 s.heap a b).get? (zt4 s.heap a b).objs.size=some {cls:=.type "zip",data:=.fields #[.none,.bool false,.bool false,.ref (zt2 s.heap a b).objs.size,.ref (zt3 s.heap a b).objs.size]}:=Zzh _ rfl;have g4:=p5 (show (zt4 s.heap a b).get? (zt3 s.heap a b).objs.size=some {cls:=.type "tuple",data:=.seq #[.none,.none]} from Zzh _ rfl);have g3:=p4 (show (zt3 s.heap a b).get? (zt2 s.heap a b).objs.size=some {cls:=.type "tuple",data:=.seq #[.ref s.heap.objs.size,.ref (zt1 s.heap a).objs.size]} from Zzh _ rfl);have g2:=p3 (show (zt2 s.heap a b).get? (zt1 s.heap a).objs.size=some {cls:=.type "tuple_iterator",data:=.fields #[.ref b,.int 0 0]} from Zzh _ rfl);have g1:=p2 (show (zt1 s.heap a).get? s.heap.objs.size=some {cls:=.type "list_iterator",data:=.fields #[.ref a,.int 0 0]} from Zzh _ rfl);show _/\_;rw[z2,z3,z4] at g5;rw[z1,z2] at g3;rw[z3] at g4;rw[z1] at g2;rw[z4];exact⟨⟨_,g5,rfl⟩,h _ g5 g3 g4 ⟨_,g1,rfl,rfl⟩ ⟨_,g2,rfl,rfl⟩ λc o e=>p2 (Zzv _ e)⟩
def A16(K:Zzy)(a b:Addr)(xs ys:List V):It:=⟨λi H=>H a=some (.lst xs)/\SqT K H b ys/\i<min xs.length ys.length,
 λi H x H'=>∃p y z,x=.ref p/\H p=none/\xs[i]?=some y/\ys[i]?=some z/\H'=upd H p (.tup [y,z]),λi H=>H a=some (.lst xs)/\SqT K H b ys/\i=min xs.length ys.length⟩
theorem qq(K:Zzy)(a b:Addr)(xs ys:List V):Yz (A16 K a b xs ys) (min xs.length ys.length) (λi us=>∃y z,xs[i]?=some y/\ys[i]?=some z/\us=[y,z]) (λH=>H a=some (.lst xs)/\SqT K H b ys) :=
 ⟨λi H h o=>⟨o.1,o.2,h⟩,λi H x H' h o y=>by obtain⟨p,u,v,e1,e2,e3,e4,e5⟩:=y;exact⟨p,_,e1,e2,e5,u,v,e3,e4,rfl⟩,λH o=>⟨o.1,o.2,rfl⟩⟩
theorem i3{k:Nat}(z TI TO i1 i2 a b:Addr)(xs ys:List V)(nd:[z,TI,TO,i1,i2].Nodup)(na:a∉[z,TO,i1,i2])(nb:b∉[z,TO,i1,i2]) :
  O3 P w K (.Tuple elts k pos) (A16 K a b xs ys) [z,TI,TO,i1,i2] z (λi h=>IsZip h z TI TO .none/\IsPair h TI (.ref i1) (.ref i2)/\(∃u v,IsPair h TO u v)/\h.IsListIter i1 a i/\h.IsTupleIter i2 b i):=by
 have objs:∀(i:Nat) (h:Heap),(IsZip h z TI TO .none/\IsPair h TI (.ref i1) (.ref i2)/\(∃u v,IsPair h TO u v)/\h.IsListIter i1 a i/\h.IsTupleIter i2 b i)->∀c∈[z,TI,TO,i1,i2],∃o,h.get? c=some o/\∀v,o.data≠.cell v:=by
  rintro i h ⟨hz,hT,⟨u,v,hO⟩,⟨o1,g1,c1,d1⟩,⟨o2,g2,c2,d2⟩⟩ c hc;simp only[Zzu,Zzf,or_false] at hc;rcases hc with q | q | q | q | q<;>subst q
  ·exact⟨_,hz,λ_ y=>by cases y⟩
  ·exact⟨_,hT,λ_ y=>by cases y⟩
  ·exact⟨_,hO,λ_ y=>by cases y⟩
  ·exact⟨o1,g1,λ_ y=>by rw[d1] at y;cases y⟩
  ·exact⟨o2,g2,λ_ y=>by rw[d2] at y;cases y⟩
 have sub:∀c∈[z,TO,i1,i2],c∈[z,TI,TO,i1,i2]:=λc hc=>by simp at hc ⊢;rcases hc with h | h | h | h<;>simp[h]
 refine⟨by simp,objs,?_,?_,?_,?_⟩
 ·rintro i h h' ⟨hz,hT,⟨u,v,hO⟩,g1,g2⟩ kp;exact⟨kp z (by simp) _ hz,kp TI (by simp) _ hT,⟨u,v,kp TO (by simp) _ hO⟩,g1.at λo e=>kp i1 (by simp) o e,g2.at λo e=>kp i2 (by simp) o e⟩
 ·intro X hP hw hK hc i pins s Z H E I hf st hg;subst hP hw hK;obtain⟨ha,hb,hlt⟩:=hg;obtain⟨its,rv,hl,hal⟩:=Bc I ha;obtain⟨its2,rv2,hl2,hz2⟩:=I.tuple hb;have AH:=rv.length;have AX:=rv2.length;obtain⟨s1,s2,s3,s4,s5⟩:=id st;have hv:∀vals:Array Value,(∃x y,its.toArray[i]?=some x/\its2.toArray[i]?=some y/\vals=#[x,y])->∃us,AB us vals.toList/\us.length<=100/\∃y z,xs[i]?=some y/\ys[i]?=some z/\us=[y,z]:=by
   rintro vals ⟨x,y,hx,hy,rfl⟩;have l1:i<xs.length:=by lia
   have l2:i<ys.length:=by lia
   obtain⟨u,hu,ru⟩:=rv.get (x:=xs[i]) (i:=i) (by simp[l1]);obtain⟨u',hu',ru'⟩:=rv2.get (x:=ys[i]) (i:=i) (by simp[l2]);have hx:its[i]?=some x:=by simpa using hx
   have hy:its2[i]?=some y:=by simpa using hy
   rw[hx] at hu;rw[hy] at hu';cases hu;cases hu';exact⟨[xs[i],ys[i]],.cons ru (.cons ru' .nil),by simp,xs[i],ys[i],by simp[l1],by simp[l2],rfl⟩
  refine thn (aa (E:=E) (Q3 (I.ok.hd hc) z TI TO i1 i2 a b nd na nb its.toArray its2.toArray) (by rw[Zzs,Zzs];lia) I ⟨s1,s2,s3,s4,s5,hl,hl2⟩ (λc hc=>hf c (sub c hc)) hv) λr t1 ⟨u,hr,h3⟩ =>
   ⟨u,hr,thn h3 λ_ t2 ⟨p,us,hu,hp,hn,I2,⟨y,y',hy,hy',e2⟩,st2⟩=>?_⟩
  subst hu e2;refine⟨.ref p,_,I2,rfl,⟨p,y,y',rfl,hn,hy,hy',rfl⟩,⟨st2.1,st2.2.1,st2.2.2.1,st2.2.2.2.1,st2.2.2.2.2.1⟩,λc hc=>?_⟩;obtain⟨o,ho,_⟩:=objs i _ st c hc;rw[Ab (Av (Zzn ho) hp)];exact(hf c hc).1
 ·intro X hP hw hK hc i pins s Z H E I hf st hg;subst hP hw hK;obtain⟨ha,hb,hlt⟩:=hg;obtain⟨its,rv,hl,hal⟩:=Bc I ha;obtain⟨its2,rv2,hl2,hz2⟩:=I.tuple hb;have AH:=rv.length;have AX:=rv2.length;obtain⟨s1,s2,s3,s4,s5⟩:=id st;have hi:min its.toArray.size its2.toArray.size=i:=by rw[Zzs,Zzs];lia
  refine(Q3 (I.ok.hd hc) z TI TO i1 i2 a b nd na nb its.toArray its2.toArray).done s _ E ?_ λh' tk hk=>⟨rfl,I.turnedL hk λc hc=>hf c (sub c hc)⟩;rw[hi];exact⟨s1,s2,s3,s4,s5,hl,hl2⟩
 ·intro A i s Q E st h;exact wpAny_pyIter_zip st.1 h
def Yd(K:Zzy)(ta:TA):TI:=λZ H R=>ta Z H λvs H1=>∃a b xs ys,vs=[.ref a,.ref b]/\H1 a=some (.lst xs)/\SqT K H1 b ys/\R (A16 K a b xs ys) H1
theorem d8{k:Nat}{pt p:Pos}{ta:TA}(hg:Gl X "zip")(hm:X.mg "zip" = none)(ha:PA X [e,e2] ta)(hn:C5 [e,e2]=true:=by rfl):PI X (.Tuple elts k pt) (.Call (.Name "zip" p) [e,e2] [] pos) (Yd X.K ta):=by
 intro pins s Z H R I h;refine Call_ (Jf I hg hm NP.su (Zxf (thn (ha pos pins s Z H _ I h) λus s1 ⟨vs,H1,I1,r1,q1⟩=>?_) (B6 (Az hn).1) (C1 (Az hn).2)));obtain⟨a,b,xs,ys,e,ha,hb,q⟩:=q1;subst e;obtain⟨u,u',rfl,ru,ru'⟩:=Ti r1;cases ru;cases ru';obtain⟨its,rv,hl,hal⟩:=Bc I1 ha;obtain⟨its2,rv2,hl2,hz2⟩:=I1.tuple hb;have hbl:b<s1.heap.objs.size:=by obtain⟨o,ho,_⟩:=hl2;exact Zzn ho
 refine jp hl hl2 λh' g1 g2 g3 g4 g5 hk=>wpAny_pyIter_zip g1 ?_;have I2:Inv X pins Z H1 {s1 with heap:=h'}:=I1.kept (t':=s1.toks) hk;have nd:[s1.heap.objs.size+4,s1.heap.objs.size+2,s1.heap.objs.size+3,s1.heap.objs.size,s1.heap.objs.size+1].Nodup:=by
  simp only[Zyg,Zzu,Zzf,or_false,not_or,Zwo,and_true,not_false_eq_true];refine⟨⟨?_,?_,?_,?_⟩,⟨?_,?_,?_⟩,⟨?_,?_⟩,?_⟩<;>(intro z;have z':(_:Nat)=_:=z;lia)
 have off:∀c:Addr,c<s1.heap.objs.size->c∉[s1.heap.objs.size+4,s1.heap.objs.size+3,s1.heap.objs.size,s1.heap.objs.size+1]:=λc hc z=>by
  simp only[Zzu,Zzf,or_false] at z;rcases z with q | q | q | q<;>rw[q] at hc<;>first | exact absurd hc (Nat.not_lt.mpr (Zvz _ _)) | exact absurd hc (Zxk _)
 refine⟨s1.heap.objs.size+4,[s1.heap.objs.size+4,s1.heap.objs.size+2,s1.heap.objs.size+3,s1.heap.objs.size,s1.heap.objs.size+1],_,_,H1,rfl,I2,i3 _ _ _ _ _ a b xs ys nd (off a hal) (off b hbl),⟨g1,g2,⟨_,_,g3⟩,g4,g5⟩,λc hc=>?_,q⟩;have hb':s1.heap.objs.size<=c:=by
  simp only[Zzu,Zzf,or_false] at hc;rcases hc with q | q | q | q | q<;>rw[q]<;>first | exact Zvz _ _ | exact Zzx _
 exact I1.fpOk hb' (I1.hok.fresh hb')
def z8(p:Params)(l:List (Str×Tok×Addr)):Array DictEntry:=(l.map λe=>{hash:=PyData.keyHash p e.1,key:=.str e.1 e.2.1,val:=.ref e.2.2}).toArray
def DM(w:World)(K:Zzy)(a:Addr)(l:List (Str×Tok×Addr)):Prop:=(∃ep,K.lookup a=some {cls:=.type "dict",data:=.dict (z8 w.params l) ep})/\(l.map (·.1)).Nodup/\(a == sysModules)=false
def L8(l:List (Str×Tok×Addr)):List (Key×Value):=l.map λe=>(Zy9 e.1,Value.ref e.2.2)
def Gn(l:List (Str×Tok×Addr))(x:Str):V:=match l.find? (λe=>decide (e.1=x)) with
 |some e=>.ref e.2.2
 |none=>.non
theorem To:∀l:List (Str×Tok×Addr),Pairs (B5 P w) (l.map λe=>{hash:=PyData.keyHash w.params e.1,key:=.str e.1 e.2.1,val:=.ref e.2.2}) (L8 l)
 |[]=>.nil
 |e::r=>.cons (G4 P w e.1 e.2.1) rfl (To r)
theorem DM.dict(T:DM w K a l)(X:K.In h):h.DictOf (B5 P w) a (L8 l):=by
 obtain⟨⟨ep,lk⟩,nd,_⟩:=T;refine⟨_,_,ep,X a _ lk,⟨rfl,rfl,rfl⟩,rfl,λe he=>?_,?_,?_⟩
 ·unfold z8 at he;have he:e∈(l.map λe=>({hash:=PyData.keyHash w.params e.1,key:=.str e.1 e.2.1,val:=.ref e.2.2}:DictEntry)):=by simpa using he
  obtain⟨q,hq,rfl⟩:=Zzo.mp he;exact⟨.inr q.1,G4 P w q.1 q.2.1,rfl⟩
 ·exact To l
 ·unfold L8;rw[Zyd];have:(Zxp ((λx=>x.1)∘λe:Str×Tok×Addr=>((Zy9 e.1:Key),Value.ref e.2.2)) l)=(l.map (·.1)).map Zy9:=by rw[Zyd];rfl
  rw[this];exact nd.map _ λx y n e=>n (Zwa e)
theorem br(l:List (Str×Tok×Addr))(x:Str):AC (Gn l x) ((valueAt (L8 l) (.inr x)).getD .none):=by
 unfold Gn valueAt L8;rw[List.find?_map];have:(λkv:Key×Value=>decide (kv.1=(Zy9 x:Key)))∘(λe:Str×Tok×Addr=>((Zy9 e.1:Key),Value.ref e.2.2))=λe=>decide (e.1=x):=by
  funext e;simp
 rw[this];cases l.find? (λe=>decide (e.1=x)) with
 |none=>rfl
 |some e=>rfl
def Wy(l:List (Str×Tok×Addr))(ty:TE):TE:=λZ H Q=>ty Z H λy H1=>∃x,y=.str x/\Q (Gn l x) H1
theorem da{o:Expr}{ty:TE}{cpos:Pos}(T:DM X.w X.K a l)(ho:PE X o (λ_ H Q=>Q (.ref a) H))(he:PE X e ty)(m:M1 X o "get" apos e cpos):PE X (.Call (.Attribute o "get" apos) [e] [] cpos) (Wy l ty):=by
 intro pins s Z H Q I h;refine wpAny_Call_method m.base m.few m.line PySem.F.plainAttrs_dict PySem.F.slot_dict_get PySem.F.type_dict_get (thn (ho pins s Z H (λx H1=>x=.ref a/\H1=H) I ⟨rfl,rfl⟩) λu s1 z0=>?_);obtain⟨x,H1,I1,rx,ex,eH⟩:=z0;subst ex eH;obtain rfl:u=Value.ref a:=rx;have d1:s1.heap.DictOf (B5 X.prog X.w) a (L8 l):=T.dict I1.kIn;refine⟨d1.typeIs,λb q=>?_,?_⟩
 ·cases q;obtain⟨ob,_,_,e1,e2,_⟩:=d1;exact⟨ob,e1,e2.2.1⟩
 rw[m.trees];refine Calls.callWith_builtin rfl (Zut (Calls.spliced_cons (thn (he pins s1 Z H1 _ I1 h) λiv s2 ⟨y,H2,I2,ry,x,ey,q2⟩=>Calls.spliced_nil ?_)));subst ey;have d2:s2.heap.DictOf (B5 X.prog X.w) a (L8 l):=T.dict I2.kIn;obtain⟨t,rfl⟩:=ry;exact call_meetsIn PySem.F.slot_dict_get d2.typeIs PySem.F.entry_dict_get (PySem.F.args_dict_get_2 _ _) (meets_dict_get (B5 X.prog X.w) a (G4 X.prog X.w x t) T.2.2) ⟨_,d2.mapOf,⟨_,H2,I2.tok _,br l x,q2⟩⟩
def EG(K:Zzy)(a:Addr)(l:List (Str×Tok)):Prop:=∃n,K.lookup a=some {cls:=.type "tuple",data:=.seq (l.map λe=>Value.str e.1 e.2).toArray n}
theorem EG.sq{l:List (Str×Tok)}(T:EG K a l)(hl:l.length<=1000)(H:Hp):SqT K H a ((l.map (·.1)).map V.str):=by
 obtain⟨n,lk⟩:=T;refine .inr ⟨_,_,n,lk,rfl,rfl,by rw[Zzs,Zzz];exact Zzk hl (by decide),?_⟩;have:∀l:List (Str×Tok),AB ((l.map (·.1)).map V.str) (l.map λe=>Value.str e.1 e.2):=λl=>by
  induction l with
  |nil=>exact .nil
  |cons e r ih=>exact .cons ⟨_,rfl⟩ ih
 exact this l
def EK:List V->Hp->VK->Prop:=λxs H Q=>∃x:Str,xs=[.str x]/\Q (.str x) H
theorem jr:AK X (.type "str") EK:=by
 intro pins s Z H xs us Q I r h;obtain⟨x,rfl,q⟩:=h;obtain⟨u,rfl,t,rfl⟩:=Gf r;exact P.str_of_str ⟨.str x,H,I,⟨_,rfl⟩,q⟩
def cg:R2:=λx y H Q=>∃(z:Str) (n:Int),x=.str z/\y=.int n/\z.length<=1000/\0<=n/\n<=1000/\∀z':Str,z'.length<=z.length*n.toNat->(∀c∈z'.cps.toList,c∈z.cps.toList)->Q (.str z') H
def FN:List V->Hp->VK->Prop:=λxs H Q=>EJ xs H Q\/EK xs H Q
theorem L0:AK X (.type "str") FN:=by
 intro pins s Z H xs us Q I r h;rcases h with h | h
 ·exact Fd pins s Z H xs us Q I r h
 ·exact jr pins s Z H xs us Q I r h
end L2
namespace L2
open PySem PySem.Spec PyProof.Rows PySem.W
def A18(P:Program)(w:World)(K:Zzy)(mg:Str->Option Value)(base:Heap)(f:Addr)(k:Nat)(ps:List Str)(sp:Sp):Prop:=∃fd,BD K fd ps []/\Ax P w K mg base CX0 k f fd ps sp
section
variable {k:Nat}{m:Str}{p:Pos}{o:Expr}
theorem nj(h:A18 X.prog X.w X.K X.mg X.base f k ps sp)(M:Mk X.K C f)(hr:AN (k+1) X.A)(hg:Gl X x)(hm:X.mg x=some (.ref C))(hdb:(x == ("__debug__" : Str))=false:=by decide):PE X (.Call (.Name x p) [] [] pos) (Tq C sp [] E0 EB):=by
 obtain⟨fd,hb,F⟩:=h;exact nt M F hr hg hm hb .nil zb hdb
end
def i9(a:Addr)(l:List (Str×Tok×Addr)):R2:=λx y H Q=>x=.ref a/\∃k fa,y=.str k/\Gn l k=.ref fa/\Q (.ref fa) H
theorem A0r(T:DM X.w X.K a l):IxR X (i9 a l):=by
 intro value slice pins s Z H x y v u Q I rx ry h hs;obtain⟨rfl,k,fa,rfl,hl,q⟩:=h;cases rx;obtain⟨t,rfl⟩:=ry;have d:s.heap.DictOf (B5 X.prog X.w) a (L8 l):=T.dict I.kIn;have hv:valueAt (L8 l) (.inr k)=some (.ref fa):=by
  have r:=br l k;rw[hl] at r;cases e:valueAt (L8 l) (.inr k) with
  |none=>rw[e] at r;cases r
  |some z=>rw[e] at r;exact congrArg some r
 exact tail_any d.typeIs PySem.F.slot_dict_getitem.lookup (wpAny_getItem_of (G4 X.prog X.w k t) d.mapOf hv ⟨.ref fa,H,I.tok _,rfl,q⟩) hs
theorem A0f{o b:Expr}{tb:TE}(T:DM X.w X.K a l)(ho:PE X o (λ_ H Q=>Q (.ref a) H))(hb:PE X b tb)(hs:Wh b):PE X (.Subscript o b pos) (tOp (i9 a l) (λ_ H Q=>Q (.ref a) H) tb):=db (A0r T) ho hb hs
def ES:V->List V->Hp->VK->Prop:=λx vs H Q=>∃y z,x=.str y/\vs=[.str z]/\Q (.bl (Txt.startswith y z)) H
theorem iq:MtM X "str.startswith" ES:=by
 intro pins s Z H x vs v us Q I rx rv h;obtain⟨y,z,rfl,rfl,q⟩:=h;obtain⟨t,rfl⟩:=rx;obtain⟨u,rfl,ru⟩:=rv.one;obtain⟨t2,rfl⟩:=ru;exact SC.startswith ⟨.bl _,H,I,rfl,q⟩
abbrev TFx:=Str->St->Hp->VK->Prop
def PFx(X:Cx)(es:List Expr)(t:TFx):Prop:=∀(pins:List (Addr×Obj)) (s:Shared) (Z:St) (H:Hp) (acc:Str) (Q:VK),Inv X pins Z H s->t acc Z H Q->wpAny (model X.prog X.w) X.A (joinParts acc (evalEach es X.env)) (EP X pins Z Q) X.xe s
def FO:TFx:=λacc _ H Q=>acc.length<=1000000/\Q (.str acc) H
def X0(x:Str)(t:TFx):TFx:=λacc Z H Q=>(acc++x).length<=1000000/\t (acc++x) Z H Q
def Wz(te:TE)(t:TFx):TFx:=λacc Z H Q=>te Z H λv H1=>∃i:Int,v=.int i/\i.natAbs<10^577/\(acc++Str.ofString (toString i)).length<=1000000/\t (acc++Str.ofString (toString i)) Z H1 Q
section
variable {t:TFx}{p q:Pos}
theorem Pn:PFx X [] FO:=λpins s Z H acc Q I h=>joinParts_nil ⟨.str acc,H,I.tok _,⟨_,rfl⟩,h.2⟩ (Fj h.1)
theorem Mj(ht:PFx X es t):PFx X (.Constant (.str x) j p::es) (X0 x t):=λpins s Z H acc Q I h=>joinParts_cons (Zuf ⟨Fj h.1,ht pins _ Z H (acc++x) Q (I.tok _) h.2⟩)
theorem Mi(he:PE X e te)(ht:PFx X es t):PFx X (.FormattedValue e (-1) none p::es) (Wz te t):=λpins s Z H acc Q I h=>by
 refine joinParts_cons (FormattedValue_plain (thn (he pins s Z H _ I h) λu s1 z0=>?_));obtain⟨v,H1,I1,r,i,hv,hi,hl,hq⟩:=z0;subst hv;obtain⟨tk,rfl⟩:=r;exact formatField_int_small (qc hi) ⟨Fj hl,ht pins _ Z H1 _ Q (I1.tok _) hq⟩
theorem Ve(h:PFx X (e::e2::es) t):PE X (.JoinedStr (e::e2::es) p) (λZ H Q=>t Str.empty Z H Q):=λpins s Z H Q I hq=>JoinedStr_many (h pins s Z H Str.empty Q I hq)
end
theorem yf{E:XK}:(Nx CX P w K mg base N q sc f cd A outer s H E).K=K:=rfl
theorem wu{x:Value}{env':Env}(h:env'.frame=env.frame):noteFrame x env'=noteFrame x env:=by
 unfold noteFrame PySem.frameOf;rw[h]
theorem xy{l:List Env}{e:Addr}{a0 fl:Value}{fr:Option Addr}{Q:Unit->Shared->Prop}(kb:B.StaysIn s.heap)(kf:s.heap.FunFrames B l)(tr:s.heap.TracedAtW B e cls a0 fl)
  (hq:∀h',B.StaysIn h'->h'.FunFrames B l->h'.TracedAtW B e cls a0 (fr.elim Value.none λf=>rawInt f)->s.heap.UpToSlots h'->Q () {s with heap:=h'}):wpAny M A (setFlight (.ref e) fr) Q E s:=by
 obtain⟨oe,vs,T,oT,ts,q1,q2,q3,q4,q5,q6,q7,q8,q9⟩:=tr;have z3:=(Zvs.mp q9).1;have ot:∀b,b≠T->(s.heap.update T (Obj.mapFields (·.setIfInBounds 3 (fr.elim Value.none λf=>rawInt f)))).get? b=s.heap.get? b:=λb n=>Zyt _ _ (Zza n);have nr:∀b o,s.heap.get? b=some o->(∀us,o.data≠.fields us)->b≠T:=λb o g n z=>by
  rw[z,q7] at g;cases g;exact n ts q8
 unfold setFlight;refine FU (wpAny_field q1 q3 q4 ?_);rw[FT (by simp:(Value.ref T != Value.none)=true)];have md:=Obj.data_mapFields q8 (·.setIfInBounds 3 (fr.elim Value.none λf=>rawInt f));refine wpAny_setField q7 q8 z3 (hq _ (λb o g=>?_) (kf.of_keeps λb o g n=>⟨o,(ot b (nr b o g n)).trans g,rfl⟩) ?_ λb o g n=>⟨o.slots,(ot b (nr b o g n)).trans g⟩)
 ·exact(ot b λz=>by rw[z,q5] at g;cases g).trans (kb b o g)
 ·exact⟨oe,vs,T,_,_,(ot e (Zza q6)).trans q1,q2,q3,q4,q5,q6,Zxn _ q7 (Obj.isFreed_of_fields md),md,by simp[z3]⟩
theorem je{e:Addr}{a0 fl:Value}{Q:Unit->Shared->Prop}(fr:A.frames=some (env::outer))(hf:env.frame=some L)(kb:B.StaysIn s.heap)(be:B.get? e=none)(kf:s.heap.FunFrames B (env::outer))(tr:s.heap.TracedAtW B e cls a0 fl)
  (hq:∀h',Zwl B outer e cls a0 h'->s.heap.UpToSlots h'->Q () {s with heap:=h'}):wpAny M A (leaving env (.ref e)) Q E s:=by
 have AO:∀s1:Shared,Heap.HeldW B (env::outer) e cls a0 L s1.heap->s.heap.UpToSlots s1.heap->(∀h',{s1 with heap:=h'}={s with heap:=h'})->wpAny M A (setFlight (.ref e) none) Q E s1:=λs1 hh up eq=>by
  refine wpAny_landsW hh λh' f u=>?_;rw[eq];obtain⟨k1,k2,⟨_,_,k3⟩,k4⟩:=f;exact hq h' ⟨k1,k2,k3,k4⟩ (up.trans u)
 unfold leaving;by_cases c:(fl == rawInt L)=true
 ·rw[eq_of_beq c] at tr;exact FU (wpAny_noteFrame_againW hf tr (AO s ⟨kb,be,kf,tr⟩ (Heap.UpToSlots.refl _) λ_=>rfl))
 ·obtain⟨oe,vs,T,oT,ts,q1,⟨q2,q0⟩,q3,q4,q5,q6,q7,q8,q9⟩:=tr;subst q2;have ot:∀b,b≠T->(s.heap.update T (Obj.mapFields (·.setIfInBounds 3 Value.none))).get? b=s.heap.get? b:=λb n=>Zyt _ _ (Zza n);have nr:∀b o,s.heap.get? b=some o->(∀us,o.data≠.fields us)->b≠T:=λb o g n z=>by
   rw[z,q7] at g;cases g;exact n ts q8
  refine FU ?_;unfold noteFrame;simp only[hf];refine FU (wpAny_field q1 q3 q4 ?_);rw[FT (by simp:(Value.ref T != Value.none)=true)];refine FU (wpAny_field q7 q8 q9 ?_);rw[FS c];refine FU (wpAny_setField q7 q8 (Zvs.mp q9).1 ?_);refine wpAny_entryW fr (kf.of_keeps λb o g n=>⟨o,(ot b (nr b o g n)).trans g,rfl⟩) hf ((ot e (Zza q6)).trans q1) (λb o g=>?_) be q3 (Zvs.mp q4).1 q0 λh' ⟨x1,x2,x3,x4⟩=>?_
  ·exact(ot b λz=>by rw[z,q5] at g;cases g).trans (kb b o g)
  ·exact AO _ ⟨x1,be,x2,x3⟩ (λb o g n=>x4 b o ((ot b (nr b o g n)).trans g) n) λ_=>rfl
section
variable {e:Addr}{a0 fl:Value}
theorem My{b:Addr}{o:Obj}(g:(hideAll B [C]).get? b=some o):b≠C/\B.get? b=some o:=⟨(λz=>by rw[z,hideAll_none [C] (by simp)] at g;cases g),of_hideAll _ g⟩
theorem Ox(sb:Zxd C h h'):∀{l:List Env},C∉frs l->h.FunFrames B l->h'.FunFrames (hideAll B [C]) l
 |[],_,_=>trivial
 |env::r,n,⟨hk,⟨L,o,hf,hn,ho,hd⟩,hr⟩=>by
  have e:frs (env::r)=L::frs r:=by
   unfold frs;rw[Zwi,hf]
  rw[e] at n;have n1:L≠C:=λz=>n (by rw[z];exact Zzj);refine⟨hk,⟨L,o,hf,?_,(sb.2 L n1).trans ho,hd⟩,Ox sb (λz=>n (Zzl _ z)) hr⟩;cases g:(hideAll B [C]).get? L with
  |none=>rfl
  |some o'=>rw[(My g).2] at hn;cases hn
theorem Yh(sb:Zxd C h h')(n:∀o,h.get? C=some o->∀us,o.data≠.fields us)(t:h.TracedAtW B e cls a0 fl):h'.TracedAtW (hideAll B [C]) e cls a0 fl:=by
 obtain⟨oe,vs,T,oT,ts,q1,q2,q3,q4,q5,q6,q7,q8,q9⟩:=t;have ne:e≠C:=λz=>n oe (by rw[<- z];exact q1) vs q3;have nT:T≠C:=λz=>n oT (by rw[<- z];exact q7) ts q8;refine⟨oe,vs,T,oT,ts,(sb.2 e ne).trans q1,q2,q3,q4,?_,q6,(sb.2 T nT).trans q7,q8,q9⟩;cases g:(hideAll B [C]).get? T with
 |none=>rfl
 |some o=>rw[(My g).2] at q5;cases q5
theorem Fl.hide{fs:List Addr}{h0:Heap}(F:Fl P w fs H h0 a H' B h)(sb:Zxd C h h')(n0:h0.objs.size<=C)(nC:H' C=none):Fl P w fs H h0 a H' (hideAll B [C]) h' where
 un:={
  keep:=λb o e n hb hx=>(sb.2 b (Av (Zzn e) n0)).trans (F.un.keep b o e n hb hx)
  slot:=λb o e n hb hx=>by
   obtain⟨sl,q⟩:=F.un.slot b o e n hb hx
   exact⟨sl,(sb.2 b (Av (Zzn e) n0)).trans q⟩
  free:=F.un.free
  there:=λb o e hx=>by
   obtain⟨o',q⟩:=F.un.there b o e hx
   exact⟨o',(sb.2 b (Av (Zzn e) n0)).trans q⟩
  tups:=F.un.tups
  frzs:=F.un.frzs
  tbls:=F.un.tbls}
 hok:=λb u e=>(F.hok b u e).stay (λc o hc q=>(sb.2 c (by
  rcases hc with rfl | hc
  ·exact λz=>by rw[z,nC] at e;cases e
  ·exact λz=>by rw[z,nC] at hc;cases hc)).trans q) (λ_ q=>q) λ_ _ q=>q
 new:=F.new;free:=F.free;k1:=λb o e n hb=>hideAll_get _ (F.k1 b o e n hb) (by simpa using Av (Zzn e) n0);k2:=λb o u e q=>by
  have nb:b≠C:=λz=>by rw[z,nC] at e;cases e
  rw[sb.2 b nb] at q;exact hideAll_get _ (F.k2 b o u e q) (by simpa using nb)
 k3:=λb o e hb=>by
  obtain⟨o',q⟩:=F.k3 b o e hb;exact⟨o',hideAll_get _ q (by simpa using Av (Zzn e) n0)⟩
 fr:=F.fr
end
theorem Kk{target:Expr}{it acc:Value}(I:Nat->Shared->Prop)
  (turn:∀n s,I n s->wpAny (model prog w) A (pyNext it) (λr s₁=>match r with
   |none=>R (.ok .next) s₁
   |some v=>wpAny (model prog w) A (letOwnedTupleGo target it v) (λ_ s₁'=>wpAny (model prog w) A (assign target env v) (λ_ s₂ =>
     wpAny (model prog w) A (forIn ifs true λc r=>if r=true then do let ok <- isTrue c env (eval c env);pure (ForInStep.yield ok) else pure (ForInStep.yield r)) (λok s₃ =>
      if ok=true then wpAny (model prog w) A (eval elt env) (λx s₄ =>
       wpAny (model prog w) A (call (.builtin "list.append") [acc,x]) (λ_ s₅=>∃m,m<n/\I m s₅) (λ_ _=>False) s₄) (notedBy (model prog w) A env λx s'=>R (.error x) s') s₃
      else ∃m,m<n/\I m s₃) (notedBy (model prog w) A env λx s'=>R (.error x) s') s₂) (notedBy (model prog w) A env λx s'=>R (.error x) s') s₁') (λ_ _=>False) s₁) (λ_ _=>False) s)
  (n:Nat) (h:I n s) :
  codeAny (model prog w) A (.compLoop (.ListComp elt [⟨target,iter,ifs,0⟩] scope pos) 0 it acc env) R s:=by
 refine codeAny_loop rfl I (λn s hI=>?_) n h;show wpAny _ A ((compTurn (.ListComp elt [⟨target,iter,ifs,0⟩] scope pos) 0 it acc env).onRaise (λx=>do noteFrame x env;theTreesLotGoes x)) _ _ s;refine wpAny_noted ?_;rw[compTurn_list];refine FU (wpAny_standAt (FU (wpAny_mono (turn n s hI) (λr s₁ h₁=>?_) λ_ _ h'=>h'.elim)));cases r with
 |none=>exact FV h₁
 |some v =>
  refine FU (wpAny_mono h₁ (λ_ s₁' h₁'=>?_) λ_ _ h'=>h'.elim);refine FU (wpAny_mono h₁' (λ_ s₂ h₂=>FU (wpAny_mono h₂ (λok s₃ h₃=>?_) λ_ _ h'=>h')) λ_ _ h'=>h');cases ok with
  |false=>exact FV ⟨rfl,h₃⟩
  |true =>
   exact FU (FU (wpAny_mono h₃ (λx s₄ h₄=>FU (wpAny_mono h₄ (λ_ s₅ h₅=>FV (FV ⟨rfl,h₅⟩)) λ_ _ h'=>h'.elim)) λ_ _ h'=>h'))
def sv(X:Cx)(C:Addr)(x:Value)(s':Shared):Prop:=∃m,s'.heap.Ns C m/\∀h',Zxd C s'.heap h'->∀cenv:Env,cenv.locals=C->wpAny (model X.prog X.w) X.A (PySem.passOn "comprehension.variables-let-go" x cenv:Sem Value) (λ_ _=>False) X.xe {s' with heap:=h'}
def Wi(X:Cx)(G:Value->Hp->Prop):Prop:=∀(pins:List (Addr×Obj)) (Z:St) (H:Hp) (s:Shared) (C:Addr) (e:Value) (s':Shared),Inv X pins Z H s->X.s₀.heap.objs.size<=C->C∉frs X.stack->H C=none->(∃m,s.heap.Ns C m)->CXE X.prog X.w X.stack H s (λcls _ H'=>G cls H') e s'->notedBy (model X.prog X.w) X.A X.env (sv X C) e s'
section
variable {E:XK}
theorem w6:Wi (Nx (CXE P w) P w K mg base N qual scope f cd A outer s H E) λcls H'=>E cls none H':=by
 rintro pins Z H1 s1 C e s2 I hC nst nH ⟨m,hns⟩ ⟨a,cls,H2,B,t,he,os,bare,F,fl,hE⟩;subst he;have hns':=hns;obtain⟨oC,es,ep,gC,dC,rC⟩:=hns';show wpAny _ _ (noteFrame (.ref a) _) _ _ _;refine(Kn.noteFrame (.ref a) _).with fl.2 (C:=λh'=>Heap.HeldW B (envOfC qual scope s.heap.objs.size f cd::outer) a cls (.ref t) s.heap.objs.size h'/\s2.heap.UpToSlots h') (λQ' hq=>wpAny_looks_onW (outer:=outer) I.ok.frames rfl fl.1 λh' x y=>hq h' ⟨x,y⟩) λh' z n1=>?_;obtain⟨held,up⟩:=z;have F1:Fl P w (s.heap.objs.size::frs outer) H1 s1.heap a H2 B h':=F.on held.1 up;have F2:=F1.out I.base (Zzx _) (rz I);have gC':h'.get? C=some oC:=F1.un.keep C oC gC nH nst (by simp);have nC:H2 C=none:=F1.un.free C oC gC nH (by simp);refine⟨m,⟨oC,es,ep,gC',dC,rC⟩,λh2 sb cenv _=>?_⟩;have F3:=F2.hide sb hC nC;have tr:=Yh sb (λo g us z=>by rw[gC'] at g;cases g;rw[dC] at z;cases z) held.2.2.2;have kf:=Ox (B:=B) sb nst held.2.2.1;have kb:(hideAll B [C]).StaysIn h2:=λb o g=>(sb.2 b (My g).1).trans (held.1 b o (My g).2);have be:(hideAll B [C]).get? a=none:=by
  cases g:(hideAll B [C]).get? a with
  |none=>rfl
  |some o=>have:=(My g).2;rw[held.2.1] at this;cases this
 have tr':=tr;obtain⟨oe,vs,T,oT,ts,q1,q2,q3,q4,_⟩:=tr';unfold PySem.passOn;refine FU (wpAny_field q1 q3 q4 ?_);rw[FS (by simp:¬ (Value.ref T == Value.none)=true)];have n2:N2 a h2:=by
  obtain⟨o,us,e1,e2,e3⟩:=n1;refine⟨o,us,(sb.2 a λz=>?_).trans e1,e2,e3⟩;rw[z,gC'] at e1;cases e1;rw[dC] at e2;cases e2
 refine FU ((Kn.setFlight (.ref a) _).with (s:={s2 with heap:=h2}) n2 (C:=λh3=>((hideAll B [C]).StaysIn h3/\h3.FunFrames (hideAll B [C]) _/\h3.TracedAtW (hideAll B [C]) a cls (.ref t) _)/\h2.UpToSlots h3) (λQ' hq=>xy kb kf tr λh3 k1 k2 k3 up3=>hq h3 ⟨⟨k1,k2,k3⟩,up3⟩) λh3 z n3=>?_);obtain⟨⟨k1,k2,k3⟩,up3⟩:=z;refine wpAny_throw ?_;refine(Kn.leaving (.ref a) _).with (s:={s2 with heap:=h3}) n3 (C:=λh4=>Zwl (hideAll B [C]) outer a cls (.ref t) h4/\h3.UpToSlots h4) (λQ' hq=>je I.ok.frames rfl k1 be k2 k3 λh4 f4 up4=>hq h4 ⟨f4,up4⟩) λh4 z n4=>?_;obtain⟨f4,up4⟩:=z;exact⟨a,cls,H2,hideAll B [C],t,rfl,os.trans I.os,bare,(F3.on k1 up3).on f4.1 up4,⟨f4,n4⟩,hE⟩
end
def Dn(X:Cx)(sc:Scope)(own:List Str)(cap:List Nat)(cl:List (Str×Addr))(C:Addr)(s:Shared)(H:Hp)(fp:List Addr)(pins:List (Addr×Obj))(xe:Value->Shared->Prop):Cx:={AD X sc own cap cl C s H fp pins with xe:=xe}
section
variable {xe:Value->Shared->Prop}
theorem A0y(o:(AD X sc own cap cl C s H fp pins).Ok):(Dn X sc own cap cl C s H fp pins xe).Ok:=⟨o.mod,o.kind,o.glob,o.blt,o.above,o.inj,o.has,o.cab,o.hd,o.frames,o.stk,o.exf,o.bs,o.bsz,o.noex,o.exfs,o.funs,o.frf⟩
theorem A0z(o:(Dn X sc own cap cl C s H fp pins xe).Ok):(AD X sc own cap cl C s H fp pins).Ok:=⟨o.mod,o.kind,o.glob,o.blt,o.above,o.inj,o.has,o.cab,o.hd,o.frames,o.stk,o.exf,o.bs,o.bsz,o.noex,o.exfs,o.funs,o.frf⟩
theorem Inv.toX(I:Inv (AD X sc own cap cl C s H fp pins) pl Z H' s'):Inv (Dn X sc own cap cl C s H fp pins xe) pl Z H' s':=⟨A0y I.ok,I.os,I.bare,I.base,I.loc,I.cell,I.free,I.freeC,I.pin,I.hok,I.len⟩
theorem Inv.ofX(I:Inv (Dn X sc own cap cl C s H fp pins xe) pl Z H' s'):Inv (AD X sc own cap cl C s H fp pins) pl Z H' s':=⟨A0z I.ok,I.os,I.bare,I.base,I.loc,I.cell,I.free,I.freeC,I.pin,I.hok,I.len⟩
end
theorem Yp
  {it:Addr} {tn:Nat->Heap->Prop} {J:It} {Q:VK} {RR:Value->Addr->Result->Shared->Prop}
  (hc:X.calm=true) (S:G0 X.N X.env.scope sc own cap) (hown:Wj own.length g)
  (cl1:∀x c,cl.lookup x=some c->X.env.cells.lookup x=some c) (cl2:∀x,(x,Zyx)∈sc.names->∃c,cl.lookup x=some c)
  {G:Value->Hp->Prop} (hG:Wi X G) (hb:∀cl C s H fp pins xe,Jm (Dn X sc own cap cl C s H fp pins xe) (λcls _ H'=>G cls H')->PG (Dn X sc own cap cl C s H fp pins xe) tg g/\PTs (Dn X sc own cap cl C s H fp pins xe) ifs tt/\PE (Dn X sc own cap cl C s H fp pins xe) elt te)
  (I:Inv X pins Z H s) (T:O3 X.prog X.w X.K tg J fp it tn) (st:tn 0 s.heap) (f:∀b∈fp,Ge X pins H b)
  (W:Nat->Nat->List V->Hp->Prop) (w0:∃m,W 0 m [] H)
  (turn:∀i m acc H,W i m acc H->acc.length<=sizeLine/\((J.stop i H/\∀p,H p=none->Q (.ref p) (upd H p (.lst acc)))\/(J.go i H/\acc.length<sizeLine/\∃N:List V->Hp->Prop,(∀acc' H',N acc' H'->∃m',m'<m/\W (i+1) m' acc' H')/\∀x H',J.yld i H x H'->g x (E6 own cap Z) H' λσ2 H2=>tt σ2 H2 λb H3=>if b=true then te σ2 H3 λy H4=>N (acc++[y]) H4 else N acc H3)))
  (hRE:∀D C x s',sv X C x s'->RR D C (.error x) s') (hRR:∀D C H' s',Inv X pins Z H' s'->(∃m,s'.heap.Ns C m)->Ge X pins H' C->Q (.ref D) H'->RR (.ref D) C (.ok .next) s') :
  wpAny (model X.prog X.w) X.A (newList []) (λacc s₃=>wpAny (model X.prog X.w) X.A (newFunctionEnv sc X.env.globals cl [] X.env.qual none .none (some X.env)) (λcenv s₄ =>
   codeAny (model X.prog X.w) X.A (.compStart (.ListComp elt [⟨tg,iter,ifs,0⟩] sc pos) 0 (.ref it) acc {cenv with scope:=relabel sc X.env}) (RR acc cenv.locals) s₄) E s₃) E s:=by
 refine wpAny_newObj_type (wpAny_newFunctionEnv S.nocell (by intro y hy;simp at hy) (λh₁ hns₁ hsb₁=>?_) S.kind);dsimp only at hns₁ hsb₁ ⊢;generalize hH2:s.heap.push {cls:=.type "list",dict:=none,data:=.seq ([]:List Value).toArray}=H2 at hns₁ hsb₁ ⊢;have hCs:H2.objs.size=s.heap.objs.size+1:=by rw[<- hH2,Zy2]
 have hDC:s.heap.objs.size≠H2.objs.size:=by lia
 have hCle:s.heap.objs.size<=H2.objs.size:=by lia
 have old:∀b o,s.heap.get? b=some o->h₁.get? b=some o:=λb o e=>by
  exact hsb₁.extBut b o (Av (Zzn e) hCle) (Zzv _ (hH2▸Zzv _ e))
 have hacc:h₁.get? s.heap.objs.size=some {cls:=.type "list",data:=.seq ([]:List Value).toArray 0}:=hsb₁.extBut _ _ hDC (Zzv _ (hH2▸Zzh _ rfl));have live:∀b∈fp,b<s.heap.objs.size:=λb hb=>by
  obtain⟨o,e,_⟩:=T.obj _ _ st b hb;exact Zzn e
 have ok:=rn (C:=H2.objs.size) S cl1 cl2 I f live hCle;let Y:Cx:=Dn X sc own cap cl H2.objs.size s H fp pins (notedBy (model X.prog X.w) X.A (compEnvC sc cl H2.objs.size X.env) λx s'=>RR (.ref s.heap.objs.size) H2.objs.size (.error x) s')
 have hDst:s.heap.objs.size∉frs X.stack:=λz=>by
  rcases Zzu.mp (I.stkSub _ z) with q | q
  ·exact Av I.lt (Zzx _) q.symm
  ·exact I.nofs (Zzx _) q
 have fpX:∀(H':Hp) (pl:List (Addr×Obj)),(∀b∈fp,H' b=none)->(∀p∈pl,∀b∈fp,p.1≠b)->∀b∈fp,Ge (Y) pl H' b:=λH' pl hn hp b hb=>by
  obtain⟨f0,f1,f2,f3,f4,f5⟩:=f b hb;refine⟨hn b hb,λz=>?_,λz=>?_,.inl hb,λx c e=>f4 x c (cl1 x c e),λp hpp=>?_⟩
  ·exact Av (live b hb) hCle z
  ·rcases Zzu.mp (I.stkSub b z) with q | q
   ·exact f1 q
   ·exact f2 q
  ·rcases Zz2.mp hpp with q | q
   ·exact f5 p q
   ·exact hp p q b hb
 have hpass:Jm Y λcls _ H'=>G cls H':=by
  intro pl Z' H7 s7 e s8 J ex;show wpAny _ _ (noteFrame e (compEnvC sc cl H2.objs.size X.env)) _ _ _;rw[wu (env:=X.env) (env':=compEnvC sc cl H2.objs.size X.env) rfl];have u:Un (frs X.stack) fp H H7 s.heap s7.heap:=J.base;have IX:Inv X pins Z H7 s7:=I.call' (ch:=fp) J.os u J.hok J.bare λb hb=>by
   obtain⟨f0,f1,f2,f3,f4,f5⟩:=f b hb;exact⟨f3,f1,f4,f5⟩
  have nst:H2.objs.size∉frs X.stack:=λz=>by
   rcases Zzu.mp (I.stkSub _ z) with q | q
   ·exact Av I.lt hCle q.symm
   ·exact I.nofs hCle q
  obtain⟨m,hn,_⟩:=J.loc;refine wpAny_mono (hG pins Z H7 s7 H2.objs.size e s8 IX (Zzk I.sz hCle) nst J.free ⟨m,hn⟩ ex) (λ_ s' q=>hRE _ _ _ _ q) λ_ s' q=>hRE _ _ _ _ q
 have loop:∀s₃:Shared,s₃={s with heap:=h₁,toks:=s.toks+([]:List (Str×Value)).length} ->
   codeAny (model X.prog X.w) X.A (.compLoop (.ListComp elt [⟨tg,iter,ifs,0⟩] sc pos) 0 (.ref it) (.ref s.heap.objs.size) (compEnvC sc cl H2.objs.size X.env))
    (RR (.ref s.heap.objs.size) H2.objs.size) s₃:=by
  rintro s₃ rfl;obtain⟨m0,w0⟩:=w0;obtain⟨hg,ht,he⟩:=hb cl H2.objs.size s H fp pins _ hpass;have I0:Inv (Y) [] (E6 own cap Z) H {s with heap:=h₁,toks:=s.toks+([]:List (Str×Value)).length}:=(ai S cl1 cl2 I ok hCle hns₁ old).toX;refine Kk (λn s'=>∃i acc its nn H',Inv (Y) [] (E6 own cap Z) H' s'/\tn i s'.heap/\(∀b∈fp,H' b=none) /\
   s'.heap.get? s.heap.objs.size=some {cls:=.type "list",data:=.seq its.toArray nn}/\AB acc its/\H' s.heap.objs.size=none/\W i n acc H') ?_ m0
   ⟨0,[],[],0,H,I0,T.keep _ _ _ st (λb _ o e=>old b o e),λb hb=>(f b hb).1,hacc,.nil,I.hok.fresh (Zzx _),w0⟩
  rintro n s3 ⟨i,acc,its,nn,H3,I3,st3,fr3,hD3,rv3,hDn,w3⟩;obtain⟨hz,hcase⟩:=turn i n acc H3 w3;have hpl:∀p∈[((s.heap.objs.size:Addr),({cls:=.type "list",data:=.seq its.toArray nn}:Obj))],∀b∈fp,p.1≠b:=λp hp b hb z=>by
   have e:p=_:=Zzr.mp hp;rw[e] at z;exact Av (live b hb) (Zzx _) z.symm
  have I3':Inv (Y) [((s.heap.objs.size:Addr),({cls:=.type "list",data:=.seq its.toArray nn}:Obj))] (E6 own cap Z) H3 s3:=I3.pins_of λp hp=>by
   have e:p=_:=Zzr.mp hp;subst e;exact⟨hD3,hDn,hDC,hDst,λv z=>by cases z⟩
  rcases hcase with ⟨stop,fin⟩ | ⟨go,hlt,N,hN,step⟩
  ·refine thn (T.done (Y) rfl rfl rfl hc i _ s3 _ H3 _ I3' (fpX H3 _ fr3 hpl) st3 stop) λr s4 z0=>?_;obtain⟨hr,I4⟩:=z0;subst hr;have hD4:=(I4.pin (_,_) (Zzg _ (Zzr.mpr rfl))).1;obtain⟨J1,J2,J3⟩:=Wa I f hCle (Zzx _) hDC I4.ofX hDn hD4 rv3 hz;exact hRR _ _ _ _ J1 J2 J3 (fin _ hDn)
  ·refine thn (T.item (Y) rfl rfl rfl hc i _ s3 _ H3 _ I3' (fpX H3 _ fr3 hpl) st3 go) λr s4 z0=>?_;obtain⟨u,hr,h4⟩:=z0;subst hr;refine thn h4 λ_ s5 z0=>?_;obtain⟨x,H5,I5,r5,y5,st5,fr5⟩:=z0;have I5':=I5.pinned (fpX H5 _ fr5 hpl) (T.obj _ _ st5);refine thn (hg _ s5 _ H5 x u _ I5' r5 (hown _ _ _ _ (step x H5 y5))) λ_ s6 z0=>?_;obtain⟨σ6,H6,I6,⟨hx1,hx2⟩,q6⟩:=z0;refine thn (ht _ s6 σ6 H6 _ I6 q6) λb s7 z0=>?_;obtain⟨H7,I7,q7⟩:=z0;have wk:∀{H7:Hp} {s7:Shared} {pl:List (Addr×Obj)},Inv (Y) pl σ6 H7 s7->Inv (Y) pl (E6 own cap Z) H7 s7:=λI=>I.weak hx1.symm λj v e=>by
    rw[hx2 j (Kz e).1];exact e
   have stay:∀{H7:Hp} {s7:Shared} {σ7:St},Inv (Y) ([((s.heap.objs.size:Addr),({cls:=.type "list",data:=.seq its.toArray nn}:Obj))]++Im fp s5.heap) σ7 H7 s7 ->
     tn (i+1) s7.heap/\(∀b∈fp,H7 b=none)/\s7.heap.get? s.heap.objs.size=some {cls:=.type "list",data:=.seq its.toArray nn}/\H7 s.heap.objs.size=none:=λ{H7 s7 σ7} I7=>by
    refine⟨T.keep _ _ _ st5 λb hb o e=>(I7.pin (b,o) (Zzg _ (Zzg _ (Db hb e)))).1,λb hb=>?_,?_,?_⟩
    ·obtain⟨o,e,d⟩:=T.obj _ _ st5 b hb;exact(I7.pin (b,o) (Zzg _ (Zzg _ (Db hb e)))).2.1
    ·exact(I7.pin (_,_) (Zzg _ (Zyk _ (Zzr.mpr rfl)))).1
    ·exact(I7.pin (_,_) (Zzg _ (Zyk _ (Zzr.mpr rfl)))).2.1
   cases b with
   |false =>
    rw[FS Zzd] at q7 ⊢;obtain⟨m',hm,w7⟩:=hN _ _ q7;obtain⟨a1,a2,a3,a4⟩:=stay I7;exact⟨m',hm,i+1,acc,its,nn,H7,(wk I7).pins_of (λp hp=>absurd hp (by simp)),a1,a2,a3,rv3,a4,w7⟩
   |true =>
    rw[FT rfl] at q7 ⊢;refine thn (he _ s7 σ6 H7 _ I7 q7) λy s8 z0=>?_;obtain⟨v,H8,I8,r8,n8⟩:=z0;obtain⟨m',hm,w8⟩:=hN _ _ n8;obtain⟨a1,a2,a3,a4⟩:=stay I8;have hlen:=rv3.length;refine call_meets F.slot_list_append ⟨_,a3,rfl⟩ F.entry_list_append (F.args_list_append_2 _ _) (Zv6 s.heap.objs.size its.toArray nn y (by rw[Zzs];lia)) ⟨a3,?_⟩;obtain⟨n',q⟩:∃n',(s8.heap.update s.heap.objs.size (Obj.mapSeq (·.push y))).get? s.heap.objs.size=some {cls:=.type "list",data:=.seq (its++[y]).toArray n'}:=by
     have q:=Zv0 a3 (·.push y);have e:(its.toArray.push y)=(its++[y]).toArray:=by simp
     rw[<- e];exact⟨_,q⟩
    have I9:=(wk I8).pins_of (pins':=Im fp s5.heap) λp hp=>(wk I8).pin p (Zzg _ (Zzg _ hp));have kk:∀b o,b≠s.heap.objs.size->s8.heap.get? b=some o->(s8.heap.update s.heap.objs.size (Obj.mapSeq (·.push y))).get? b=some o:=λb o hb e=>(Zyt s8.heap (Obj.mapSeq (·.push y)) (Zza hb)).trans e;refine⟨m',hm,i+1,acc++[v],its++[y],n',H8,(I9.pins_of (pins':=[]) λp hp=>absurd hp (by simp)).turned (it:=s.heap.objs.size) kk a4 hDC (.inr (Zzx _)) (λx c e z=>?_) (λp hp z=>?_),T.keep _ _ _ a1 λb hb o e=>kk b o (λz=>?_) e,a2,q,rv3.append (.cons r8 .nil),a4,w8⟩
    ·have e:=cl1 x c e
     obtain⟨w',o,ho,_⟩:=I.cell x c e;exact Av (Zzn ho) (Zzx _) z
    ·have hp:p∈(X.pn++pins)++[]:=hp
     rw[Zyw] at hp;exact Av (Zzn (I.pin p hp).1) (Zzx _) z
    ·exact Av (live b hb) (Zzx _) z
 exact codeAny_compStart_list (loop _ rfl) (T.self _ 0 _ _ _ (T.keep _ _ _ st λb _ o e=>old b o e) (loop _ rfl))
theorem Xj{spos:Pos}{wi:TI}(hc:X.calm=true)(S:G0 X.N X.env.scope sc own cap)(hown:Wj own.length g)(hN:X.N.Nodup)(hx:X.N[i]?=some x)(hl:X.env.scope.names.lookup x=some .local)(hi:PI X tg iter wi)
  {G:Value->Hp->Prop} (hG:Wi X G) (hb:∀cl C s H fp pins xe,Jm (Dn X sc own cap cl C s H fp pins xe) (λcls _ H'=>G cls H')->PG (Dn X sc own cap cl C s H fp pins xe) tg g/\PTs (Dn X sc own cap cl C s H fp pins xe) ifs tt/\PE (Dn X sc own cap cl C s H fp pins xe) elt te)
  (hsw:swapsWith (.ListComp elt [⟨tg,iter,ifs,0⟩] sc pos) (some (.Name x pos')) spos.line X.env=pure true:=by rfl)
  (hs:∀x,foldedSetIterable iter X.env x=pure x:=by intro _;rfl):PS X (.Assign [.Name x pos'] (.ListComp elt [⟨tg,iter,ifs,0⟩] sc pos) spos) (X7 (X5 own cap wi g tt te) (Eh i)):=by
 intro pins s Z H D I h;obtain⟨cl,hcl,cl1,cl2⟩:=Dy (env:=X.env) (scope:=sc) λy hy hf=>I.ok.has y.1 (S.free y hy hf);rw[exec_Assign_Name_used _ _ _ _ hsw];refine FU (wpAny_standAt (FU ?_));show wpAny _ _ (do let _ <- comprehension (.ListComp elt [⟨tg,iter,ifs,0⟩] sc pos) sc X.env _ (newList []) false (eval iter X.env) (some (assign (.Name x pos') X.env))) _ _ s;refine FU (wpAny_mono (wpAny_comprehension_free (use:=some (assign (.Name x pos') X.env)) (Q:=λ_ s'=>SP X pins D .next s') rfl hs hcl S.kind S.names (thn (hi pins s Z H _ I h) λxv s1 h1=>thn h1 λitv s2 h2=>?_)) (λ_ s' hq=>FV (FV hq)) λ_ _ e=>e);obtain⟨it,fp,tn,J,H2,e,I2,T,st2,f2,W,w0,turn⟩:=h2;subst e;refine Yp (Q:=λx H1=>Eh i x Z H1 D.nx) (RR:=λacc C=>compPost (model X.prog X.w) X.A X.xe (some (assign (.Name x pos') X.env)) (λ_ s'=>SP X pins D .next s') acc C) hc S hown cl1 cl2 hG hb I2 T st2 f2 W w0 turn (λ_ _ _ _ q=>q) ?_;intro L C H' s' J1 ⟨m,J2⟩ ⟨c0,c1,c2,c3,c4,c5⟩ q;show wpAny _ _ (assign (.Name x pos') X.env (.ref L)) _ _ s';refine wpAny_assign_Name (Nf (v:=.ref L) J1 hN hx (.inl hl) rfl (λs'' J3 ⟨a,sb,ha⟩=>?_) (.inr hl));have hCa:C≠a:=by
  rcases ha with z | z
  ·rw[z];exact c1
  ·exact Zza (c4 _ _ z)
 refine⟨m,J2.sameBut sb hCa,λh' sb'=>⟨_,H',J3.turned (t':=s''.toks) (λb o hb e=>(sb'.2 b hb).trans e) c0 c1 c3 c4 c5,q⟩⟩
def Yy(P:Program)(w:World)(K:Zzy)(mg:Str->Option Value)(base:Heap)(f:Addr)(k:Nat)(ps:List Str)(sp:Sp):Prop:=∃fd,BD K fd ps []/\Ax P w K mg base (CXE P w) k f fd ps sp
def Qb(C:Addr)(m:Str)(sp:Sp)(G:XG)(ta:TE)(t:TA):TE:=λZ H Q=>ta Z H λx H1=>∃a dx fs,x=.ref a/\H1 a=some (.ins C dx fs)/\fs.lookup m=none/\t Z H1 λvs H2=>sp (x::vs) H2 Q λcls _ H'=>G cls Z H'
theorem Vg{k:Nat}{G:XG}{m:Str}{o:Expr}{pl:Sem Bool}(h:Yy X.prog X.w X.K X.mg X.base f k ps sp)(hp:Jm X G)(he:PE X o ta)(c:Cls X.K C)(hm:A15 X.K C m f)(hr:AN k X.A)(ha:PA X (e::es) t)(hn:C5 (e::es)=true:=by rfl)
  (ht:eval (.Call (.Attribute o m apos) (e::es) [] pos) X.env=(do
   let ov <- eval o X.env
   standAt apos.atName
   let (f,first) <- holding [ov] (getMethod ov m pl)
   callWith pos f first (backTo pos (starEach (e::es) X.env)) (backToKw pos (keywordEach [] X.env))):=by rfl):PE X (.Call (.Attribute o m apos) (e::es) [] pos) (Qb C m sp G ta t):=by
 obtain⟨fd,hb,F⟩:=h;intro pins s Z H Q I h;refine PySem.W.methodCall_KW (pl:=pl) (thn (he pins s Z H _ I h) λu s1 ⟨x,H1,I1,rx,a,dx,fs,ex,ea,l,q⟩=>?_) ht;subst ex;obtain rfl:u=Value.ref a:=rx;refine ae I1 ea c hm l ?_;refine Zue (first:=[.ref a]) (h₀:=X.base) I.ok.mod.kin hm.kp (thn (ha pos pins s1 Z H1 _ I1 q) λus s2 ⟨vs,H2,I2,r,q2⟩=>⟨I2.kIn,?_⟩) (B6 (Az hn).1) (C1 (Az hn).2);exact c7 (us:=.ref a::us) (vs:=.ref a::vs) F hr hb hp I2 (.cons rfl r) q2
end L2
namespace L2
open PySem
section
variable {Q:VK}{C:Int->Int->Prop}{g:Int->Int->V}{g1:Int->V}{α β:Sort u}
theorem f7{a b:Prop}:(if true=true then a else b)=a:=rfl
theorem f8{a b:Prop}:(if false=true then a else b)=b:=rfl
theorem cu{i j:Int}:rI C g (.int i) (.int j) H Q=(C i j/\Q (g i j) H):=propext ⟨λ⟨_,_,e,f,h⟩=>by cases e;cases f;exact h,λh=>⟨_,_,rfl,rfl,h⟩⟩
theorem Va{i j:Int}:rI0 g (.int i) (.int j) H Q=Q (g i j) H:=propext ⟨λ⟨_,_,e,f,h⟩=>by cases e;cases f;exact h,λh=>⟨_,_,rfl,rfl,h⟩⟩
theorem vi{i:Int}:rU g1 (.int i) H Q=Q (g1 i) H:=propext ⟨λ⟨_,e,h⟩=>by cases e;exact h,λh=>⟨_,rfl,h⟩⟩
theorem y7{p:Int->Prop}{a:Int}:(∃i,V.int a=.int i/\p i)=p a:=propext ⟨λ⟨_,e,h⟩=>by cases e;exact h,λh=>⟨_,rfl,h⟩⟩
theorem y8{p:Bool->Prop}{a:Bool}:(∃i,V.bl a=.bl i/\p i)=p a:=propext ⟨λ⟨_,e,h⟩=>by cases e;exact h,λh=>⟨_,rfl,h⟩⟩
theorem y4{p:Str->Prop}{a:Str}:(∃i,V.str a=.str i/\p i)=p a:=propext ⟨λ⟨_,e,h⟩=>by cases e;exact h,λh=>⟨_,rfl,h⟩⟩
theorem y6{p:Addr->Prop}:(∃i,V.ref a=.ref i/\p i)=p a:=propext ⟨λ⟨_,e,h⟩=>by cases e;exact h,λh=>⟨_,rfl,h⟩⟩
theorem fo{p:Addr->α->Prop}:(∃i x,V.ref a=.ref i/\p i x)=∃x,p a x:=propext ⟨λ⟨_,x,e,h⟩=>by cases e;exact⟨x,h⟩,λz0=>by obtain⟨x,h⟩:=z0;exact ⟨_,x,rfl,h⟩⟩
theorem fk{p:Str->Str->Prop}{a b:Str}:(∃i j,V.str a=.str i/\V.str b=.str j/\p i j)=p a b:=propext ⟨λ⟨_,_,e,f,h⟩=>by cases e;cases f;exact h,λh=>⟨_,_,rfl,rfl,h⟩⟩
theorem yc{p:Int->Prop}{a:Int}:(∃i,[V.int a]=[.int i]/\p i)=p a:=propext ⟨λ⟨_,e,h⟩=>by cases e;exact h,λh=>⟨_,rfl,h⟩⟩
theorem yb{p:Str->Prop}{a:Str}:(∃i,[V.str a]=[.str i]/\p i)=p a:=propext ⟨λ⟨_,e,h⟩=>by cases e;exact h,λh=>⟨_,rfl,h⟩⟩
theorem fu{p:Addr->α->Prop}:(∃i x,[V.ref a]=[.ref i]/\p i x)=∃x,p a x:=propext ⟨λ⟨_,x,e,h⟩=>by cases e;exact⟨x,h⟩,λz0=>by obtain⟨x,h⟩:=z0;exact ⟨_,x,rfl,h⟩⟩
theorem fq{p:Addr->Addr->α->β->Prop}{b:Addr}:(∃i j x y,[V.ref a,V.ref b]=[.ref i,.ref j]/\p i j x y)=∃x y,p a b x y:=propext ⟨λ⟨_,_,x,y,e,h⟩=>by cases e;exact⟨x,y,h⟩,λz0=>by obtain⟨x,y,h⟩:=z0;exact ⟨_,_,x,y,rfl,h⟩⟩
theorem fw{p:Int->Int->Prop}{a b:Int}:(∃i j,[V.int a,V.int b]=[.int i,.int j]/\p i j)=p a b:=propext ⟨λ⟨_,_,e,h⟩=>by cases e;exact h,λh=>⟨_,_,rfl,h⟩⟩
theorem ya{p:V->String->β->Prop}:(∃x t r,[v,V.ty T]=[x,.ty t]/\p x t r)=∃r,p v T r:=propext ⟨λ⟨_,_,r,e,h⟩=>by cases e;exact⟨r,h⟩,λz0=>by obtain⟨r,h⟩:=z0;exact ⟨_,_,r,rfl,h⟩⟩
theorem y9{p:Addr->α->V->Prop}:(∃l x y,V.ref a=.ref l/\[v]=[y]/\p l x y)=∃x,p a x v:=propext ⟨λ⟨_,x,_,e,f,h⟩=>by cases e;cases f;exact⟨x,h⟩,λz0=>by obtain⟨x,h⟩:=z0;exact ⟨_,x,_,rfl,rfl,h⟩⟩
end
section
variable {α:Type u}{a b c d e:α}
theorem yp:[a]++[]=[a]:=rfl
theorem yo:[a,b]++[]=[a,b]:=rfl
theorem yn:[a,b,c]++[]=[a,b,c]:=rfl
theorem ym:[a,b,c,d]++[]=[a,b,c,d]:=rfl
theorem yk:[a,b,c,d,e]++[]=[a,b,c,d,e]:=rfl
end
end L2
namespace L2
open PySem PySem.Spec PyProof.Rows PySem.W
theorem Fun.go{st:Stmt}{k:Nat}(F:Fun K x qual st f fd)(N:List Str)(S:Ce N ps (Ar st))(len:∀vs H Q E,sp vs H Q E->vs.length=ps.length)
  (hbody:N.Nodup->∀(cdv:Value) (A:Around) (outer:List Env) (s:Shared) (H:Hp) (vs:List V) (Q:VK) (E:XK),AN k (A.deeper (envOfC qual (Ar st) s.heap.objs.size f cdv))->sp vs H Q E ->
   ∃t,PSs (Nx CX0 P w K mg base N qual (Ar st) f cdv A outer s H E).nox (C8 st) t/\t {nx:=λ_ H'=>Q .non H',rt:=Q} (Hm N vs) H):Ax P w K mg base CX0 (k+1) f fd ps sp:=F.ok S len (hbody S.nd)
end L2
namespace K71
open PySem L2 NP PySem.W
seal PE PA PT PS PSs PI PO PC PW
set_option hygiene false in
local macro_rules | `(tactic| walk_at "f")=>`(tactic| ((focus (constructor<;>first|rfl|decide +kernel));(focus (intro vs H Q E h;first|(obtain⟨_,rfl,_⟩:=h;rfl;done)|(obtain⟨_,_,rfl,_⟩:=h;rfl;done)|(obtain⟨_,_,_,rfl,_⟩:=h;rfl;done)|(obtain⟨_,_,_,_,rfl,_⟩:=h;rfl;done)|(obtain⟨_,_,_,_,_,rfl,_⟩:=h;rfl;done)|(obtain⟨_,_,_,_,_,_,rfl,_⟩:=h;rfl;done)|(obtain⟨_,_,_,_,_,_,_,rfl,_⟩:=h;rfl;done)|(obtain⟨_,_,_,_,_,_,_,_,rfl,_⟩:=h;rfl;done)|(rcases h with⟨_,_,_,rfl,_⟩|⟨_,_,_,_,_,rfl,_⟩<;>rfl)));intro Nd cdv A outer s H vs Q E hr h))
def Zrd:="gl Ju FB ko bw X7 l8 X4 lf Eh qw Z6 tC tCB Qc EB Qe tOp tUn Tp tB lg tOr l4 X8 kr Ww tIf kj l7 tSl Wv EL tBA v7 EV Nc EF rI rI0 rU rEq rNe rIsA EO EI lenA V9 cx cj FE EY lenQ DV wz FF FG qk qj xm rCat EE Xg Ug fc ql Ws Wu bz tIf Yg xn Ye fb rEqD rNeD vo vm xo Q9 Jl V7 V8 V6 Vb Pm vj cq cm Wx FI cw X6 rRep Pl FH EX EQ vn EM EU Mg FD EH L2.Hm E6 Lq Pf Px km Qa Qd l9 FJ X3 X1 X2 ia EJ FK ce AY.lose Qb bu ER Yf Xf ET yf FN FO X0 Wz lc mm bx Tq i9 ES FM cg EJ FK EK FA FL Wy Yd D.ty D0 Dj Di Cy Co Cz Fz Hd Hc Fx Eg Fy Gz Ie Ic Gx Ft Gy Gu Ib Ia Gq Fn Gs Fs Gw Gv Fp Ee Fq Ed Fm Fk Eb Dx Ec Fw Hb Ha Fu Ef Fv Ps Ms Pr Mq Kw Mr Zuc Zub Zvp Zxy Zvo Zvn Zz9 Zxs Zx3 Zxa Zz3 Zxo Zve Zvd List.set_nil Zwh Zwg Zw7 exists_eq_left' exists_eq_left V.int.injEq V.bl.injEq V.str.injEq V.ref.injEq V.ty.injEq Zuq and_true true_and and_assoc exists_and_left exists_eq_right reduceCtorEq false_and and_false exists_false or_false false_or"
local macro_rules | `(tactic| walk_at "rd")=>do let xs:=(Zrd.splitOn " ").toArray.map λs=>Lean.mkIdent s.toName;`(tactic| simp only[$[$xs:ident],*,↓f7,↓f8,↓cu,↓Va,↓vi,↓y7,↓y8,↓y4,↓y6,↓fo,↓fk,↓yc,↓yb,↓fu,↓fq,↓fw,↓ya,↓y9,↓yp,↓yo,↓yn,↓ym,↓yk,↓reduceIte])
local macro_rules | `(tactic| walk_at "r0")=>do let xs:=((Zrd++" EN").splitOn " ").toArray.map λs=>Lean.mkIdent s.toName;`(tactic| simp only[$[$xs:ident],*,↓f7,↓f8,↓cu,↓Va,↓vi,↓y7,↓y8,↓y4,↓y6,↓fo,↓fk,↓yc,↓yb,↓fu,↓fq,↓fw,↓ya,↓y9,↓yp,↓yo,↓yn,↓ym,↓yk,↓reduceIte])
local macro_rules | `(tactic| walk_at "sc")=>`(tactic| (constructor<;>first | rfl | decide +kernel))
def top(i:Nat):Stmt:=PySem.Challenge.pw_needplan_k71_desk_rows.main.body.getD i (.Pass ⟨0,0,0,0⟩)
abbrev U1:Stmt:=top 29
abbrev Qs:Stmt:=top 30
abbrev U2:Stmt:=top 31
abbrev Ma:Stmt:=top 32
abbrev Qt:Stmt:=top 33
abbrev Md:Stmt:=top 34
abbrev Mb:Stmt:=top 35
abbrev K7:Stmt:=top 36
abbrev U0:Stmt:=top 37
abbrev On:Stmt:=top 38
abbrev Tx:Stmt:=top 39
abbrev Ol:Stmt:=top 40
abbrev Ty:Stmt:=top 41
abbrev Om:Stmt:=top 42
abbrev Tz:Stmt:=top 43
abbrev Qi:Stmt:=top 44
abbrev Lz:Stmt:=top 45
abbrev K5:Stmt:=top 46
abbrev Ni:Stmt:=top 47
abbrev K3:Stmt:=top 49
abbrev Jp:Stmt:=top 50
abbrev mi:Stmt:=top 51
abbrev Ik:Stmt:=top 52
abbrev Xc:Stmt:=top 53
abbrev Lw:Stmt:=top 54
abbrev Qj:Stmt:=top 58
abbrev M0:Stmt:=top 59
abbrev Tu:Stmt:=top 63
abbrev Mc:Stmt:=top 65
abbrev Oj:Stmt:=top 66
abbrev Od:Stmt:=top 67
abbrev Oa:Stmt:=top 68
abbrev K6:Stmt:=top 69
abbrev Ld:Stmt:=top 71
abbrev O9:Stmt:=top 93
abbrev Oh:Stmt:=top 102
abbrev Ij:Stmt:=top 103
abbrev Oc:Stmt:=top 104
abbrev J8:Stmt:=top 105
abbrev Lh:Stmt:=top 106
abbrev K4:Stmt:=top 107
abbrev K1:Stmt:=top 108
abbrev Tt:Stmt:=top 109
abbrev Lx:Stmt:=top 110
abbrev Ob:Stmt:=top 111
abbrev E8:Stmt:=f9 (top 115) 0
abbrev E4:Stmt:=f9 (top 115) 1
abbrev Gc:Stmt:=top 116
abbrev J9:Stmt:=top 117
abbrev K2:Stmt:=top 118
abbrev Xd:Stmt:=top 119
abbrev Ly:Stmt:=top 120
abbrev Oi:Stmt:=top 122
abbrev Lc:Stmt:=top 123
abbrev Qo:Stmt:=top 125
abbrev Og:Stmt:=top 126
abbrev Of:Stmt:=top 127
abbrev Qk:Stmt:=top 128
abbrev Ql:Stmt:=top 129
abbrev Jo:Stmt:=top 130
abbrev Qm:Stmt:=top 131
abbrev Oe:Stmt:=top 132
abbrev Qr:Stmt:=top 133
abbrev Qq:Stmt:=top 134
abbrev Tv:Stmt:=top 135
structure Txt(mg:Str->Option Value):Prop where
 Ztg:mg "len" = none
 Zu7:mg "isinstance" = none
 Zsa:mg "str" = none
 Zr3:mg "all" = none
 Zph:mg "bool" = none
 Zps:mg "int" = none
 Ztf:mg "tuple" = none
 Zsc:mg "range" = none
 Zpk:mg "list" = none
 Zpl:mg "max" = none
 Zpi:mg "sorted" = none
 Zpq:mg "zip" = none
 Zpg:mg "min" = none
 Zqn:mg "enumerate" = none
 Zpp:mg "ValueError" = none
 Zpf:mg "sum" = none
 Zs6:∃t,mg "COMING" = some (.int 5 t)
 Zr7:∃t,mg "FIGURES" = some (.str "0123456789" t)
 Zr2:∃t,mg "FLOOR" = some (.int 3 t)
 Zr1:∃t,mg "GIVES" = some (.int 2 t)
 Zqp:∃t,mg "LAG" = some (.int 1 t)
 Zte:∃t,mg "LAST_DAY" = some (.int 400 t)
 Zr6:∃t,mg "LETTERS" = some (.str "abcdefghijklmnopqrstuvwxyz" t)
 Zrm:∃t,mg "MEMBERS" = some (.int 7 t)
 Zsl:∃t,mg "MOST_COMING" = some (.int 12 t)
 Zsz:∃t,mg "MOST_FIGURES" = some (.int 60 t)
 Zrj:∃t,mg "MOST_LAG" = some (.int 30 t)
 Zsy:∃t,mg "MOST_LETTERS" = some (.int 8 t)
 Zs5:∃t,mg "MOST_PARTS" = some (.int 6 t)
 Ztj:∃t,mg "MOST_WANTS" = some (.int 20 t)
 Zs4:∃t,mg "MOST_WARES" = some (.int 12 t)
 Zti:∃t,mg "NAME" = some (.int 0 t)
 Zrl:∃t,mg "PARTS" = some (.int 6 t)
 Zs0:∃t,mg "SHOP_ROW" = some (.str "shop\n" t)
 Zr0:∃t,mg "STOCK" = some (.int 4 t)
 Zsk:∃t,mg "WANT_AMOUNT" = some (.int 2 t)
 Zrz:∃t,mg "WANT_DAY" = some (.int 1 t)
 Zrt:∃t,mg "WANT_NAME" = some (.int 0 t)
structure Dk where
 (C fi ft:Addr)
structure Dsk(K:Zzy)(mg:Str->Option Value)(d:Dk):Prop where
 c:Cls K d.C
 nk:BT K d.C "kept"
 mt:A15 K d.C "tell" d.ft
 me:Mk K d.C d.fi
 md:mg "Desk" = some (.ref d.C)
structure Cl where
 NeedError:Addr
 NoText:Addr
 NoShop:Addr
 Ring:Addr
 NoName:Addr
 NoDay:Addr
 NoBuy:Addr
 NoPlan:Addr
structure Exc(K:Zzy)(mg:Str->Option Value)(c:Cl):Prop where
 Zpm:mg "NeedError" = some (.ref c.NeedError)
 Zqy:mg "NoText" = some (.ref c.NoText)
 Zq7:mg "NoShop" = some (.ref c.NoShop)
 Zpj:mg "Ring" = some (.ref c.Ring)
 Zpo:mg "NoName" = some (.ref c.NoName)
 Zpr:mg "NoDay" = some (.ref c.NoDay)
 Zpd:mg "NoBuy" = some (.ref c.NoBuy)
 Zpe:mg "NoPlan" = some (.ref c.NoPlan)
 Zqx:Nv K c.NoName=true
 Zqw:Ga K c.NoName
 Ztq:exmOne K (.ref c.NoName) (.ref c.NeedError)=some true
 Ztd:kitOne K (.ref c.NoName) (.ref c.NeedError)=some true
 Ztc:kitOne K (.ref c.NoName) (.ref c.NoText)=some false
 Ztb:kitOne K (.ref c.NoName) (.ref c.NoShop)=some false
 Zsj:kitOne K (.ref c.NoName) (.ref c.Ring)=some false
 Zta:kitOne K (.ref c.NoName) (.ref c.NoName)=some true
 Zsx:kitOne K (.ref c.NoName) (.ref c.NoDay)=some false
 Zry:kitOne K (.ref c.NoName) (.ref c.NoBuy)=some false
 Zs9:kitOne K (.ref c.NoName) (.ref c.NoPlan)=some false
 Ztu:kitOne K (.ref c.NoName) (.type "ValueError")=some true
 Zq0:Nv K c.Ring=true
 Zpz:Ga K c.Ring
 Zth:exmOne K (.ref c.Ring) (.ref c.NeedError)=some true
 Zsn:kitOne K (.ref c.Ring) (.ref c.NeedError)=some true
 Zsi:kitOne K (.ref c.Ring) (.ref c.NoText)=some false
 Zsh:kitOne K (.ref c.Ring) (.ref c.NoShop)=some false
 Zrs:kitOne K (.ref c.Ring) (.ref c.Ring)=some true
 Zsg:kitOne K (.ref c.Ring) (.ref c.NoName)=some false
 Zs3:kitOne K (.ref c.Ring) (.ref c.NoDay)=some false
 Zri:kitOne K (.ref c.Ring) (.ref c.NoBuy)=some false
 Zrr:kitOne K (.ref c.Ring) (.ref c.NoPlan)=some false
 Ztl:kitOne K (.ref c.Ring) (.type "ValueError")=some true
 Zs2:Nv K c.NoText=true
 Zqv:Ga K c.NoText
 Ztp:exmOne K (.ref c.NoText) (.ref c.NeedError)=some true
 Zt9:kitOne K (.ref c.NoText) (.ref c.NeedError)=some true
 Zt8:kitOne K (.ref c.NoText) (.ref c.NoText)=some true
 Zt7:kitOne K (.ref c.NoText) (.ref c.NoShop)=some false
 Zsf:kitOne K (.ref c.NoText) (.ref c.Ring)=some false
 Zt6:kitOne K (.ref c.NoText) (.ref c.NoName)=some false
 Zsw:kitOne K (.ref c.NoText) (.ref c.NoDay)=some false
 Zrx:kitOne K (.ref c.NoText) (.ref c.NoBuy)=some false
 Zs8:kitOne K (.ref c.NoText) (.ref c.NoPlan)=some false
 Ztt:kitOne K (.ref c.NoText) (.type "ValueError")=some true
 Zro:Nv K c.NoShop=true
 Zqu:Ga K c.NoShop
 Zto:exmOne K (.ref c.NoShop) (.ref c.NeedError)=some true
 Zt5:kitOne K (.ref c.NoShop) (.ref c.NeedError)=some true
 Zt4:kitOne K (.ref c.NoShop) (.ref c.NoText)=some false
 Zt3:kitOne K (.ref c.NoShop) (.ref c.NoShop)=some true
 Zse:kitOne K (.ref c.NoShop) (.ref c.Ring)=some false
 Zt2:kitOne K (.ref c.NoShop) (.ref c.NoName)=some false
 Zsv:kitOne K (.ref c.NoShop) (.ref c.NoDay)=some false
 Zrw:kitOne K (.ref c.NoShop) (.ref c.NoBuy)=some false
 Zs7:kitOne K (.ref c.NoShop) (.ref c.NoPlan)=some false
 Zts:kitOne K (.ref c.NoShop) (.type "ValueError")=some true
 Zqz:Nv K c.NoDay=true
 Zq8:Ga K c.NoDay
 Ztk:exmOne K (.ref c.NoDay) (.ref c.NeedError)=some true
 Zt0:kitOne K (.ref c.NoDay) (.ref c.NeedError)=some true
 Zsu:kitOne K (.ref c.NoDay) (.ref c.NoText)=some false
 Zst:kitOne K (.ref c.NoDay) (.ref c.NoShop)=some false
 Zs1:kitOne K (.ref c.NoDay) (.ref c.Ring)=some false
 Zss:kitOne K (.ref c.NoDay) (.ref c.NoName)=some false
 Zsd:kitOne K (.ref c.NoDay) (.ref c.NoDay)=some true
 Zrq:kitOne K (.ref c.NoDay) (.ref c.NoBuy)=some false
 Zrv:kitOne K (.ref c.NoDay) (.ref c.NoPlan)=some false
 Ztn:kitOne K (.ref c.NoDay) (.type "ValueError")=some true
def lamP:Pos:=⟨141,38,141,65⟩
def lamQ:Str:=("worked" : Str) ++ ".<locals>." ++ "<lambda>"
def Tb(H:L2.Hp)(Pt:Addr):Prop:=L2.BK H Pt lamP lamQ
inductive Jt (K:Zzy) (l:List (Str×Tok×Addr)) (x:Str) (fs:List Str):Prop | mk (a:Addr) (tl:List (Str×Tok)) (_:Gn l x=.ref a) (_:EG K a tl) (_:tl.map (·.1)=fs)
inductive Rws (w:World) (K:Zzy) (mg:Str->Option Value):Prop | mk (a:Addr) (l:List (Str×Tok×Addr)) (_:mg "ROWS" = some (.ref a)) (_:DM w K a l) (_:Jt K l "ware" ["name", "number", "number", "number", "number"]) (_:Jt K l "coming" ["name", "number", "number"]) (_:Jt K l "part" ["name", "name", "number"]) (_:Jt K l "want" ["name", "number", "number"]) (_:l.map (·.1)=(["ware", "coming", "part", "want"]:List Str))
inductive Fms (w:World) (K:Zzy) (mg:Str->Option Value):Prop | mk (a:Addr) (l:List (Str×Tok×Addr)) (_:mg "FORMS" = some (.ref a)) (_:DM w K a l) (_:Jt K l "want" ["name", "day", "number"]) (_:Jt K l "drop" ["place"]) (_:Jt K l "plan" []) (_:l.map (·.1)=(["want", "drop", "plan", "late", "most", "stock", "serves", "buy"]:List Str))
def AU:List Nat:=("abcdefghijklmnopqrstuvwxyz" : Str).cps.toList
def Aq(x:Str):Bool:=decide (1<=x.length)&&decide (x.length<=8)&&x.cps.toList.all λc=>decide (c∈AU)
def yt(w:Wr):Prop:=(0<=w.lag/\w.lag<=30)/\(1<=w.gives/\w.gives<=100)/\(0<=w.floor/\w.floor<=100)/\(0<=w.stock/\w.stock<=10^42)/\w.parts.length<=6/\(∀p∈w.parts,1<=p.2/\p.2<=100)/\(w.parts.map (·.1)).Nodup/\w.coming.length<=12/\∀c∈w.coming,(0<=c.1/\c.1<11)/\0<=c.2/\c.2<10^41
structure SD(S:Sh):Prop where
 n:1<=S.wares.length/\S.wares.length<=12
 nm:∀w∈S.wares,Aq w.name=true
 nd:(S.wares.map (·.name)).Nodup
 wb:∀w∈S.wares,yt w
 own:∀w∈S.wares,∀p∈w.parts,p.1∈S.wares.map (·.name)
 un:S.wants.length<=20
 us:∀u∈S.wants,u.1∈S.wares.map (·.name)/\(0<=u.2.1/\u.2.1<=400)/\0<=u.2.2/\u.2.2<10^41
structure SD0(S:Sh):Prop where
 n:1<=S.wares.length/\S.wares.length<=12
 wv:∀w∈S.wares,Aq w.name=true/\yt w/\∀p∈w.parts,Aq p.1=true
 un:S.wants.length<=20
 us:∀u∈S.wants,Aq u.1=true/\(0<=u.2.1/\u.2.1<=400)/\0<=u.2.2/\u.2.2<10^41
theorem SD.named(sd:SD S)(h:x∈S.wares.map (·.name)):Aq x=true:=by
 obtain⟨w,hw,rfl⟩:=Zzo.mp h;exact sd.nm w hw
theorem SD.weak(sd:SD S):SD0 S:=⟨sd.n,λw hw=>⟨sd.nm w hw,sd.wb w hw,λp hp=>sd.named (sd.own w hw p hp)⟩,sd.un,λu hu=>⟨sd.named (sd.us u hu).1,(sd.us u hu).2.1,(sd.us u hu).2.2⟩⟩
section
variable {dk:Dk}{c:Cl}
inductive DG (vs:List V) (H:Hp) (Q:VK) (E:XK):Prop | mk (i:_) (_:vs=[.int i]) (_:Q (.bl true) H)
theorem Xw(F:Fun K "is_whole" "is_whole" Qs f fd)(T:Txt mg)(C:Exc K mg c):Ax P w K mg base CX0 1 f fd ["found"] DG:=by
 refine F.go ["found"] ?_ ?_ ?_;walk_at "f";obtain⟨i,rfl,k⟩:=h;refine⟨_,(A8 (Ag (Ea (Aj Dh rfl T.Zu7 B1 (A2 (pv 0) (A2 (Hz (v:=.ty "int") rfl T.Zps Sb rfl) A0))) (F0 (A0g (Aj Dh rfl T.Zu7 B1 (A2 (pv 0) (A2 (Hz (v:=.ty "bool") rfl T.Zph yi rfl) A0)))))))),?_⟩;walk_at "rd";refine⟨_,rfl,?_⟩;rw[FT (by decide)];exact⟨_,rfl,k⟩
inductive BA (vs:List V) (H:Hp) (Q:VK) (E:XK):Prop | mk (i n:_) (_:vs=[.int i,.int n]) (_:n<=i) (_:Q (.bl true) H)
theorem Zs(F:Fun K "is_from" "is_from" U2 f fd)(T:Txt mg)(C:Exc K mg c)(Zq6:Has P w K mg base "is_whole" 1 ["found"] DG):Ax P w K mg base CX0 2 f fd ["found", "least"] BA:=by
 refine F.go ["found", "least"] ?_ ?_ ?_;walk_at "f";obtain⟨i,n,rfl,h1,k⟩:=h;refine⟨_,(A8 (Ag (Ea (A7 Zq6 hr.z rfl (A2 (pv 0) A0)) (F0 (C3 o9 (pv 0) (pv 1) (Ao _)))))),?_⟩;walk_at "rd";refine⟨i,rfl,?_⟩;walk_at "rd";rw[FQ h1];exact k
inductive BE (vs:List V) (H:Hp) (Q:VK) (E:XK):Prop | mk (i n m:_) (_:vs=[.int i,.int n,.int m]) (_:n<=i) (_:i<=m) (_:Q (.bl true) H)
theorem Su(F:Fun K "is_between" "is_between" Ma f fd)(T:Txt mg)(C:Exc K mg c)(Zu6:Has P w K mg base "is_from" 2 ["found", "least"] BA):Ax P w K mg base CX0 3 f fd ["found", "least", "most"] BE:=by
 refine F.go ["found", "least", "most"] ?_ ?_ ?_;walk_at "f";obtain⟨i,n,m,rfl,h1,h2,k⟩:=h;refine⟨_,(A8 (Ag (Ea (A7 Zu6 hr.z rfl (A2 (pv 0) (A2 (pv 1) A0))) (F0 (C3 Rf (pv 0) (pv 2) (Ao _)))))),?_⟩;walk_at "rd";refine⟨i,n,rfl,h1,?_⟩;walk_at "rd";rw[FQ h2];exact k
inductive AS (vs:List V) (H:Hp) (Q:VK) (E:XK):Prop | mk (a xs n m:_) (_:vs=[.ref a,.int n,.int m]) (_:H a=some (.tup xs)) (_:n<=(xs.length:Nat)) (_:((xs.length:Nat):Int)<=m) (_:Q (.bl true) H)
theorem Xx(F:Fun K "is_tuple" "is_tuple" Qt f fd)(T:Txt mg)(C:Exc K mg c):Ax P w K mg base CX0 1 f fd ["found", "least", "most"] AS:=by
 refine F.go ["found", "least", "most"] ?_ ?_ ?_;walk_at "f";obtain⟨a,xs,n,m,rfl,ha,h1,h2,k⟩:=h;refine⟨_,(A8 (Ag (Ea (Aj Dh rfl T.Zu7 B1 (A2 (pv 0) (A2 (Hz (v:=.ty "tuple") rfl T.Ztf Cr rfl) A0))) (F0 (nz Rf Rf (pv 1) (Aj BL rfl T.Ztg Cv (A2 (pv 0) A0)) (pv 2)))))),?_⟩;walk_at "rd";refine⟨_,zy ha,?_⟩;rw[FT (by decide)];refine .inl ⟨_,.inr ha,?_⟩;rw[FT (FQ h1),FQ h2];exact k
inductive BH (vs:List V) (H:Hp) (Q:VK) (E:XK):Prop | mk (x:_) (_:vs=[.str x]) (_:Aq x=true) (_:∀H',AA H H'->Q (.bl true) H')
theorem dj(h:Aq x=true):1<=x.length/\x.length<=8/\∀c∈x.cps.toList,c∈AU:=by
 unfold Aq at h;simp only[Zyy,decide_eq_true_eq,Zyu] at h;exact⟨h.1.1,h.1.2,h.2⟩
theorem J6{α:Type}(xs:List α):(xs.map λ_=>true).all id=true:=by
 rw[Zyu];intro x hx;obtain⟨y,_,rfl⟩:=Zzo.mp hx;rfl
theorem Zr(F:Fun K "is_name" "is_name" U1 f fd)(T:Txt mg)(C:Exc K mg c):Ax P w K mg base CX0 1 f fd ["found"] BH:=by
 refine F.go ["found"] ?_ ?_ ?_;walk_at "f";obtain⟨x,rfl,hx,k⟩:=h;have hu:=Aw hr;obtain⟨h1,h2,h3⟩:=dj hx;refine⟨_,(A3 (B0 (PW.pt (J0 (Bk (Bm (Aj Dh rfl T.Zu7 B1 (A2 (pv 0) (A2 (Hz (v:=.ty "str") rfl T.Zsa Ep rfl) A0))))) (Ho (Bk (Xh Rf Rf A6 (Aj BL rfl T.Ztg Cv (A2 (pv 0) A0)) (Ak rfl T.Zsy)))))) (A8 (Ag Gg)) Am)
 (A8 (Ag (Aj (Eo rfl) rfl T.Zr3 Jk (A2 (Bi (own:=["sign"]) (cap:=[]) rfl (Bz rfl) (At (by decide)) (Jc (pv 0))
 (λ_ _ _ _ _ _=>⟨(Af (i:=0) (FP rfl) rfl (Zzq rfl) (.inr rfl)),Ba,(C3 (Nn hu) (pv 0) (Ml rfl T.Zr6) rfl)⟩)) A0))))),?_⟩
 walk_at "rd";refine⟨_,rfl,?_⟩;rw[FS (by decide)];refine⟨Ae (by lia),?_⟩;rw[FT (FQ (by lia)),FS (by rw[FQ (by lia)];decide)];refine Bo (zg x) (Ae (Zzk h2 (by decide))) (λ_ _=>trivial) ((x.cps.toList.map λ_=>true).map V.bl) (by simp) (λi y H' hi hy s' N M hN=>?_) (λH' s' p hp=>?_)
 ·obtain⟨c,hc,rfl⟩:=hy;rw[<- Zw3] at hc;walk_at "rd";refine⟨_,.inr (.inl ⟨_,_,rfl,rfl,rfl⟩),?_⟩;rw[StrLaws.found_one,show decide (c∈(Str.ofString "abcdefghijklmnopqrstuvwxyz").cps.toList)=true from FQ (h3 c (Zzt hc))];exact hN _ _ s' (by rw[Zzw,Zzw,hc];rfl)
 ·refine⟨p,rfl,_,A1,?_⟩;rw[J6];exact k _ (s'.trans (A5 hp))
inductive BN (vs:List V) (H:Hp) (Q:VK) (E:XK):Prop | mk (a:Addr) (xs:List Str) (_:vs=[.ref a]) (_:H a=some (.lst (xs.map V.str))) (_:xs.length<=1000) (_:∀H',AA H H'->Q (.bl (decide xs.Nodup)) H')
theorem oj(xs:List Str):(xs.map λz=>decide (((xs.count z:Nat):Int)=1)).all id=decide xs.Nodup:=by
 rw[Zvi,Zvm,Zyu,decide_eq_true_eq,List.nodup_iff_count];refine⟨λh z=>?_,λh z hz=>FQ ?_⟩
 ·by_cases hz:z∈xs
  ·have:=FP (h z hz)
   lia
  ·rw[List.count_eq_zero_of_not_mem hz];decide
 ·have h1:=h z
  have h2:=List.count_pos_iff.mpr hz;lia
theorem Sy(F:Fun K "are_unlike" "are_unlike" Md f fd)(T:Txt mg)(C:Exc K mg c):Ax P w K mg base CX0 1 f fd ["names"] BN:=by
 refine F.go ["names"] ?_ ?_ ?_;walk_at "f";obtain⟨a,xs,rfl,ha,hx,k⟩:=h;have hu:=Aw hr;refine⟨_,(A8 (Ag (Aj (Eo rfl) rfl T.Zr3 Jk (A2 (Bi (own:=["name"]) (cap:=[0]) rfl (Bz rfl) (At (by decide)) (Dq (pv 0))
 (λ_ _ _ _ _ _=>⟨(Af (i:=0) (FP rfl) rfl (Zzq rfl) (.inr rfl)),Ba,(C3 (Bg hu) (Bw Zz7 PySem.F.slot_list_count PySem.F.type_list_count oz (pv 1) (A2 (pv 0) A0)) A6 (Ao _))⟩)) A0)))),?_⟩
 walk_at "rd";refine⟨_,ha,?_⟩;refine Bo (Eu a _) (by rw[Zzz];exact Ae hx) (λH' s'=>s' _ _ ha) ((xs.map λz=>decide (((xs.count z:Nat):Int)=1)).map V.bl) (by simp) (λi y H' hi hy s' N M hN=>?_) (λH' s' p hp=>?_)
 ·rw[Zzw] at hy;cases e:xs[i]? with
  |none=>rw[e] at hy;cases hy
  |some z =>
   rw[e] at hy;cases hy;walk_at "rd";have ha':=s' _ _ ha;refine⟨by unfold P4;simp only[ha'],_,ha',rfl,by simp[Gj],rfl,hN _ _ s' ?_⟩;rw[Zzw,Zzw,e];show some (V.bl _)=some (V.bl _);congr 2;rw[List.countP_map];rfl
 ·refine⟨p,rfl,_,A1,?_⟩;rw[oj];exact k _ (s'.trans (A5 hp))
theorem Wg{Q:VK}(ha:H a=some (.tup xs))(hz:xs.length<=1000)
  (hs:∀(i:Nat) x H',xs[i]?=some x->AA H H'->∀N:V->Hp->Prop,(∀H4,AA H' H4->N (.bl true) H4)->te ((E6 own cap Z).set 0 (some x)) H' N)
  (hd:∀a' H',AA H H'->H' a'=some (.lst ((xs.map λ_=>true).map V.bl))->Q (.ref a') H'):Ux (ItT a xs) own cap (Eh 0) EF te Z H Q:=by
 refine Bo (E5 a xs) (Ae hz) (λH' s'=>s' _ _ ha) ((xs.map λ_=>true).map V.bl) (by simp) (λi y H' hi hy s' N M hN=>?_) (λH' s' q hq=>?_)
 ·show if true=true then te _ H' N else M H'
  rw[FT rfl];refine hs i y H' hy s' N λH4 s4=>hN _ _ (s'.trans s4) ?_;rw[Zzw,Zzw,hy];rfl
 ·exact hd q _ (s'.trans (A5 hq)) A1
inductive CL (vs:List V) (H:Hp) (Q:VK) (E:XK):Prop | mk (a:Addr) (c:Int×Int) (_:vs=[.ref a]) (_:H a=some (.tup [.int c.1,.int c.2])) (_:(0<=c.1/\c.1<=400)) (_:0<=c.2) (_:Q (.bl true) H)
theorem Sv(F:Fun K "is_arrival" "is_arrival" Mb f fd)(T:Txt mg)(C:Exc K mg c)(Zu6:Has P w K mg base "is_from" 2 ["found", "least"] BA)(Zty:Has P w K mg base "is_between" 3 ["found", "least", "most"] BE)(Zu9:Has P w K mg base "is_tuple" 1 ["found", "least", "most"] AS):Ax P w K mg base CX0 4 f fd ["found"] CL:=by
 refine F.go ["found"] ?_ ?_ ?_;walk_at "f";obtain⟨a,c,rfl,ha,h1,h2,k⟩:=h;have hu:=Aw hr;refine⟨_,(A8 (Ag (Ea (A7 Zu9 hr.z rfl (A2 (pv 0) (A2 A6 (A2 A6 A0)))) (Ea (A7 Zty hr.z rfl (A2 (Aa hu (pv 0) A6 (λ_ _=>rfl)) (A2 A6 (A2 (Ak rfl T.Zte) A0)))) (F0 (A7 Zu6 hr.z rfl (A2 (Aa hu (pv 0) A6 (λ_ _=>rfl)) (A2 A6 A0)))))))),?_⟩;walk_at "rd";refine⟨a,_,2,2,rfl,ha,Zys _,Zys _,_,rfl,?_⟩;rw[FT rfl];refine⟨_,Ah (j:=0) ha rfl,c.1,0,400,rfl,h1.1,h1.2,_,rfl,?_⟩;rw[FT rfl];exact⟨_,Ah (j:=1) ha rfl,c.2,0,rfl,h2,k⟩
inductive BY (vs:List V) (H:Hp) (Q:VK) (E:XK):Prop | mk (v:V) (cs:List (Int×Int)) (_:vs=[v]) (_:RD H (.tuple (cs.map N7)) v) (_:cs.length<=12) (_:(∀c∈cs,(0<=c.1/\c.1<=400)/\0<=c.2)) (_:∀H',AA H H'->Q (.bl true) H')
theorem Pb(F:Fun K "are_arrivals" "are_arrivals" K7 f fd)(T:Txt mg)(C:Exc K mg c)(Zqt:Has P w K mg base "is_arrival" 4 ["found"] CL)(Zu9:Has P w K mg base "is_tuple" 1 ["found", "least", "most"] AS):Ax P w K mg base CX0 5 f fd ["found"] BY:=by
 refine F.go ["found"] ?_ ?_ ?_;walk_at "f";obtain⟨v,cs,rfl,rv,hl,ok,k⟩:=h;have hu:=Aw hr;obtain⟨a,xs,rfl,ha,rx⟩:=RD.tup_of rv;have hx:=Ap rx;refine⟨_,(A8 (Ag (Ea (A7 Zu9 hr.z rfl (A2 (pv 0) (A2 A6 (A2 (Ak rfl T.Zsl) A0)))) (F0 (Aj (Eo rfl) rfl T.Zr3 Jk (A2 (Bi (own:=["arrival"]) (cap:=[]) rfl (Bz rfl) (At (by decide)) (Jc (pv 0))
 (λ_ _ _ _ _ _=>⟨(Af (i:=0) (FP rfl) rfl (Zzq rfl) (.inr rfl)),Ba,(A7 Zqt hr.z rfl (A2 (pv 0) A0))⟩)) A0)))))),?_⟩
 walk_at "rd";refine⟨a,_,0,12,rfl,ha,by lia,by lia,_,rfl,?_⟩;rw[FT rfl];refine .inr ⟨xs,ha,Wg ha (by lia) (λi x H' hx s' N hN=>?_) λa' H' s' ha'=>⟨a',rfl,_,ha',?_⟩⟩
 ·obtain⟨c,ec,rc⟩:=B2 rx hx;obtain⟨ca,rfl,hca⟩:=bc rc;have o:=ok c (Zzt ec);walk_at "rd";exact⟨ca,c,rfl,s' _ _ hca,o.1,o.2,hN _ (AA.refl _)⟩
 ·rw[J6];exact k _ s'
inductive DO (vs:List V) (H:Hp) (Q:VK) (E:XK):Prop | mk (a:Addr) (c:Str×Int) (_:vs=[.ref a]) (_:H a=some (.tup [.str c.1,.int c.2])) (_:Aq c.1=true) (_:1<=c.2) (_:∀H',AA H H'->Q (.bl true) H')
theorem Zq(F:Fun K "is_part" "is_part" U0 f fd)(T:Txt mg)(C:Exc K mg c)(Zu6:Has P w K mg base "is_from" 2 ["found", "least"] BA)(Ztv:Has P w K mg base "is_name" 1 ["found"] BH)(Zu9:Has P w K mg base "is_tuple" 1 ["found", "least", "most"] AS):Ax P w K mg base CX0 3 f fd ["found"] DO:=by
 refine F.go ["found"] ?_ ?_ ?_;walk_at "f";obtain⟨a,c,rfl,ha,h1,h2,k⟩:=h;have hu:=Aw hr;refine⟨_,(A8 (Ag (Ea (A7 Zu9 hr.z rfl (A2 (pv 0) (A2 A6 (A2 A6 A0)))) (Ea (A7 Ztv hr.z rfl (A2 (Aa hu (pv 0) A6 (λ_ _=>rfl)) A0)) (F0 (A7 Zu6 hr.z rfl (A2 (Aa hu (pv 0) A6 (λ_ _=>rfl)) (A2 A6 A0)))))))),?_⟩;walk_at "rd";refine⟨a,_,2,2,rfl,ha,Zys _,Zys _,_,rfl,?_⟩;rw[FT rfl];refine⟨_,Ah (j:=0) ha rfl,c.1,rfl,h1,λH1 s1=>⟨_,rfl,?_⟩⟩;rw[FT rfl];exact⟨_,Ah (j:=1) (s1 _ _ ha) rfl,c.2,1,rfl,h2,k H1 s1⟩
inductive CO (vs:List V) (H:Hp) (Q:VK) (E:XK):Prop | mk (v:V) (cs:List (Str×Int)) (_:vs=[v]) (_:RD H (.tuple (cs.map Jq)) v) (_:cs.length<=6) (_:(∀c∈cs,Aq c.1=true/\1<=c.2)) (_:(cs.map (·.1)).Nodup) (_:∀H',AA H H'->Q (.bl true) H')
theorem Vy(F:Fun K "are_parts" "are_parts" On f fd)(T:Txt mg)(C:Exc K mg c)(Zpy:Has P w K mg base "is_part" 3 ["found"] DO)(Zu9:Has P w K mg base "is_tuple" 1 ["found", "least", "most"] AS)(Zsr:Has P w K mg base "are_unlike" 1 ["names"] BN):Ax P w K mg base CX0 4 f fd ["found"] CO:=by
 refine F.go ["found"] ?_ ?_ ?_;walk_at "f";obtain⟨v,cs,rfl,rv,hl,ok,nd,k⟩:=h;have hu:=Aw hr;obtain⟨a,xs,rfl,ha,rx⟩:=RD.tup_of rv;have hx:=Ap rx;refine⟨_,(A3 (B0 (PW.pt (J0 (Bk (Bm (A7 Zu9 hr.z rfl (A2 (pv 0) (A2 A6 (A2 (Ak rfl T.Zs5) A0)))))) (Ho (Bk (Bm (Aj (Eo rfl) rfl T.Zr3 Jk (A2 (Bi (own:=["part"]) (cap:=[]) rfl (Bz rfl) (At (by decide)) (Jc (pv 0))
 (λ_ _ _ _ _ _=>⟨(Af (i:=0) (FP rfl) rfl (Zzq rfl) (.inr rfl)),Ba,(A7 Zpy hr.z rfl (A2 (pv 0) A0))⟩)) A0))))))) (A8 (Ag Gg)) Am)
 (A8 (Ag (A7 Zsr hr.z rfl (A2 (Bi (own:=["part"]) (cap:=[]) rfl (Bz rfl) (At (by decide)) (Jc (pv 0))
 (λ_ _ _ _ _ _=>⟨(Af (i:=0) (FP rfl) rfl (Zzq rfl) (.inr rfl)),Ba,(Aa hu (pv 0) A6 (λ_ _=>rfl))⟩)) A0))))),?_⟩
 walk_at "rd";refine⟨a,_,0,6,rfl,ha,by lia,by lia,_,rfl,?_⟩;rw[FS (by decide)];refine .inr ⟨xs,ha,Wg ha (by lia) (λi x H' hx s' N hN=>?_) λa' H2 s2 ha'=>⟨a',rfl,_,ha',?_⟩⟩
 ·obtain⟨c,ec,rc⟩:=B2 rx hx;obtain⟨ca,rfl,hca⟩:=Mn rc;have o:=ok c (Zzt ec);walk_at "rd";exact⟨ca,c,rfl,s' _ _ hca,o.1,o.2,hN⟩
 ·rw[J6,FS (by decide)];have ha2:=s2 _ _ ha;refine .inr ⟨xs,ha2,?_⟩;refine Bo (E5 a xs) (Ae (by lia)) (λH' s'=>s' _ _ ha2) ((cs.map (·.1)).map V.str) (by simp[hx]) (λi y H' hi hy s' N M hN=>?_) (λH' s' q hq=>?_)
  ·obtain⟨c,ec,rc⟩:=B2 rx hy;obtain⟨ca,rfl,hca⟩:=Mn rc;walk_at "rd";exact⟨_,Ah (j:=0) (s' _ _ (s2 _ _ hca)) rfl,hN _ _ s' (by rw[Zzw,Zzw,ec];rfl)⟩
  ·exact⟨q,_,rfl,A1,by rw[Zzz];lia,λH5 s5=>by rw[FQ nd];exact k H5 (s2.trans (s'.trans ((A5 hq).trans s5)))⟩
def WV(w:Wr):Prop:=Aq w.name=true/\yt w/\∀p∈w.parts,Aq p.1=true
inductive DP (vs:List V) (H:Hp) (Q:VK) (E:XK):Prop | mk (v:V) (w:Wr) (_:vs=[v]) (_:RD H w.d v) (_:WV w) (_:∀H',AA H H'->Q (.bl true) H')
theorem Zn(F:Fun K "is_ware" "is_ware" Tx f fd)(T:Txt mg)(C:Exc K mg c)(Zu9:Has P w K mg base "is_tuple" 1 ["found", "least", "most"] AS)(Zu6:Has P w K mg base "is_from" 2 ["found", "least"] BA)(Zty:Has P w K mg base "is_between" 3 ["found", "least", "most"] BE)(Ztv:Has P w K mg base "is_name" 1 ["found"] BH)(Zqm:Has P w K mg base "are_parts" 4 ["found"] CO)(Zre:Has P w K mg base "are_arrivals" 5 ["found"] BY):Ax P w K mg base CX0 6 f fd ["found"] DP:=by
 refine F.go ["found"] ?_ ?_ ?_;walk_at "f";obtain⟨v,wr,rfl,rv,⟨hn,⟨h1,h2,h3,h4,h5,h6,h7,h8,h9⟩,hp⟩,k⟩:=h;have hu:=Aw hr;obtain⟨a,c,p,rfl,ha,rc,rp⟩:=Cw rv;refine⟨_,(A3 (B0 (Bk (Bm (A7 Zu9 hr.z rfl (A2 (pv 0) (A2 (Ak rfl T.Zrm) (A2 (Ak rfl T.Zrm) A0)))))) (A8 (Ag Gg)) Am)
 (A3 (B0 (PW.pt (J0 (Bk (Bm (A7 Ztv hr.z rfl (A2 (Aa hu (pv 0) (Ak rfl T.Zti) (λ_ _=>rfl)) A0)))) (J0 (Bk (Bm (A7 Zty hr.z rfl (A2 (Aa hu (pv 0) (Ak rfl T.Zqp) (λ_ _=>rfl)) (A2 A6 (A2 (Ak rfl T.Zrj) A0)))))) (Ho (Bk (Bm (A7 Zu6 hr.z rfl (A2 (Aa hu (pv 0) (Ak rfl T.Zr1) (λ_ _=>rfl)) (A2 A6 A0))))))))) (A8 (Ag Gg)) Am)
 (A3 (B0 (PW.pt (J0 (Bk (Bm (A7 Zu6 hr.z rfl (A2 (Aa hu (pv 0) (Ak rfl T.Zr2) (λ_ _=>rfl)) (A2 A6 A0))))) (Ho (Bk (Bm (A7 Zu6 hr.z rfl (A2 (Aa hu (pv 0) (Ak rfl T.Zr0) (λ_ _=>rfl)) (A2 A6 A0)))))))) (A8 (Ag Gg)) Am)
 (A8 (Ag (Ea (A7 Zre hr.z rfl (A2 (Aa hu (pv 0) (Ak rfl T.Zs6) (λ_ _=>rfl)) A0)) (F0 (A7 Zqm hr.z rfl (A2 (Aa hu (pv 0) (Ak rfl T.Zrl) (λ_ _=>rfl)) A0))))))))),?_⟩
 walk_at "rd";refine⟨a,_,7,7,rfl,ha,Zys _,Zys _,_,rfl,?_⟩;rw[FS (by decide)];refine⟨_,Ah (j:=0) ha rfl,_,rfl,hn,λH1 s1=>⟨_,rfl,?_⟩⟩;have ha:=s1 _ _ ha;rw[FS (by decide)];refine⟨_,Ah (j:=1) ha rfl,_,0,30,rfl,h1.1,h1.2,_,rfl,?_⟩;rw[FS (by decide)];refine⟨_,Ah (j:=2) ha rfl,_,1,rfl,h2.1,_,rfl,?_⟩;rw[FS (by decide)];refine⟨_,Ah (j:=3) ha rfl,_,0,rfl,h3.1,_,rfl,?_⟩;rw[FS (by decide)];refine⟨_,Ah (j:=4) ha rfl,_,0,rfl,h4.1,_,rfl,?_⟩;rw[FS (by decide)];refine⟨_,Ah (j:=5) ha rfl,_,_,rfl,RD.same s1 _ _ rc,h8,λc hc=>⟨⟨(h9 c hc).1.1,by have:=(h9 c hc).1.2;lia⟩,(h9 c hc).2.1⟩,λH2 s2=>⟨_,rfl,?_⟩⟩;rw[FT rfl];exact⟨_,Ah (j:=6) (s2 _ _ ha) rfl,_,_,rfl,RD.same (s1.trans s2) _ _ rp,h5,λc hc=>⟨hp c hc,(h6 c hc).1⟩,h7,λH3 s3=>k H3 ((s1.trans s2).trans s3)⟩
inductive CP (vs:List V) (H:Hp) (Q:VK) (E:XK):Prop | mk (v:V) (cs:List Wr) (_:vs=[v]) (_:RD H (.tuple (cs.map Wr.d)) v) (_:(1<=cs.length/\cs.length<=12)) (_:(∀c∈cs,WV c)) (_:∀H',AA H H'->Q (.bl (decide (cs.map (·.name)).Nodup)) H')
theorem Vw(F:Fun K "are_wares" "are_wares" Ol f fd)(T:Txt mg)(C:Exc K mg c)(Zpx:Has P w K mg base "is_ware" 6 ["found"] DP)(Zu9:Has P w K mg base "is_tuple" 1 ["found", "least", "most"] AS)(Zsr:Has P w K mg base "are_unlike" 1 ["names"] BN):Ax P w K mg base CX0 7 f fd ["found"] CP:=by
 refine F.go ["found"] ?_ ?_ ?_;walk_at "f";obtain⟨v,cs,rfl,rv,hl,ok,k⟩:=h;have hu:=Aw hr;obtain⟨a,xs,rfl,ha,rx⟩:=RD.tup_of rv;have hx:=Ap rx;refine⟨_,(A3 (B0 (PW.pt (J0 (Bk (Bm (A7 Zu9 hr.z rfl (A2 (pv 0) (A2 A6 (A2 (Ak rfl T.Zs4) A0)))))) (Ho (Bk (Bm (Aj (Eo rfl) rfl T.Zr3 Jk (A2 (Bi (own:=["ware"]) (cap:=[]) rfl (Bz rfl) (At (by decide)) (Jc (pv 0))
 (λ_ _ _ _ _ _=>⟨(Af (i:=0) (FP rfl) rfl (Zzq rfl) (.inr rfl)),Ba,(A7 Zpx hr.z rfl (A2 (pv 0) A0))⟩)) A0))))))) (A8 (Ag Gg)) Am)
 (A8 (Ag (A7 Zsr hr.z rfl (A2 (Bi (own:=["ware"]) (cap:=[]) rfl (Bz rfl) (At (by decide)) (Jc (pv 0))
 (λ_ _ _ _ _ _=>⟨(Af (i:=0) (FP rfl) rfl (Zzq rfl) (.inr rfl)),Ba,(Aa hu (pv 0) (Ak rfl T.Zti) (λ_ _=>rfl))⟩)) A0))))),?_⟩
 walk_at "rd";refine⟨a,_,1,12,rfl,ha,by lia,by lia,_,rfl,?_⟩;rw[FS (by decide)];refine .inr ⟨xs,ha,Wg ha (by lia) (λi x H' hx s' N hN=>?_) λa' H2 s2 ha'=>⟨a',rfl,_,ha',?_⟩⟩
 ·obtain⟨c,ec,rc⟩:=B2 rx hx;walk_at "rd";exact⟨x,c,rfl,RD.same s' _ _ rc,ok c (Zzt ec),hN⟩
 ·rw[J6,FS (by decide)];have ha2:=s2 _ _ ha;refine .inr ⟨xs,ha2,?_⟩;refine Bo (E5 a xs) (Ae (by lia)) (λH' s'=>s' _ _ ha2) ((cs.map (·.name)).map V.str) (by simp[hx]) (λi y H' hi hy s' N M hN=>?_) (λH' s' q hq=>?_)
  ·obtain⟨c,ec,rc⟩:=B2 rx hy;obtain⟨ca,_,_,rfl,hca,_⟩:=Cw rc;walk_at "rd";exact⟨_,Ah (j:=0) (s' _ _ (s2 _ _ hca)) rfl,hN _ _ s' (by rw[Zzw,Zzw,ec];rfl)⟩
  ·exact⟨q,_,rfl,A1,by rw[Zzz];lia,λH5 s5=>k H5 (s2.trans (s'.trans ((A5 hq).trans s5)))⟩
inductive DQ (vs:List V) (H:Hp) (Q:VK) (E:XK):Prop | mk (a:Addr) (u:Wt) (_:vs=[.ref a]) (_:H a=some (.tup [.str u.1,.int u.2.1,.int u.2.2])) (_:Aq u.1=true) (_:(0<=u.2.1/\u.2.1<=400)) (_:0<=u.2.2) (_:∀H',AA H H'->Q (.bl true) H')
theorem Zo(F:Fun K "is_want" "is_want" Ty f fd)(T:Txt mg)(C:Exc K mg c)(Zu9:Has P w K mg base "is_tuple" 1 ["found", "least", "most"] AS)(Zu6:Has P w K mg base "is_from" 2 ["found", "least"] BA)(Zty:Has P w K mg base "is_between" 3 ["found", "least", "most"] BE)(Ztv:Has P w K mg base "is_name" 1 ["found"] BH):Ax P w K mg base CX0 4 f fd ["found"] DQ:=by
 refine F.go ["found"] ?_ ?_ ?_;walk_at "f";obtain⟨a,c,rfl,ha,h1,h2,h3,k⟩:=h;have hu:=Aw hr;refine⟨_,(A3 (B0 (Bk (Bm (A7 Zu9 hr.z rfl (A2 (pv 0) (A2 A6 (A2 A6 A0)))))) (A8 (Ag Gg)) Am)
 (A8 (Ag (Ea (A7 Ztv hr.z rfl (A2 (Aa hu (pv 0) A6 (λ_ _=>rfl)) A0)) (Ea (A7 Zty hr.z rfl (A2 (Aa hu (pv 0) A6 (λ_ _=>rfl)) (A2 A6 (A2 (Ak rfl T.Zte) A0)))) (F0 (A7 Zu6 hr.z rfl (A2 (Aa hu (pv 0) A6 (λ_ _=>rfl)) (A2 A6 A0))))))))),?_⟩
 walk_at "rd";refine⟨a,_,3,3,rfl,ha,Zys _,Zys _,_,rfl,?_⟩;rw[FS (by decide)];refine⟨_,Ah (j:=0) ha rfl,c.1,rfl,h1,λH1 s1=>⟨_,rfl,?_⟩⟩;rw[FT rfl];refine⟨_,Ah (j:=1) (s1 _ _ ha) rfl,_,0,400,rfl,h2.1,h2.2,_,rfl,?_⟩;rw[FT rfl];exact⟨_,Ah (j:=2) (s1 _ _ ha) rfl,_,0,rfl,h3,k H1 s1⟩
inductive CQ (vs:List V) (H:Hp) (Q:VK) (E:XK):Prop | mk (v:V) (cs:List Wt) (_:vs=[v]) (_:RD H (.tuple (cs.map L7)) v) (_:cs.length<=20) (_:(∀u∈cs,Aq u.1=true/\(0<=u.2.1/\u.2.1<=400)/\0<=u.2.2)) (_:∀H',AA H H'->Q (.bl true) H')
theorem Vx(F:Fun K "are_wants" "are_wants" Om f fd)(T:Txt mg)(C:Exc K mg c)(Zpw:Has P w K mg base "is_want" 4 ["found"] DQ)(Zu9:Has P w K mg base "is_tuple" 1 ["found", "least", "most"] AS):Ax P w K mg base CX0 5 f fd ["found"] CQ:=by
 refine F.go ["found"] ?_ ?_ ?_;walk_at "f";obtain⟨v,cs,rfl,rv,hl,ok,k⟩:=h;have hu:=Aw hr;obtain⟨a,xs,rfl,ha,rx⟩:=RD.tup_of rv;have hx:=Ap rx;refine⟨_,(A8 (Ag (Ea (A7 Zu9 hr.z rfl (A2 (pv 0) (A2 A6 (A2 (Ak rfl T.Ztj) A0)))) (F0 (Aj (Eo rfl) rfl T.Zr3 Jk (A2 (Bi (own:=["want"]) (cap:=[]) rfl (Bz rfl) (At (by decide)) (Jc (pv 0))
 (λ_ _ _ _ _ _=>⟨(Af (i:=0) (FP rfl) rfl (Zzq rfl) (.inr rfl)),Ba,(A7 Zpw hr.z rfl (A2 (pv 0) A0))⟩)) A0)))))),?_⟩
 walk_at "rd";refine⟨a,_,0,20,rfl,ha,by lia,by lia,_,rfl,?_⟩;rw[FT rfl];refine .inr ⟨xs,ha,Wg ha (by lia) (λi x H' hx s' N hN=>?_) λa' H' s' ha'=>⟨a',rfl,_,ha',?_⟩⟩
 ·obtain⟨c,ec,rc⟩:=B2 rx hx;obtain⟨ca,rfl,hca⟩:=Lp rc;have o:=ok c (Zzt ec);walk_at "rd";exact⟨ca,c,rfl,s' _ _ hca,o.1,o.2.1,o.2.2,hN⟩
 ·rw[J6];exact k _ s'
end
set_option maxHeartbeats 4000000
section
variable {dk:Dk}{c:Cl}
def A25(w:Wr):Prop:=w.parts.length<=1000/\w.coming.length<=1000
structure Sc(S:Sh):Prop where
 names:(S.wares.map (·.name)).Nodup
 len:S.wares.length<=1000
 wares:∀w∈S.wares,A25 w
inductive BF (vs:List V) (H:Hp) (Q:VK) (E:XK):Prop | mk (v:V) (w:Wr) (_:vs=[v]) (_:RD H w.d v) (_:A25 w) (_:∀p H',H p=none->H' p=some (.lst ((w.parts.map (·.1)).map V.str))->AA H H'->Q (.ref p) H')
theorem Sq(F:Fun K "part_names" "part_names" Lz f fd)(T:Txt mg)(C:Exc K mg c):Ax P w K mg base CX0 1 f fd ["ware"] BF:=by
 refine F.go ["ware"] ?_ ?_ ?_;walk_at "f";obtain⟨v,w,rfl,rw',ok,k⟩:=h;have hu:=Aw hr;refine⟨_,(A8 (Ag (Bi (own:=["part"]) (cap:=[]) rfl (Bz rfl) (At (by decide)) (D9 (Aa hu (pv 0) (Ak rfl T.Zrl) (λ_ _=>rfl)))
 (λ_ _ _ _ _ _=>⟨(Af (i:=0) (FP rfl) rfl (Zzq rfl) (.inr rfl)),Ba,(Aa hu (pv 0) A6 (λ_ _=>rfl))⟩)))),?_⟩
 obtain⟨a,c,p,rfl,ha,rc,rp⟩:=Cw rw';obtain⟨b,ps,rfl,hb,rps⟩:=RD.tup_of rp;have hl:=Ap rps;walk_at "rd";refine⟨_,Ah (j:=6) ha rfl,b,rfl,_,hb,?_⟩;refine Bo (E5 b _) (Ae (by rw[hl];exact ok.1)) (λH' s'=>s' _ _ hb) ((w.parts.map (·.1)).map V.str) (by rw[Zzz,Zzz,hl]) (λi x H' hi hx s' N M hN=>?_) (λH' s' p hp=>?_)
 ·obtain⟨y,hy,ry⟩:=B2 rps hx;obtain⟨e,rfl,he⟩:=Mn ry;walk_at "rd";exact⟨_,Ah (j:=0) (s' _ _ he) rfl,hN _ _ s' (by rw[Zzw,Zzw,hy];rfl)⟩
 ·exact k p _ (AA.free s' hp) A1 (s'.trans (A5 hp))
def J7(c:Cl):Sp:=λvs H Q E=>∃(v:V) (S:Sh) (n:Str),vs=[v,.str n]/\RD H S.d v/\Sc S/\((n∈S.wares.map (·.name)/\∀x w,w∈S.wares->w.name=n->RD H w.d x->Q x H)\/(n∉S.wares.map (·.name)/\n.length<=1000/\(∀c∈n.cps.toList,c<1114112)/\E (.ref c.NoName) none H))
inductive yr (b:V) (n:Str) (ws:List Wr) (H:Hp) (i:Nat) (Z:St) (H':Hp):Prop | mk (c:Option V) (_:Z=[some b,some (.str n),c]) (_:H'=H) (_:∀w∈ws.take i,w.name≠n)
theorem DR:Ce ["shop", "name", "ware"] ["shop", "name"] (Ar Ni):=by walk_at "sc"
theorem Zk(F:Fun K "ware_of" "ware_of" Ni f fd)(T:Txt mg)(C:Exc K mg c):Ax P w K mg base (CXE P w) 1 f fd ["shop", "name"] (J7 c):=by
 refine F.okX DR (λvs H Q E h=>?_) (λcdv A outer s H vs Q E hr h=>?_)
 ·obtain⟨v,S,n,rfl,_⟩:=h;rfl
 ·obtain⟨v,S,n,rfl,rs,ok,k⟩:=h;have hu:=Aw hr;refine⟨_,(A3 (Bd PassesOwn.leaving rfl (D9 (Aa hu (pv 0) A6 (λ_ _=>rfl))) (Af (i:=2) DR.nd rfl (Zzq rfl))
 (A8 (B0 (An (Bg hu) (Aa hu (pv 2) (Ak rfl T.Zti) (λ_ _=>rfl)) (pv 1) (Ao _)) (A8 (Ag (pv 2))) Am)))
 (A8 (D8 Kd rfl rfl C.Zpo C.Zqx (A2 (nv (nh (A0d (pv 1) ng))) A0)))),?_⟩
  obtain⟨a,b,d,ws,us,rfl,ha,hb,hc,rws,rus⟩:=Bq rs;have hl:=Ap rws;walk_at "rd";refine⟨_,Ah (j:=0) ha rfl,b,rfl,_,hb,?_⟩;refine Cj (E5 b _) (yr (.ref a) n S.wares H) ⟨_,rfl,rfl,by simp⟩ (λi Z H' _ h=>by obtain⟨_,_,rfl,_⟩:=h;exact hb) (λi x Z H' hi hx h=>?_) (λZ H' h=>?_)
  ·obtain⟨d,rfl,rfl,hno⟩:=h;obtain⟨w,hw,rw'⟩:=B2 rws hx;obtain⟨e,c1,c2,rfl,he,_⟩:=Cw rw';walk_at "rd";have hm:=Zzt hw;refine⟨_,Ah (j:=0) he rfl,rfl,Du (λh=>?_) (λh=>?_)⟩
   ·have en:w.name=n:=by have:=FP h;cases this;rfl
    rcases k with ⟨_,k⟩ | ⟨hn,_⟩
    ·exact k _ w hm en rw'
    ·exact absurd (Zzo.mpr ⟨w,hm,en⟩) hn
   ·refine⟨_,rfl,rfl,λw' hw'=>?_⟩;rw[Zz1,hw] at hw';rcases Zz2.mp hw' with z | z
    ·exact hno w' z
    ·have e:w'=w:=by simpa using z
     subst e;intro e;exact h (FQ (by rw[e]))
  ·obtain⟨d,rfl,rfl,hno⟩:=h;rw[hl,Zz4] at hno;rcases k with ⟨hn,_⟩ | ⟨_,hx,htx,ke⟩
   ·obtain⟨w,hw,e⟩:=Zzo.mp hn;exact absurd e (hno w hw)
   ·walk_at "rd";have l18:(Str.ofString "no ware is called ").length=18:=by decide +kernel
    exact⟨by lia,htx,by lia,by lia,λ_=>⟨by decide,ke⟩⟩
inductive BZ (vs:List V) (H:Hp) (Q:VK) (E:XK):Prop | mk (a:Addr) (kvs:List (Key×V)) (G:Gr) (_:vs=[.ref a]) (_:H a=some (.dK kvs)) (_:PDk H kvs G) (_:(Ay G).Nodup) (_:G.length<=1000) (_:(∀e∈G,e.2.length<=1000)) (_:∀p kvs' H',H p=none->H' p=some (.dK kvs')->PDk H' kvs' (ao G)->But a H H'->Q (.ref p) H')
def yy(a p:Addr)(o:Obj)(kvs:List (Key×V))(G:Gr)(H:Hp)(i:Nat)(Z:St)(H':Hp):Prop:=∃(n g:Option V) (kvs':List (Key×V)),Z=[some (.ref a),some (.ref p),n,g]/\H' a=some (.frz o (.dK kvs))/\H' p=some (.dK kvs')/\PDk H' kvs' ((G.take i).filterMap (Ci (Ay G)))/\But a H H'
def A2h(a p:Addr)(o:Obj)(kvs kvs':List (Key×V))(G G':Gr)(ps:List Str)(H:Hp)(i:Nat)(acc:List V)(H':Hp):Prop:=acc=(Pd (Ay G) (ps.take i)).map V.str/\H' a=some (.frz o (.dK kvs))/\H' p=some (.dK kvs')/\PDk H' kvs' G'/\But a H H'/\PDk H' kvs G
theorem Ui{ks:List Str}(h:ps[i]?=some x):Pd ks (ps.take (i+1))=Pd ks (ps.take i)++if decide (x∈ks)=true then [x] else []:=by
 unfold Pd;rw[Zz1,h,Zxu];by_cases hx:x∈ks
 ·simp[hx]
 ·simp[hx]
theorem P8(F:Fun K "without_ends" "without_ends" K3 f fd)(T:Txt mg)(C:Exc K mg c):Ax P w K mg base CX0 1 f fd ["parts"] BZ:=by
 refine F.go ["parts", "left", "name", "going_on"] ?_ ?_ ?_;walk_at "f";obtain⟨a,kvs,G,rfl,ha,pd,nd,hG,hps,k⟩:=h;have hu:=Aw hr;have hkl:=pd.len;have ndk:(kvs.map (·.1)).Nodup:=by rw[pd.keys];exact ja nd
 refine⟨_,(A3 (Al (i:=1) Nd rfl (Zzq rfl) Mm)
 (A3 (Bd PassesOwn.never rfl (A0b (pv 0)) (Af (i:=2) Nd rfl (Zzq rfl))
 (A3 (E2 (own:=["part"]) (cap:=[0]) (i:=3) rfl (Bz rfl) (At (by decide)) Nd rfl rfl (Dq (Aa hu (pv 0) (pv 2) (λ_ _=>rfl)))
 (λ_ _ _ _ _ _=>⟨(Af (i:=0) (FP rfl) rfl (Zzq rfl) (.inr rfl)),(Mh (An (Nn hu) (pv 0) (pv 1) rfl)),(pv 0)⟩))
 (A8 (B0 (d6 (pv 3)) (A8 (Il (pv 3) (Jd (pv 1) (pv 2) (Jz hu)))) Am))))
 (A8 (Ag (pv 1))))),?_⟩
 walk_at "rd";refine λp hp=>⟨_,by rw[Ab (A9 ha hp)];exact ha,λo=>?_⟩;have nap:a≠p:=A9 ha hp;have b0:But a H (upd (upd H p (.dK [])) a (.frz o (.dK kvs))):=(L1 hp).trans DF;have pl:∀{H':Hp},But a H H'->PDk H' kvs G:=λ{H'} bt=>pd.mono λl xs h=>bt l _ (λz=>by rw[z,ha] at h;cases h) h;refine Cj (A1t a o kvs) (yy a p o kvs G H) ⟨_,_,[],rfl,A1,by rw[Ab (Zza nap),A1],.nil,b0⟩ (λi Z H' _ h=>by obtain⟨_,_,_,_,h,_⟩:=h;exact h) (λi x Z H' hi hx h=>?_) (λZ H' h=>?_)
 ·obtain⟨n,g,kvs',rfl,h1,h2,h3,bt⟩:=h;obtain⟨key,val,hk,rfl⟩:=hx;obtain⟨e,l,he,rfl,rfl,hl⟩:=PDk.get' (pl bt) hk;have hv:=Q7 ndk hk;have hmem:=Zzt he;refine Ny (λZ' H''=>∃q:Addr,Z'=[some (.ref a),some (.ref p),some (.str e.1),some (.ref q)]/\H'' q=some (.lst ((Pd (Ay G) e.2).map V.str))/\H'' a=some (.frz o (.dK kvs))/\H'' p=some (.dK kvs')/\PDk H'' kvs' ((G.take i).filterMap (Ci (Ay G)))/\But a H H'') ?_ (λKK hK=>?_)
  ·rintro Z' H'' ⟨q,rfl,hq,g1,g2,g3,gb⟩;walk_at "rd";refine⟨_,hq,?_⟩;have et:(G.take (i+1)).filterMap (Ci (Ay G))=(G.take i).filterMap (Ci (Ay G))++(Ci (Ay G) e).toList:=by
    rw[Zz1,he,List.filterMap_append];cases hc:Ci (Ay G) e<;>simp[hc]
   refine Du (λhz=>?_) (λhz=>?_)
   ·have hne:Pd (Ay G) e.2≠[]:=λz=>by rw[z] at hz;exact absurd hz (by decide)
    have hc:Ci (Ay G) e=some (e.1,Pd (Ay G) e.2):=by unfold Ci;rw[FS hne]
    have nin:e.1∉Ay ((G.take i).filterMap (Ci (Ay G))):=λm=>by
     have m':e.1∈Ay (G.take i):=(BJ (ks:=Ay G) (G:=G.take i)).subset m;have nd':(Ay (G.take i)++Ay (G.drop i)).Nodup:=by
      have:Ay (G.take i)++Ay (G.drop i)=Ay G:=by unfold Ay;rw[<- Zzi,Zux]
      rw[this];exact nd
     have hlt:i<G.length:=(Zzb.mp he).1;have md:e.1∈Ay (G.drop i):=by
      unfold Ay;rw[List.drop_eq_getElem_cons hlt];have:G[i]=e:=(Zzb.mp he).2;rw[this,Zz9];exact Zzj
     exact(List.nodup_append.mp nd').2.2 _ m' _ md rfl
    have hlen':kvs'.length<sizeLine:=by
     have:=g3.len;have h5:((G.take i).filterMap (Ci (Ay G))).length<=(G.take i).length:=List.length_filterMap_le _ _;rw[Zz5] at h5;exact Zy6 (m:=1000) (by lia) (by decide)
    refine⟨kvs',.inr e.1,rfl,g2,hlen',?_⟩;have ku:∀l xs,H'' l=some (.lst xs)->upd H'' p (.dK (Gp kvs' (.inr e.1) (.ref q))) l=some (.lst xs):=λl xs h=>by rw[Ab (λz=>by rw[z,g2] at h;cases h)];exact h
    refine⟨_,_,_,rfl,by rw[Ab nap];exact g1,A1,?_,?_⟩
    ·rw[et,hc];exact(g3.mono ku).snoc nin (ku _ _ hq)
    ·exact λb o' nb hb=>by rw[Ab (A9 hb hp)];exact gb b o' nb hb
   ·have hne:Pd (Ay G) e.2=[]:=by
     cases hx:Pd (Ay G) e.2 with
     |nil=>rfl
     |cons y r=>rw[hx] at hz;exact absurd rfl hz
    have hc:Ci (Ay G) e=none:=by unfold Ci;rw[FT hne]
    exact⟨_,_,_,rfl,g1,g2,by rw[et,hc];simpa using g3,gb⟩
  ·walk_at "rd";refine⟨_,Lj (.inr ⟨o,h1⟩) hv,l,rfl,_,hl,?_⟩;refine Ji (Eu l _) (Ae (by rw[Zzz];exact hps e hmem)) (A2h a p o kvs kvs' G ((G.take i).filterMap (Ci (Ay G))) e.2 H) ⟨rfl,h1,h2,h3,bt,pl bt⟩ (λj acc H2 _ h=>?_) (λj acc H2 h=>?_) (λj x acc H2 hj hx h=>?_) (λacc H2 h q hq=>?_)
   ·obtain⟨_,_,_,_,hb,hpd⟩:=h;obtain⟨l2,hl2,hl3⟩:=PDk.get hpd he;rw[hk] at hl2;cases hl2;exact hl3
   ·rw[h.1,Zzz];refine Zzk (Zxw _ _) ?_;rw[Zz5];exact Nat.min_le_left _ _
   ·obtain⟨rfl,w1,w2,w3,w4,w5⟩:=h;rw[Zzw] at hx;cases ex:e.2[j]? with
    |none=>rw[ex] at hx;cases hx
    |some y =>
    rw[ex] at hx;cases hx;walk_at "rd";refine⟨_,.inr (.inr ⟨a,kvs,.inr y,rfl,rfl,.inr ⟨o,w1⟩,rfl⟩),?_⟩;rw[w5.has y];refine Du (λhy=>?_) (λhy=>?_)
    ·exact⟨by rw[Ui ex,FT hy,Zzi];rfl,w1,w2,w3,w4,w5⟩
    ·exact⟨by rw[Ui ex,FS hy,Zyw],w1,w2,w3,w4,w5⟩
   ·obtain⟨rfl,w1,w2,w3,w4,w5⟩:=h;rw[Zzz,Zz4];have nq:∀{b:Addr} {o':HO} (o'':HO),H2 b=some o'->upd H2 q o'' b=some o':=λ{b o'} o'' hb=>by rw[Ab (A9 hb hq)];exact hb
    exact hK _ _ ⟨q,rfl,A1,nq _ w1,nq _ w2,w3.mono λl xs h=>nq _ h,w4.trans (L1 hq)⟩
 ·obtain⟨n,g,kvs',rfl,h1,h2,h3,bt⟩:=h;walk_at "rd";rw[hkl,Zz4] at h3;exact k p kvs' H' hp h2 h3 bt
inductive BU (vs:List V) (H:Hp) (Q:VK) (E:XK):Prop | mk (v:V) (S:Sh) (_:vs=[v]) (_:RD H S.d v) (_:Sc S) (_:∀p kvs' H',H p=none->H' p=some (.dK kvs')->PDk H' kvs' (N6 S.wares.length (He S))->AA H H'->Q (.ref p) H')
inductive A1d (v:V) (p:Addr) (S:Sh) (H:Hp) (i:Nat) (Z:St) (H':Hp):Prop | mk (n g:Option V) (kvs':List (Key×V)) (_:Z=[some v,some (.ref p),n,g]) (_:H' p=some (.dK kvs')) (_:PDk H' kvs' ((He S).take i)) (_:AA H H')
inductive A1a (v:V) (S:Sh) (H:Hp) (i:Nat) (Z:St) (H':Hp):Prop | mk (q:Addr) (n g:Option V) (kvs':List (Key×V)) (_:Z=[some v,some (.ref q),n,g]) (_:H q=none) (_:H' q=some (.dK kvs')) (_:PDk H' kvs' (N6 i (He S))) (_:AA H H')
theorem xc(S:Sh):Ay (He S)=S.wares.map (·.name):=by unfold Ay He;rw[Zyd];rfl
theorem ad(S:Sh):(He S).length=S.wares.length:=by unfold He;rw[Zzz]
theorem qo(ok:Sc S):∀e∈He S,e.2.length<=1000:=λe he=>by
 obtain⟨w,hw,rfl⟩:=Zzo.mp he;show (w.parts.map (·.1)).length<=1000;rw[Zzz];exact(ok.wares w hw).1
theorem Nq(F:Fun K "endless_parts" "endless_parts" Jp f fd)(T:Txt mg)(C:Exc K mg c)(Ztx:Has P w K mg base "part_names" 1 ["ware"] BF)(Zrd:Has P w K mg base "without_ends" 1 ["parts"] BZ):Ax P w K mg base CX0 2 f fd ["shop"] BU:=by
 refine F.go ["shop", "parts", "ware", "turn"] ?_ ?_ ?_;walk_at "f";obtain⟨v,S,rfl,rs,ok,k⟩:=h;have hu:=Aw hr;have nd:(Ay (He S)).Nodup:=by rw[xc];exact ok.names
 refine⟨_,(A3 (Al (i:=1) Nd rfl (Zzq rfl) Mm)
 (A3 (Bd PassesOwn.never rfl (D9 (Aa hu (pv 0) A6 (λ_ _=>rfl))) (Af (i:=2) Nd rfl (Zzq rfl))
 (A8 (Il (A7 Ztx hr.z rfl (A2 (pv 2) A0)) (Jd (pv 1) (Aa hu (pv 2) (Ak rfl T.Zti) (λ_ _=>rfl)) (Jz hu)))))
 (A3 (Bd PassesOwn.never rfl (C9 rfl T.Zsc (A2 (Aj Bt rfl T.Ztg Cv (A2 (Aa hu (pv 0) A6 (λ_ _=>rfl)) A0)) A0)) (Af (i:=3) Nd rfl (Zzq rfl))
 (A8 (Al (i:=1) Nd rfl (Zzq rfl) (A7 Zrd hr.z rfl (A2 (pv 1) A0)))))
 (A8 (Ag (pv 1)))))),?_⟩
 obtain⟨a,b,c,ws,us,rfl,ha,hb,hc,rws,rus⟩:=Bq rs;have hl:=Ap rws;refine cut2 (λZ' H'=>∃(p:Addr) (n g:Option V) (kvs':List (Key×V)),Z'=[some (.ref a),some (.ref p),n,g]/\H p=none/\H' p=some (.dK kvs')/\PDk H' kvs' (He S)/\AA H H') ?_ (λKK hK=>?_)
 ·rintro Z' H1 ⟨p,n,g,kvs',rfl,hp,hp1,pd,sm⟩;walk_at "rd";refine⟨_,Ah (j:=0) (sm _ _ ha) rfl,b,rfl,_,.inr (sm _ _ hb),by lia,by have:=ok.len;lia,?_⟩;have en:((ws.length:Nat):Int).toNat=S.wares.length:=by lia
  rw[en];refine Cj (Le 0 _) (A1a (.ref a) S H) ⟨p,_,_,_,rfl,hp,hp1,pd,sm⟩ (λ_ _ _ _ _=>trivial) (λi x Z H2 hi hx h=>?_) (λZ H2 h=>?_)
  ·obtain⟨q,n,g,kvs',rfl,hq,hq1,pd,sm⟩:=h;walk_at "rd";refine⟨q,kvs',_,rfl,hq1,pd,S6 nd i,by have:=Yo (He S) i;rw[ad] at this;have:=ok.len;lia,λe he=>?_,λp2 kvs2 H3 hp2 hp3 pd3 bt=>?_⟩
   ·obtain⟨ps,h1,_,h3⟩:=Jh i he;have:=qo ok _ h1;have:ps.length<=1000:=this;lia
   ·exact⟨p2,_,_,kvs2,rfl,AA.free sm hp2,hp3,pd3,λb' o hb'=>bt b' o (A9 hb' hq) (sm b' o hb')⟩
  ·obtain⟨q,n,g,kvs',rfl,hq,hq1,pd,sm⟩:=h;walk_at "rd";exact k q kvs' H2 hq hq1 pd sm
 ·walk_at "rd";refine λp hp=>?_;refine⟨_,Ah (j:=0) (by rw[Ab (A9 ha hp)];exact ha) rfl,b,rfl,_,by rw[Ab (A9 hb hp)];exact hb,?_⟩;refine Cj (E5 b _) (A1d (.ref a) p S H) ⟨_,_,[],rfl,A1,.nil,A5 hp⟩ (λi Z H' _ h=>by obtain⟨_,_,_,_,_,_,s⟩:=h;exact s _ _ hb) (λi x Z H' hi hx h=>?_) (λZ H' h=>?_)
  ·obtain⟨n,g,kvs',rfl,h1,h2,sm⟩:=h;obtain⟨w,hw,rw'⟩:=B2 rws hx;have hg:(He S)[i]?=some (w.name,w.parts.map (·.1)):=by unfold He;rw[Zzw,hw];rfl
   walk_at "rd";refine⟨x,w,rfl,RD.same sm _ _ rw',ok.wares w (Zzt hw),λq H2 hq hq2 sm2=>?_⟩;obtain⟨e,c1,c2,rfl,he,_⟩:=Cw rw';have sm02:=sm.trans sm2;have nin:w.name∉Ay ((He S).take i):=λm=>by
    have nd':(Ay ((He S).take i)++Ay ((He S).drop i)).Nodup:=by
     have:Ay ((He S).take i)++Ay ((He S).drop i)=Ay (He S):=by unfold Ay;rw[<- Zzi,Zux]
     rw[this];exact nd
    have hlt:i<(He S).length:=(Zzb.mp hg).1;have md:w.name∈Ay ((He S).drop i):=by
     unfold Ay;rw[List.drop_eq_getElem_cons hlt];have:(He S)[i]=(w.name,w.parts.map (·.1)):=(Zzb.mp hg).2;rw[this,Zz9];exact Zzj
    exact(List.nodup_append.mp nd').2.2 _ m _ md rfl
   have hp2:=sm2 p _ h1;refine⟨_,Ah (j:=0) (sm02 _ _ he) rfl,kvs',.inr w.name,rfl,hp2,?_,?_⟩
   ·have:=h2.len
    rw[Zz5,ad] at this;have:=ok.len;exact Zy6 (m:=1000) (by lia) (by decide)
   ·have ku:∀l xs,H2 l=some (.lst xs)->upd H2 p (.dK (Gp kvs' (.inr w.name) (.ref q))) l=some (.lst xs):=λl xs h=>by rw[Ab (λz=>by rw[z,hp2] at h;cases h)];exact h
    refine⟨_,_,_,rfl,A1,?_,λb' o hb'=>by rw[Ab (A9 hb' hp)];exact sm02 b' o hb'⟩;rw[Zz1,hg];exact((h2.mono λl xs h=>sm2 l _ h).mono ku).snoc nin (ku _ _ hq2)
  ·obtain⟨n,g,kvs',rfl,h1,h2,sm⟩:=h;rw[hl,<- ad,Zz4] at h2;exact hK _ _ ⟨p,_,_,kvs',rfl,hp,h1,h2,sm⟩
def Ln(S:Sh):Prop:=N6 S.wares.length (He S)=[]
def gq(S:Sh)(x:Str):Prop:=N6 S.wares.length (He S)=[(x,[x])]
inductive DZ (vs:List V) (H:Hp) (Q:VK) (E:XK):Prop | mk (v:V) (S:Sh) (_:vs=[v]) (_:RD H S.d v) (_:Sc S) (_:((Ln S/\∀H',AA H H'->Q .non H')\/∃x,gq S x/\∀p H',H' p=some (.lst [.str x])->AA H H'->Q (.ref p) H'))
inductive A22 (v:V) (p w:Addr) (x:Str) (kvs:List (Key×V)) (H:Hp) (m:Nat) (Z:St) (H':Hp):Prop | mk (l:Addr) (_:Z=[some v,some (.ref p),some (.ref w),some (.str x)]) (_:m<=1) (_:H' w=some (.lst (if m=0 then [.str x] else []))) (_:H' p=some (.dK kvs)) (_:C4 kvs (.inr x)=some (.ref l)) (_:l≠w) (_:H' l=some (.lst [.str x])) (_:AA H H')
theorem wg(F:Fun K "ring" "ring" mi f fd)(T:Txt mg)(C:Exc K mg c)(Zrh:Has P w K mg base "endless_parts" 2 ["shop"] BU):Ax P w K mg base CX0 3 f fd ["shop"] DZ:=by
 refine F.go ["shop", "parts", "way", "name"] ?_ ?_ ?_;walk_at "f";obtain⟨v,S,rfl,rs,ok,k⟩:=h;have hu:=Aw hr;refine⟨_,(A3 (Al (i:=1) Nd rfl (Zzq rfl) (A7 Zrh hr.z rfl (A2 (pv 0) A0)))
 (A3 (B0 (Bk (vq (pv 1))) (A8 (Ag Ka)) Am)
 (A3 (Al (i:=2) Nd rfl (Zzq rfl) (B7 A0))
 (A3 (Al (i:=3) Nd rfl (Zzq rfl) (Aa hu (Au (au rfl) rfl T.Zpk gi (A2 (pv 1) A0)) A6 (λ_ _=>rfl)))
 (A3 (Xi PassesOwn.never (An (ig hu) (pv 3) (pv 2) rfl) (A3 (Bf (Bw Zz7 Zyr Zyq By (pv 2) (A2 (pv 3) A0)))
 (A8 (Al (i:=3) Nd rfl (Zzq rfl) (Aa hu (Aa hu (pv 1) (pv 3) (λ_ _=>rfl)) A6 (λ_ _=>rfl))))))
 (A8 (Ag (Bj Fg (pv 2) (Br (Bw Zz7 PySem.F.slot_list_index PySem.F.type_list_index oy (pv 2) (A2 (pv 3) A0))) Cc)))))))),?_⟩
 walk_at "rd";refine⟨v,S,rfl,rs,ok,λp kvs H1 hp hp1 pd sm=>⟨p,rfl,kvs,hp1,?_⟩⟩;rcases k with ⟨no,k⟩ | ⟨x,r1,k⟩
 ·rw[no] at pd;cases pd;exact iteT (k H1 sm)
 rw[r1] at pd;obtain⟨l,hk,hl⟩:=pd.get (i:=0) rfl;have hkl:=pd.len;obtain⟨kk,rfl⟩:∃kk,kvs=[kk]:=List.length_eq_one_iff.mp hkl;have hk:kk=(.inr x,.ref l):=Zzm hk;subst hk;rw[FS (by simp)];refine⟨by decide,λw hw=>?_⟩;have u:=A5 (o:=.lst []) hw;refine⟨p,_,rfl,.inl (u _ _ hp1),(by show 1<=1000;decide),λq hq=>?_⟩;have u2:=A5 (o:=.lst [V.str x]) hq;refine⟨.str x,B3 (j:=0) A1 rfl,?_⟩;refine⟨A22 v p w x _ H1,⟨1,l,rfl,Zzx _,u2 _ _ A1,u2 _ _ (u _ _ hp1),by simp[C4],A9 hl hw,u2 _ _ (u _ _ hl),u.trans u2⟩,?_⟩;rintro m Z H2 ⟨l,rfl,m1,hw2,hp2,hv,lw,hl2,s2⟩;walk_at "rd";by_cases hm:m=0
 ·rw[FT hm] at hw2;refine⟨_,.inl ⟨w,_,rfl,.inl hw2,rfl,Hj [x],rfl⟩,?_⟩;rw[show inV (V.str x) [V.str x]=true from (Mw (x:=x) (xs:=[x])).trans (FQ (Zzr.mpr rfl)),FS (by decide)];refine⟨Ck hw2,[x],hw2,Zzr.mpr rfl,_,hw2,λr hr2=>?_⟩;have e:Ds [V.str x] (some (([x].idxOf x:Nat):Int)) none=[V.str x]:=by rw[List.idxOf_cons_self];rfl
  rw[e];exact k r _ A1 ((sm.trans s2).trans (A5 hr2))
 ·rw[FS hm] at hw2;refine⟨_,.inl ⟨w,_,rfl,.inl hw2,rfl,Hj [],rfl⟩,?_⟩;rw[show inV (V.str x) []=false from rfl,FT (by decide)];have pw:p≠w:=Y1 hp2 hw2 (λz=>by cases z);refine⟨_,λZ' H' h=>h,Ck hw2,_,hw2,by decide,.ref l,Lj (.inl (by rw[Ab pw];exact hp2)) hv,.str x,B3 (j:=0) (xs:=[V.str x]) (by rw[Ab lw];exact hl2) rfl,0,by lia,l,rfl,by decide,A1,by rw[Ab pw];exact hp2,hv,lw,by rw[Ab lw];exact hl2,λb o hb=>by rw[Ab (A9 hb hw)];exact s2 b o hb⟩
def E7(c:Cl):Sp:=λvs H Q E=>∃(v:V) (S:Sh),vs=[v]/\RD H S.d v/\Sc S/\((Ln S/\∀H',AA H H'->Q .non H')\/∃x,gq S x/\x.length<=8/\∀H',AA H H'->E (.ref c.Ring) none H')
theorem BI:Ce ["shop", "found", "names"] ["shop"] (Ar Ik):=by walk_at "sc"
theorem Rj(F:Fun K "check_rings" "check_rings" Ik f fd)(T:Txt mg)(C:Exc K mg c)(Zpn:Has P w K mg base "ring" 3 ["shop"] DZ):Ax P w K mg base (CXE P w) 4 f fd ["shop"] (E7 c):=by
 refine F.okX BI (λvs H Q E h=>?_) (λcdv A outer s H vs Q E hr h=>?_)
 ·obtain⟨v,S,rfl,_⟩:=h;rfl
 ·obtain⟨v,S,rfl,rs,ok,k⟩:=h;have hu:=Aw hr;refine⟨_,(A3 (Al (i:=1) BI.nd rfl (Zzq rfl) (A7 Zpn hr.z rfl (A2 (pv 0) A0)))
 (A8 (B0 (An U9 (pv 1) Ka (Ao _)) (A3 (Al (i:=2) BI.nd rfl (Zzq rfl) (Bw Zyl Zxm Zxl Je Ac (A2 (pv 1) A0)))
 (A8 (D8 Kd rfl rfl C.Zpj C.Zq0 (A2 (nv (nh (A0c (pv 2) ng))) A0)))) Am))),?_⟩
  walk_at "rd";refine⟨v,S,rfl,rs,ok,?_⟩;rcases k with ⟨no,k⟩ | ⟨x,r1,lx,k⟩
  ·refine .inl ⟨no,λH' sm=>?_⟩;walk_at "rd";exact A1p trivial (k H' sm)
  ·refine .inr ⟨x,r1,λp H' hp sm=>?_⟩;walk_at "rd";rw[FT (by rw[FR (λz=>by cases z)];rfl)];have l18:(Str.ofString "a ring of parts: ").length=17:=by decide +kernel
   refine⟨rfl,[x],hp,8,λy hy=>by rw[Zzr.mp hy];exact lx,(by show 1*8+1*1<=16777216;decide),?_⟩;have e:(Str.join (Str.ofString " ") [x]).length<=8:=lx;exact⟨by lia,by lia,by lia,λ_=>⟨by decide,k H' sm⟩⟩
end
set_option maxHeartbeats 4000000
section
variable {dk:Dk}{c:Cl}
structure ui(S:Sh):Prop extends Lev S where
 ok:Sc S
 few:S.wares.length<64
theorem Zz(h:Lev S):Ln S:=by
 obtain⟨r,h1,h2⟩:=h.low;unfold Ln;refine Yn (r:=r) (λe he x hx=>?_) (λe he=>?_)
 ·obtain⟨w,hw,rfl⟩:=Zzo.mp he;obtain⟨p,hp,rfl⟩:=Zzo.mp hx;exact h2 w hw p hp
 ·obtain⟨w,hw,rfl⟩:=Zzo.mp he;exact h1 w hw
def Bl(S:Sh):List Str:=S.wares.map (·.name)
theorem F9(S:Sh):(Bl S).length=S.wares.length:=by unfold Bl;rw[Zzz]
inductive BC (vs:List V) (H:Hp) (Q:VK) (E:XK):Prop | mk (v:V) (S:Sh) (_:vs=[v]) (_:RD H S.d v) (_:S.wares.length<=1000) (_:∀p H',H p=none->H' p=some (.lst ((Bl S).map V.str))->AA H H'->Q (.ref p) H')
theorem Xo(F:Fun K "names_of" "names_of" Qi f fd)(T:Txt mg)(C:Exc K mg c):Ax P w K mg base CX0 1 f fd ["shop"] BC:=by
 refine F.go ["shop"] ?_ ?_ ?_;walk_at "f";obtain⟨v,S,rfl,rs,hlen,k⟩:=h;have hu:=Aw hr;refine⟨_,(A8 (Ag (Bi (own:=["ware"]) (cap:=[]) rfl (Bz rfl) (At (by decide)) (D9 (Aa hu (pv 0) A6 (λ_ _=>rfl)))
 (λ_ _ _ _ _ _=>⟨(Af (i:=0) (FP rfl) rfl (Zzq rfl) (.inr rfl)),Ba,(Aa hu (pv 0) (Ak rfl T.Zti) (λ_ _=>rfl))⟩)))),?_⟩
 obtain⟨a,b,c,ws,us,rfl,ha,hb,hc,rws,rus⟩:=Bq rs;have hl:=Ap rws;walk_at "rd";refine⟨_,Ah (j:=0) ha rfl,b,rfl,_,hb,?_⟩;refine Bo (E5 b _) (Ae (by lia)) (λH' s'=>s' _ _ hb) ((Bl S).map V.str) (by rw[Zzz,F9,hl]) (λi x H' hi hx s' N M hN=>?_) (λH' s' p hp=>?_)
 ·obtain⟨y,hy,ry⟩:=B2 rws hx;obtain⟨e,c1,c2,rfl,he,_⟩:=Cw ry;walk_at "rd";refine⟨_,Ah (j:=0) (s' _ _ he) rfl,hN _ _ s' ?_⟩;unfold Bl;rw[Zzw,Zzw,hy];rfl
 ·exact k p _ (AA.free s' hp) A1 (s'.trans (A5 hp))
inductive DW (vs:List V) (H:Hp) (Q:VK) (E:XK):Prop | mk (v:V) (S:Sh) (_:vs=[v]) (_:RD H S.d v) (_:ui S) (_:∀p H',H p=none->H' p=some (.dK (fnD (Bl S) (lv S)))->AA H H'->Q (.ref p) H')
inductive yq (v:V) (p:Addr) (S:Sh) (H:Hp) (i:Nat) (Z:St) (H':Hp):Prop | mk (o1 o2 o3 o4:Option V) (_:Z=[some v,some (.ref p),o1,o2,o3,o4]) (_:H' p=some (.dK (fnD ((Bl S).take i) λ_=>0))) (_:AA H H')
def zn(S:Sh)(k i j:Nat)(g:Str->Int):Prop:=(∀x,0<=g x/\lvF S k x<=g x/\(x∈Bl S->g x<=lv S x))/\(∀w∈S.wares.take i,∀p∈w.parts,1+lvF S k w.name<=g p.1)/\∀w,S.wares[i]?=some w->∀p∈w.parts.take j,1+lvF S k w.name<=g p.1
inductive yu (v:V) (p:Addr) (S:Sh) (H:Hp) (k:Nat) (Z:St) (H':Hp):Prop | mk (o1 o2 o3 o4:Option V) (g:Str->Int) (_:Z=[some v,some (.ref p),o1,o2,o3,o4]) (_:H' p=some (.dK (fnD (Bl S) g))) (_:(∀x,0<=g x/\lvF S k x<=g x/\(x∈Bl S->g x<=lv S x))) (_:AA H H')
inductive yv (v:V) (p:Addr) (S:Sh) (k:Nat) (H:Hp) (i:Nat) (Z:St) (H':Hp):Prop | mk (o1 o2 o3 o4:Option V) (g:Str->Int) (_:Z=[some v,some (.ref p),o1,o2,o3,o4]) (_:H' p=some (.dK (fnD (Bl S) g))) (_:zn S k i 0 g) (_:AA H H')
inductive uf (v:V) (p:Addr) (t:V) (S:Sh) (k i:Nat) (H:Hp) (j:Nat) (Z:St) (H':Hp):Prop | mk (o1 o2 o4:Option V) (g:Str->Int) (_:Z=[some v,some (.ref p),o1,o2,some t,o4]) (_:H' p=some (.dK (fnD (Bl S) g))) (_:zn S k i j g) (_:AA H H')
theorem il(F:Fun K "levels" "levels" Xc f fd)(T:Txt mg)(C:Exc K mg c)(Zu0:Lo P w K mg base "check_rings" 4 ["shop"] (E7 c))(Ztz:Has P w K mg base "names_of" 1 ["shop"] BC)(Ztx:Has P w K mg base "part_names" 1 ["ware"] BF):Ax P w K mg base CX0 5 f fd ["shop"] DW:=by
 refine F.go ["shop", "told", "name", "turn", "ware", "part"] ?_ ?_ ?_;walk_at "f";obtain⟨v,S,rfl,rs,L,k⟩:=h;have hu:=Aw hr;refine⟨_,(A3 (Bf (Ch Zu0 U8 hr.z rfl (A2 (pv 0) A0)))
 (A3 (Al (i:=1) Nd rfl (Zzq rfl) Mm)
 (A3 (Bd PassesOwn.never rfl (Dq (A7 Ztz hr.z rfl (A2 (pv 0) A0))) (Af (i:=2) Nd rfl (Zzq rfl))
 (A8 (Il A6 (Jd (pv 1) (pv 2) (Jz hu)))))
 (A3 (Bd PassesOwn.never rfl (C9 rfl T.Zsc (A2 (Aj Bt rfl T.Ztg Cv (A2 (Aa hu (pv 0) A6 (λ_ _=>rfl)) A0)) A0)) (Af (i:=3) Nd rfl (Zzq rfl))
 (A8 (Bd PassesOwn.never rfl (D9 (Aa hu (pv 0) A6 (λ_ _=>rfl))) (Af (i:=4) Nd rfl (Zzq rfl))
 (A8 (Bd PassesOwn.never rfl (Dq (A7 Ztx hr.z rfl (A2 (pv 4) A0))) (Af (i:=5) Nd rfl (Zzq rfl))
 (A8 (Il (Aj (Uq rfl) rfl T.Zpl ay (A2 (Aa hu (pv 1) (pv 5) (λ_ _=>rfl)) (A2 (Ai Dr (Aa hu (pv 1) (Aa hu (pv 4) (Ak rfl T.Zti) (λ_ _=>rfl)) (λ_ _=>rfl)) A6) A0))) (Jd (pv 1) (pv 5) (Jz hu)))))))))
 (A8 (Ag (pv 1))))))),?_⟩
 have hfew:=L.few;walk_at "rd";refine⟨v,S,rfl,rs,L.ok,.inl ⟨Zz L.toLev,λH1 sm1=>?_⟩⟩;obtain⟨a,b,c,ws,us,rfl,ha,hb,hc,rws,rus⟩:=Bq rs;have hl:=Ap rws;intro p hp;have u1:=sm1.trans (A5 (o:=.dK []) hp);have fp:H p=none:=AA.free sm1 hp;have hnl:=F9 S;refine⟨.ref a,S,rfl,RD.same u1 _ _ rs,by lia,λq H2 hq hq2 sm2=>⟨q,rfl,_,hq2,?_⟩⟩;have hp2:=sm2 p _ A1;have s2:=u1.trans sm2;have qp:q≠p:=λz=>by rw[z,A1] at hq;cases hq
 refine Cj (Eu q _) (λi Z H'=>yq (.ref a) p S H i Z H'/\H' q=some (.lst ((Bl S).map V.str))) ⟨⟨_,_,_,_,rfl,hp2,s2⟩,hq2⟩ (λi Z H' _ h=>h.2) (λi x Z H3 hi hx h=>?_) (λZ H3 h=>?_)
 ·obtain⟨⟨o1,o2,o3,o4,rfl,hp3,s3⟩,hq3⟩:=h;rw[Zzz] at hi;rw[Zzw] at hx;cases en:(Bl S)[i]? with
  |none=>rw[en] at hx;cases hx
  |some nm =>
  rw[en] at hx;have hx:V.str nm=x:=Zzm hx;subst hx;walk_at "rd";refine⟨_,.inr nm,rfl,hp3,?_,⟨_,_,_,_,rfl,?_,λb' o' hb'=>by rw[Ab (A9 hb' fp)];exact s3 b' o' hb'⟩,by rw[Ab qp];exact hq3⟩
  ·rw[fh,Zz5];exact Zy6 (m:=1000) (by lia) (by decide)
  ·have nin:nm∉(Bl S).take i:=Ko L.nd en
   rw[A1,xx nin,Zz1,en];exact congrArg (λz=>some (HO.dK z)) (Uk λx _=>by split<;>rfl)
 ·obtain⟨⟨o1,o2,o3,o4,rfl,hp3,s3⟩,_⟩:=h;rw[Zzz,Zz4] at hp3;walk_at "rd";refine⟨_,Ah (j:=0) (s3 _ _ ha) rfl,b,rfl,_,.inr (s3 _ _ hb),by lia,by lia,?_⟩;have en:((ws.length:Nat):Int).toNat=S.wares.length:=by lia
  rw[en];refine Cj (Le 0 _) (yu (.ref a) p S H) ⟨_,_,_,_,λ_=>0,rfl,hp3,λx=>⟨Zys _,Zys _,λ_=>A1n S x⟩,s3⟩ (λ_ _ _ _ _=>trivial) (λk' x Z H4 hi hx h=>?_) (λZ H4 h=>?_)
  ·obtain⟨o1,o2,o3,o4,g,rfl,hp4,hg,s4⟩:=h;walk_at "rd";refine⟨_,Ah (j:=0) (s4 _ _ ha) rfl,b,rfl,_,s4 _ _ hb,?_⟩;refine Cj (E5 b _) (yv (.ref a) p S k' H) ⟨_,_,_,_,g,rfl,hp4,⟨hg,(λw hw=>by cases hw),λw _ p hp=>by cases hp⟩,s4⟩ (λi Z H' _ h=>by obtain⟨_,_,_,_,_,_,_,_,s⟩:=h;exact s _ _ hb) (λi y Z H5 hi2 hy h=>?_) (λZ H5 h=>?_)
   ·obtain⟨o1,o2,o3,o4,g,rfl,hp5,hg,s5⟩:=h;obtain⟨t,ht,rt⟩:=B2 rws hy;have htm:=Zzt ht;obtain⟨te,d1,d2,rfl,hte,_⟩:=Cw rt;walk_at "rd";refine⟨.ref te,t,rfl,RD.same s5 _ _ rt,L.ok.wares t htm,λq2 H6 hq6 hq7 sm6=>⟨q2,rfl,_,hq7,?_⟩⟩;have hp6:=sm6 p _ hp5;have s6:=s5.trans sm6;have q2p:q2≠p:=λz=>by rw[z,hp5] at hq6;cases hq6
    refine Cj (Eu q2 _) (λj Z H'=>uf (.ref a) p (.ref te) S k' i H j Z H'/\H' q2=some (.lst ((t.parts.map (·.1)).map V.str))) ⟨⟨_,_,_,g,rfl,hp6,hg,s6⟩,hq7⟩ (λj Z H' _ h=>h.2) (λj z Z H7 hj hz h=>?_) (λZ H7 h=>?_)
    ·obtain⟨⟨o1,o2,o4,g,rfl,hp7,hg,s7⟩,hq8⟩:=h;rw[Zzz,Zzz] at hj;obtain⟨pp,hpp⟩:∃pp,t.parts[j]?=some pp:=⟨_,Zzp hj⟩;rw[Zzw,Zzw,hpp] at hz;have hz:V.str pp.1=z:=Zzm hz;subst hz;have hpm:=Zzt hpp;have hown:pp.1∈Bl S:=L.own t htm pp hpm;have htn:t.name∈Bl S:=Zzo.mpr ⟨t,htm,rfl⟩;walk_at "rd";have hg1:=(hg.1 pp.1);have hgt:=(hg.1 t.name);have hup:g t.name+1<=lv S pp.1:=by have h1:=hgt.2.2 htn;have h2:=dz L.toLev htm hpm;lia
     refine⟨.int (g pp.1),Lj (.inl hp7) (Pz hown),_,Ah (j:=0) (s7 _ _ hte) rfl,.int (g t.name),Lj (.inl hp7) (Pz htn),_,rfl,_,rfl,_,.inr pp.1,rfl,hp7,by rw[fh,hnl];exact Zy6 (m:=1000) (by lia) (by decide),?_,by rw[Ab q2p];exact hq8⟩;rw[xw hown];refine⟨_,_,_,λx=>if x=pp.1 then (if g t.name+1 > g pp.1 then g t.name+1 else g pp.1) else g x,rfl,A1,?_,λb' o' hb'=>by rw[Ab (A9 hb' fp)];exact s7 b' o' hb'⟩;have gr:∀x,g x<=(if x=pp.1 then (if g t.name+1 > g pp.1 then g t.name+1 else g pp.1) else g x):=λx=>by
      split
      ·rename_i e;rw[e];split<;>lia
      ·exact Zys _
     refine⟨λx=>⟨Zxb (hg.1 x).1 (gr x),Zxb (hg.1 x).2.1 (gr x),λhx=>?_⟩,λw hw p hp=>Zxb (hg.2.1 w hw p hp) (gr p.1),λw hw p hp=>?_⟩
     ·show (if x=pp.1 then (if g t.name+1 > g pp.1 then g t.name+1 else g pp.1) else g x)<=lv S x
      split
      ·rename_i e;rw[e];have:=hg1.2.2 hown;split<;>lia
      ·exact(hg.1 x).2.2 hx
     ·rw[ht] at hw;have e:t=w:=Zzm hw;subst e;rw[Zz1,hpp] at hp;rcases Zz2.mp hp with m | m
      ·exact Zxb (hg.2.2 t ht p m) (gr p.1)
      ·have e:p=pp:=by simpa using m
       subst e;show 1+lvF S k' t.name<=(if p.1=p.1 then (if g t.name+1 > g p.1 then g t.name+1 else g p.1) else g p.1);rw[FT rfl];have:=hgt.2.1;split<;>lia
    ·obtain⟨⟨o1,o2,o4,g,rfl,hp7,hg,s7⟩,_⟩:=h;rw[Zzz,Zzz] at hg;refine⟨_,_,_,_,g,rfl,hp7,⟨hg.1,λw hw p hp=>?_,λw _ p hp=>by cases hp⟩,s7⟩;rw[Zz1,ht] at hw;rcases Zz2.mp hw with m | m
     ·exact hg.2.1 w m p hp
     ·have e:w=t:=by simpa using m
      subst e;exact hg.2.2 w ht p (by rw[Zz4];exact hp)
   ·obtain⟨o1,o2,o3,o4,g,rfl,hp5,hg,s5⟩:=h;rw[hl] at hg;exact⟨_,_,_,_,g,rfl,hp5,λx=>⟨(hg.1 x).1,pi (λx=>(hg.1 x).1) (λw hw p hp=>hg.2.1 w (by rw[Zz4];exact hw) p hp) x,(hg.1 x).2.2⟩,s5⟩
  ·obtain⟨o1,o2,o3,o4,g,rfl,hp4,hg,s4⟩:=h;walk_at "rd";refine k p H4 fp ?_ s4;rw[hp4];exact congrArg (λz=>some (HO.dK z)) (Uk λx hx=>Int.le_antisymm ((hg x).2.2 hx) (hg x).2.1)
inductive Kr (Pt:Addr) (vs:List V) (H:Hp) (Q:VK) (E:XK):Prop | mk (v:V) (S:Sh) (_:vs=[v]) (_:RD H S.d v) (_:ui S) (_:Tb H Pt) (_:∀p ys H',H p=none->H' p=some (.lst (ys.map V.str))->Uw (lv S) (Bl S) ys->N9 (lv S) (Bl S) ys->Tb H' Pt->But Pt H H'->Q (.ref p) H')
theorem DX:Ce ["shop", "level_of"] ["shop"] (Ar Lw):=by walk_at "sc"
theorem ik{ct:Addr}(F:Fun K "worked" "worked" Lw f fd)(T:Txt mg)(C:Exc K mg c)(Zpu:Has P w K mg base "levels" 5 ["shop"] DW)(Ztz:Has P w K mg base "names_of" 1 ["shop"] BC)(Cd:uo K f ct Pt)(hB:Lf mg base):Ax P w K mg base CX0 6 f fd ["shop"] (Kr Pt):=by
 refine F.okC Cd DX (λvs H Q E h=>?_) (λA outer s H vs Q E hr h=>?_)
 ·obtain⟨v,S,rfl,_⟩:=h;rfl
 ·obtain⟨v,S,rfl,rs,L,tb,k⟩:=h;have hu:=Aw hr;refine⟨_,(A3 (Al (i:=1) DX.nd rfl (Or.inr rfl) (A7 Zpu hr.z rfl (A2 (pv 0) A0)))
 (A8 (Ag (ni (i:=1) (nm := "name") (lv := "level_of") rfl T.Zpi (A7 Ztz hr.z rfl (A2 (pv 0) A0)) hr rfl Cd.hd hB rfl rfl rfl (λ_ h=>Yt rfl h) ⟨rfl,rfl,rfl,rfl,rfl,by decide⟩ (λ_ _ _ _ _=>rfl))))),?_⟩
  have hfew:=L.few;walk_at "rd";refine⟨v,S,rfl,rs,L,λp H1 hp hp1 sm1=>?_⟩;refine⟨v,S,rfl,RD.same sm1 _ _ rs,by lia,λq H2 hq hq2 sm2=>?_⟩;have s2:=sm1.trans sm2;unfold Jl;refine⟨q,Bl S,p,fnD (Bl S) (lv S),lv S,rfl,hq2,by rw[F9];exact hfew,rfl,sm2 _ _ hp1,λx hx=>Pz hx,BK.same tb s2,λr ys H3 hr3 hr4 so sb tb3 bt=>?_⟩;exact k r ys H3 (AA.free s2 hr3) hr4 so sb tb3 (λb o nb hb=>bt b o nb (s2 b o hb))
theorem Tb.same(t:Tb H Pt)(s:AA H H'):Tb H' Pt:=BK.same t s
theorem Tb.at(t:Tb H Pt):∃u,H Pt=some (.tbl u):=t.elim (λe=>⟨_,e⟩) (λz0=>by obtain⟨_,e,_⟩:=z0;exact ⟨_,e⟩)
theorem Tn(t:Tb H Pt)(b:But Pt H H'):AV H H':=λa xs e=>b a _ (λz=>by obtain⟨u,hu⟩:=t.at;rw[z,hu] at e;cases e) e
theorem uz{o:HO}(t:Tb H Pt)(h:H p=some (.lst xs)):Tb (upd H p o) Pt:=by
 rcases t with e | ⟨c,e,e2⟩
 ·exact .inl (by rw[Ab (λz=>by rw[z,h] at e;cases e)];exact e)
 ·exact .inr ⟨c,by rw[Ab (λz=>by rw[z,h] at e;cases e)];exact e,by rw[Ab (λz=>by rw[z,h] at e2;cases e2)];exact e2⟩
theorem Z5{st:Addr}(t:Tb H Pt)(b:But st H H')(s:AI H st):Tb H' Pt:=by
 obtain⟨ns,_,es⟩:=s;rcases t with e | ⟨c,e,e2⟩
 ·exact .inl (b _ _ (λz=>by rw[z,es] at e;cases e) e)
 ·exact .inr ⟨c,b _ _ (λz=>by rw[z,es] at e;cases e) e,b _ _ (λz=>by rw[z,es] at e2;cases e2) e2⟩
theorem Jn{o:HO}(t:Tb H Pt)(h:H p=some o)(hn:∀u,o≠.tbl u):p≠Pt:=λz=>by
 obtain⟨u,e⟩:=t.at;rw[<- z,h] at e;exact hn u (Zzm e)
theorem A04{st:Addr}(s:AI H st)(t:Tb H Pt)(b:But Pt H H'):AI H' st:=by
 obtain⟨ms,e1,e2⟩:=s;exact⟨ms,e1,b _ _ (Jn t e2 λu z=>by cases z) e2⟩
end
set_option maxHeartbeats 4000000
section
variable {dk:Dk}{c:Cl}
section
variable {dk:Dk}{c:Cl}
def Jr(ws:List Wr)(us:List Wt):List Str:=us.map (·.1)++(ws.map λw=>w.parts.map (·.1)).flatten
inductive CA (vs:List V) (H:Hp) (Q:VK) (E:XK):Prop | mk (v:V) (S:Sh) (_:vs=[v]) (_:RD H S.d v) (_:SD0 S) (_:∀p H',H' p=some (.lst ((Jr S.wares S.wants).map V.str))->AA H H'->Q (.ref p) H')
inductive A2f (v:V) (p:Addr) (S:Sh) (H:Hp) (i:Nat) (Z:St) (H':Hp):Prop | mk (o2:Option V) (_:Z=[some v,some (.ref p),o2]) (_:H' p=some (.lst ((Jr (S.wares.take i) S.wants).map V.str))) (_:AA H H')
theorem Rq{us:List Wt}:∀{ws:List Wr},(∀w∈ws,w.parts.length<=6)->(Jr ws us).length<=us.length+6*ws.length
 |[],_=>by unfold Jr;simp
 |w::r,h=>by
  have ih:=Rq (us:=us) (ws:=r) λx hx=>h x (Zzl _ hx);have:=h w Zzj;unfold Jr at ih ⊢;simp only[Zz9,Zw6,Zzc,Zzz,Zz3] at ih ⊢;lia
theorem P9(F:Fun K "needed_names" "needed_names" K5 f fd)(T:Txt mg)(C:Exc K mg c)(Ztx:Has P w K mg base "part_names" 1 ["ware"] BF):Ax P w K mg base CX0 2 f fd ["shop"] CA:=by
 refine F.go ["shop", "names", "ware"] ?_ ?_ ?_;walk_at "f";obtain⟨v,S,rfl,rs,sd,k⟩:=h;have hu:=Aw hr;have hn:=sd.n;have un:=sd.un;have p6:∀w∈S.wares,w.parts.length<=6:=λw hw=>(sd.wv w hw).2.1.2.2.2.2.1;refine⟨_,(A3 (E2 (own:=["want"]) (cap:=[]) (i:=1) rfl (Bz rfl) (At (by decide)) Nd rfl rfl (D9 (Aa hu (pv 0) A6 (λ_ _=>rfl)))
 (λ_ _ _ _ _ _=>⟨(Af (i:=0) (FP rfl) rfl (Zzq rfl) (.inr rfl)),Ba,(Aa hu (pv 0) A6 (λ_ _=>rfl))⟩))
 (A3 (Bd PassesOwn.never rfl (D9 (Aa hu (pv 0) A6 (λ_ _=>rfl))) (Af (i:=2) Nd rfl (Zzq rfl))
 (A8 (Bf (Bw Zz7 Zwk Zwj Kv (pv 1) (A2 (A7 Ztx hr.z rfl (A2 (pv 2) A0)) A0)))))
 (A8 (Ag (pv 1))))),?_⟩
 walk_at "rd";obtain⟨a,b,c,ws,us,rfl,ha,hb,hc,rws,rus⟩:=Bq rs;have hlw:=Ap rws;have hlu:=Ap rus;refine⟨_,Ah (j:=1) ha rfl,c,rfl,us,hc,?_⟩;refine Bo (E5 c us) (Ae (by lia)) (λH' s'=>s' _ _ hc) ((S.wants.map (·.1)).map V.str) (by simp[hlu]) (λi y H' hi hy s' N M hN=>?_) (λH1 s1 p hp=>?_)
 ·obtain⟨u,eu,ru⟩:=B2 rus hy;obtain⟨ua,rfl,hua⟩:=Lp ru;walk_at "rd";exact⟨_,Ah (j:=0) (s' _ _ hua) rfl,hN _ _ s' (by rw[Zzw,Zzw,eu];rfl)⟩
 have u1:=s1.trans (A5 (o:=.lst ((S.wants.map (·.1)).map V.str)) hp);have fp:H p=none:=AA.free s1 hp;refine⟨_,Ah (j:=0) (u1 _ _ ha) rfl,b,rfl,ws,u1 _ _ hb,?_⟩;refine Cj (E5 b ws) (A2f (.ref a) p S H) ⟨_,rfl,by rw[A1];unfold Jr;simp,u1⟩ (λi Z H' _ h=>by obtain⟨_,_,_,s⟩:=h;exact s _ _ hb) (λi x Z H2 hi hx h=>?_) (λZ H2 h=>?_)
 ·obtain⟨o2,rfl,hp2,s2⟩:=h;obtain⟨wr,ew,rw'⟩:=B2 rws hx;have hm:=Zzt ew;have wb:=(sd.wv wr hm).2.1;walk_at "rd";refine⟨Ck hp2,x,wr,rfl,RD.same s2 _ _ rw',⟨by have:=wb.2.2.2.2.1;lia,by have:=wb.2.2.2.2.2.2.2.1;lia⟩,λq H3 hq hq3 s3=>?_⟩;have hnl:=Rq (us:=S.wants) (ws:=S.wares.take i) λx hx=>p6 x (Zwp hx);rw[Zz5] at hnl;have:=p6 wr hm;refine⟨p,q,_,_,rfl,rfl,s3 _ _ hp2,hq3,Zzk (m:=1000) (by simp only[Zzz];lia) (by decide),_,rfl,?_,λb' o' e=>?_⟩
  ·rw[A1,<- Zzi];congr 3;unfold Jr;rw[Zz1,ew,Zzi,List.flatten_append,Zwt];simp
  ·rw[Ab (A9 e fp)];exact s3 _ _ (s2 _ _ e)
 ·obtain⟨o2,rfl,hp2,s2⟩:=h;walk_at "rd";rw[hlw,Zz4] at hp2;exact k p H2 hp2 s2
def okS(S:Sh):Bool:=decide (S.wares.map (·.name)).Nodup&&(Jr S.wares S.wants).all λx=>decide (x∈Bl S)
theorem SD.okS(sd:SD S):okS S=true:=by
 unfold K71.okS;rw[FQ sd.nd,Zyf,Zyu];intro nm hm;refine FQ ?_;unfold Jr at hm;rcases Zz2.mp hm with z | z
 ·obtain⟨u,hu,rfl⟩:=Zzo.mp z;exact(sd.us u hu).1
 ·obtain⟨l,hl,hx⟩:=List.mem_flatten.mp z;obtain⟨w,hw,rfl⟩:=Zzo.mp hl;obtain⟨p,hp,rfl⟩:=Zzo.mp hx;exact sd.own w hw p hp
inductive DS (vs:List V) (H:Hp) (Q:VK) (E:XK):Prop | mk (v:V) (S:Sh) (_:vs=[v]) (_:RD H S.d v) (_:SD0 S) (_:∀H',AA H H'->Q (.bl (okS S)) H')
theorem Zp(F:Fun K "is_shop" "is_shop" Tz f fd)(T:Txt mg)(C:Exc K mg c)(Zql:Has P w K mg base "are_wants" 5 ["found"] CQ)(Zqk:Has P w K mg base "are_wares" 7 ["found"] CP)(Zu9:Has P w K mg base "is_tuple" 1 ["found", "least", "most"] AS)(Ztz:Has P w K mg base "names_of" 1 ["shop"] BC)(Zrc:Has P w K mg base "needed_names" 2 ["shop"] CA):Ax P w K mg base CX0 8 f fd ["found"] DS:=by
 refine F.go ["found", "names"] ?_ ?_ ?_;walk_at "f";obtain⟨v,S,rfl,rs,sd,k⟩:=h;have hu:=Aw hr;have hn:=sd.n;have un:=sd.un;refine⟨_,(A3 (B0 (PW.pt (J0 (Bk (Bm (A7 Zu9 hr.z rfl (A2 (pv 0) (A2 A6 (A2 A6 A0)))))) (J0 (Bk (Bm (A7 Zqk hr.z rfl (A2 (Aa hu (pv 0) A6 (λ_ _=>rfl)) A0)))) (Ho (Bk (Bm (A7 Zql hr.z rfl (A2 (Aa hu (pv 0) A6 (λ_ _=>rfl)) A0)))))))) (A8 (Ag Gg)) Am)
 (A3 (Al (i:=1) Nd rfl (Or.inr rfl) (A7 Ztz hr.z rfl (A2 (pv 0) A0)))
 (A8 (Ag (Aj (Eo rfl) rfl T.Zr3 Jk (A2 (Bi (own:=["name"]) (cap:=[1]) rfl (Bz rfl) (At (by decide)) (Dq (A7 Zrc hr.z rfl (A2 (pv 0) A0)))
 (λ_ _ _ _ _ _=>⟨(Af (i:=0) (FP rfl) rfl (Zzq rfl) (.inr rfl)),Ba,(C3 (Nn hu) (pv 0) (pv 1) rfl)⟩)) A0)))))),?_⟩
 walk_at "rd";obtain⟨a,b,c,ws,us,rfl,ha,hb,hc,rws,rus⟩:=Bq rs;refine⟨a,_,2,2,rfl,ha,Zys _,Zys _,_,rfl,?_⟩;rw[FS (by decide)];refine⟨_,Ah (j:=0) ha rfl,_,S.wares,rfl,RD.tup_mk hb rws,hn,sd.wv,λH1 s1=>⟨_,rfl,?_⟩⟩;by_cases nd:(S.wares.map (·.name)).Nodup;rotate_left
 ·rw[FR nd,FT (by decide)];have k:=k H1 s1;unfold okS at k;rw[FR nd] at k;exact k
 rw[FQ nd,FS (by decide)];refine⟨_,Ah (j:=1) (s1 _ _ ha) rfl,_,S.wants,rfl,RD.same s1 _ _ (RD.tup_mk hc rus),un,λu hu=>⟨(sd.us u hu).1,(sd.us u hu).2.1,(sd.us u hu).2.2.1⟩,λH2 s2=>⟨_,rfl,?_⟩⟩;rw[FS (by decide)];have s02:=s1.trans s2;refine⟨_,S,rfl,RD.same s02 _ _ rs,by lia,λp H3 hp hp3 s3=>⟨_,S,rfl,RD.same (s02.trans s3) _ _ rs,sd,λq H4 hq s4=>⟨q,rfl,_,hq,?_⟩⟩⟩;have nl:=Rq (us:=S.wants) (ws:=S.wares) λw hw=>(sd.wv w hw).2.1.2.2.2.2.1;refine Bo (Eu q _) (Ae (by rw[Zzz];lia)) (λH' s'=>s' _ _ hq) (((Jr S.wares S.wants).map λx=>decide (x∈Bl S)).map V.bl) (by simp) (λi z H' hi hz s' N M hN=>?_) (λH6 s6 r hr6=>?_)
 ·rw[Zzw] at hz;cases en:(Jr S.wares S.wants)[i]? with
  |none=>rw[en] at hz;cases hz
  |some nm =>
  rw[en] at hz;have hz:V.str nm=z:=Zzm hz;subst hz;walk_at "rd";refine⟨_,.inl ⟨p,_,rfl,.inl (s' _ _ (s4 _ _ hp3)),rfl,Hj _,rfl⟩,?_⟩;rw[Mw];exact hN _ _ s' (by rw[Zzw,Zzw,en];rfl)
 ·refine⟨r,rfl,_,A1,?_⟩;have k:=k _ ((s02.trans s3).trans (s4.trans (s6.trans (A5 (o:=.lst (((Jr S.wares S.wants).map λx=>decide (x∈Bl S)).map V.bl)) hr6))));unfold okS at k;rw[FQ nd,Zyf] at k;rw[Zvi];exact k
end
end
set_option maxHeartbeats 4000000
section
variable {dk:Dk}{c:Cl}
def CS:List Nat:=("0123456789" : Str).cps.toList
def Hs(x:Str):Bool:=decide (x = "0")||!decide ((⟨#[x.cps.toList.headD 0]⟩:Str) = "0")
def Fc(x:Str):Bool:=decide (1<=x.length)&&decide (x.length<=60)&&(x.cps.toList.all λc=>decide (c∈CS))&&Hs x
theorem wo{bs:List Bool}{Q:VK}(hx:x.length<=1000)(h1:1<=x.length)(k:Q (V.bl (bs.all id&&Hs x)) H2) :
  if (!bs.all id)=true then Q (V.bl false) H2 else ve (V.str x) (V.str (Str.ofString "0"))=true/\if decide (x=Str.ofString "0")=true then Q (V.bl true) H2 else ∃v,Yx H2 (V.str x) (V.int 0) v/\ve v (V.str (Str.ofString "0"))=true/\Q (V.bl !decide (v=V.str (Str.ofString "0"))) H2:=by
 cases ha:bs.all id with
 |false =>
  rw[ha] at k;exact k
 |true =>
  rw[ha,Zyf] at k;rw[FS (by decide)];refine⟨rfl,Du (λh4=>?_) (λh4=>?_)⟩
  ·have:Hs x=true:=by
    unfold Hs;have h4:decide (x=("0" : Str))=true:=h4;rw[h4];rfl
   rw[this] at k;exact k
  ·have hl:x.cps.toList.length=x.length:=Zxz
   refine⟨_,qg (Ae hx) (by decide) (c:=x.cps.toList.headD 0) ?_,rfl,?_⟩
   ·cases e:x.cps.toList with
    |nil=>rw[e] at hl;simp at hl;lia
    |cons a r=>rfl
   ·have:Hs x=!decide (V.str (⟨#[x.cps.toList.headD 0]⟩:Str)=V.str (Str.ofString "0")):=by
     unfold Hs;have h4:decide (x=("0" : Str))=false:=Zw5.mpr h4;rw[h4,Bool.false_or];congr 1;exact decide_eq_decide.mpr ⟨λz=>by rw[z],λz=>V.str.inj z⟩
    rw[this] at k;exact k
inductive CT (vs:List V) (H:Hp) (Q:VK) (E:XK):Prop | mk (x:_) (_:vs=[.str x]) (_:1<=x.length) (_:x.length<=60) (_:∀H',AA H H'->Q (.bl (Fc x)) H')
theorem Vt(F:Fun K "is_number" "is_number" Oh f fd)(T:Txt mg)(C:Exc K mg c):Ax P w K mg base CX0 1 f fd ["word"] CT:=by
 refine F.go ["word"] ?_ ?_ ?_;walk_at "f";obtain⟨x,rfl,h1,h2,k⟩:=h;have hu:=Aw hr;refine⟨_,(A3 (B0 (PW.pt (J0 (Bk (Bm (Aj Dh rfl T.Zu7 B1 (A2 (pv 0) (A2 (Hz (v:=.ty "str") rfl T.Zsa Ep rfl) A0))))) (Ho (Bk (Xh Rf Rf A6 (Aj BL rfl T.Ztg Cv (A2 (pv 0) A0)) (Ak rfl T.Zsz)))))) (A8 (Ag Gg)) Am)
 (A3 (B0 (Bk (Bm (Aj (Eo rfl) rfl T.Zr3 Jk (A2 (Bi (own:=["sign"]) (cap:=[]) rfl (Bz rfl) (At (by decide)) (Jc (pv 0))
 (λ_ _ _ _ _ _=>⟨(Af (i:=0) (FP rfl) rfl (Zzq rfl) (.inr rfl)),Ba,(C3 (Nn hu) (pv 0) (Ml rfl T.Zr7) rfl)⟩)) A0)))) (A8 (Ag Gg)) Am)
 (A8 (Ag (za (C3 (Bg hu) (pv 0) Ac (Ao _)) (F0 (C3 (Rc hu) (Aa hu (pv 0) A6 (λ_ _=>rfl)) Ac (Ao _)))))))),?_⟩
 walk_at "rd";refine⟨_,rfl,?_⟩;rw[FS (by decide)];refine⟨Ae (by lia),?_⟩;rw[FT (FQ (by lia)),FS (by rw[FQ (by lia)];decide)];refine Bo (zg x) (Ae (Zzk h2 (by decide))) (λ_ _=>trivial) ((x.cps.toList.map λc=>decide (c∈CS)).map V.bl) (by simp) (λi y H' hi hy s' N M hN=>?_) (λH' s' p hp=>?_)
 ·obtain⟨c,hc,rfl⟩:=hy;rw[<- Zw3] at hc;walk_at "rd";refine⟨_,.inr (.inl ⟨_,_,rfl,rfl,rfl⟩),?_⟩;rw[StrLaws.found_one];exact hN _ _ s' (by rw[Zzw,Zzw,hc];rfl)
 ·refine⟨p,rfl,_,A1,?_⟩;refine wo (by lia) h1 ?_;have e:(x.cps.toList.map λc=>decide (c∈CS)).all id=x.cps.toList.all λc=>decide (c∈CS):=by rw[Zvi];rfl
  have k:=k _ (s'.trans (A5 (o:=.lst ((x.cps.toList.map λc=>decide (c∈CS)).map V.bl)) hp));unfold Fc at k;rw[FQ h1,FQ h2,Zyf,Zyf] at k;rw[e];exact k
theorem Tm:∀(k m:Nat),m<10^(k+1)->(Zww 10 m).length<=k+1
 |0,m,h=>by rw[Zwf (by lia)];exact Zzx _
 |k+1,m,h=>by
  by_cases z:m<10
  ·rw[Zwf z];show 1<=k+1+1;lia
  ·have hm:m % 10<10:=Nat.mod_lt m (by decide)
   have t:Zww 10 (m / 10)++Zww 10 (m % 10)=Zww 10 (10*(m / 10)+m % 10):=Nat.toDigits_append_toDigits (by decide) (by lia) hm;rw[Nat.div_add_mod] at t;rw[<- t,Zzc,Zwf hm];have:=Tm k (m / 10) (by rw[Nat.pow_succ] at h;lia);show _+1<=_;lia
theorem Z3:∀(m:Nat),0<m->∃c r,Zww 10 m=c::r/\c.toNat≠48:=by
 intro m;induction m using Nat.strongRecOn with
 |_ m ih =>
  intro h0;by_cases z:m<10
  ·rw[Zwf z];have k:∀d:Nat,d<10->0<d->(Nat.digitChar d).toNat≠48:=by decide
   exact⟨_,[],rfl,k m z h0⟩
  ·have hm:m % 10<10:=Nat.mod_lt m (by decide)
   have t:Zww 10 (m / 10)++Zww 10 (m % 10)=Zww 10 (10*(m / 10)+m % 10):=Nat.toDigits_append_toDigits (by decide) (by lia) hm;rw[Nat.div_add_mod] at t;obtain⟨c,r,e,hc⟩:=ih (m / 10) (by lia) (by lia);exact⟨c,r++Zww 10 (m % 10),by rw[<- t,e];rfl,hc⟩
theorem xz{c:Nat}(h:48<=c/\c<=57):c∈CS:=by
 rw[show CS=List.range' 48 10 by decide +kernel,List.mem_range'_1];exact⟨h.1,Nat.lt_succ_of_le h.2⟩
theorem fz{k:Nat}(hk:k<600){n:Int}(h0:0<=n)(h1:n<10^(k+1)):(∀c∈(Str.ofString (toString n)).cps.toList,48<=c/\c<=57)/\Zxj (Str.ofString (toString n))=some n/\1<=(Str.ofString (toString n)).length/\(Str.ofString (toString n)).length<=k+1:=by
 obtain⟨m,rfl⟩:=Zxh h0;have hs:=KIN.signs_num m;have hl:(Str.ofString (toString ((m:Nat):Int))).cps.toList.length=(Str.ofString (toString ((m:Nat):Int))).length:=Zxz;rw[hs,Zzz] at hl;have a1:=Tm k m (by exact_mod_cast h1);have a0:=toDigits_len_ge 10 m;have hd:∀c∈(Str.ofString (toString ((m:Nat):Int))).cps.toList,48<=c/\c<=57:=by
  intro c hc;rw[hs] at hc;obtain⟨ch,hch,e⟩:=Zzo.mp hc;have r:=PyProof.Rows.digit_range (Nat.isDigit_of_mem_toDigits (by decide) (by decide) hch);rw[<- e];exact r
 have ne:(Str.ofString (toString ((m:Nat):Int))).cps.toList≠[]:=by
  intro e;have:=congrArg Zug e;rw[hs,Zzz,Zxo] at this;lia
 have e:=intText_digits hd ne (by lia);rw[hs,KIN.val_back] at e;exact⟨hd,e,by lia,by lia⟩
theorem Ph{n:Int}(h0:0<=n)(h1:n<10^60):Fc (Str.ofString (toString n))=true/\Zxj (Str.ofString (toString n))=some n/\1<=(Str.ofString (toString n)).length/\(Str.ofString (toString n)).length<=60:=by
 obtain⟨hd,hi,l1,l2⟩:=fz (k:=59) (by decide) h0 h1;refine⟨?_,hi,l1,l2⟩;obtain⟨m,rfl⟩:=Zxh h0;have hs:=KIN.signs_num m;unfold Fc;rw[FQ l1,FQ l2,Zyf,Zyf,Zyy];constructor
 ·rw[Zyu];intro c hc;exact FQ (xz (hd c hc))
 ·unfold Hs;by_cases z:m=0
  ·subst z;have:(Str.ofString (toString (((0:Nat)):Int)))=("0" : Str):=rfl;rw[FQ this];rfl
  ·obtain⟨c,r,e,hc⟩:=Z3 m (by lia);have:¬ ((⟨#[(Str.ofString (toString ((m:Nat):Int))).cps.toList.headD 0]⟩:Str) = "0"):=by
    rw[hs,e];intro q;have q:=congrArg (λz:Str=>z.cps.toList) q;have e2:("0" : Str).cps.toList=[48]:=by decide +kernel
    rw[e2] at q;exact hc (Zvt q).1
   rw[FR this,Bool.not_false,Bool.or_true]
theorem oq(h:Fc x=true):∃n,Zxj x=some n:=by
 unfold Fc at h;simp only[Zyy,decide_eq_true_eq] at h;obtain⟨⟨⟨h1,h2⟩,h3⟩,h4⟩:=h;have hl:x.cps.toList.length=x.length:=Zxz;refine⟨_,intText_digits (λc hc=>?_) (λe=>?_) (Zzk h2 (by decide))⟩
 ·have:=FP (Zyu.mp h3 c hc)
  have k:∀c∈CS,48<=c/\c<=57:=by decide +kernel
  exact k c this
 ·rw[e] at hl;simp at hl;lia
def Jy(c:Cl):Sp:=λvs H Q E=>∃x,vs=[.str x]/\1<=x.length/\x.length<=60/\(Fc x=true->∀n H',Zxj x=some n->AA H H'->Q (.int n) H')/\(Fc x=false->∀H',AA H H'->E (.ref c.NoText) none H')
theorem Qh:Ce ["word"] ["word"] (Ar Ij):=by walk_at "sc"
theorem Rh(F:Fun K "read_number" "read_number" Ij f fd)(T:Txt mg)(C:Exc K mg c)(Zqj:Has P w K mg base "is_number" 1 ["word"] CT):Ax P w K mg base (CXE P w) 2 f fd ["word"] (Jy c):=by
 refine F.okX Qh (λvs H Q E h=>?_) (λcdv A outer s H vs Q E hr h=>?_)
 ·obtain⟨x,rfl,_⟩:=h;rfl
 ·obtain⟨x,rfl,h1,h2,k,ke⟩:=h;have hu:=Aw hr;refine⟨_,(A3 (B0 (Bk (Bm (A7 Zqj hr.z rfl (A2 (pv 0) A0)))) (A8 (D8 Kd rfl rfl C.Zqy C.Zs2 (A2 Ac A0))) Am)
 (A8 (Ag (Au jw rfl T.Zps Sb (A2 (pv 0) A0))))),?_⟩
  walk_at "rd";refine⟨x,rfl,h1,h2,λH1 sm=>⟨Fc x,rfl,?_⟩⟩;cases hb:Fc x with
  |false=>exact⟨by decide,ke hb H1 sm⟩
  |true =>
   obtain⟨n,hn⟩:=oq hb;exact⟨n,hn,by lia,k hb n H1 hn sm⟩
inductive CU (vs:List V) (H:Hp) (Q:VK) (E:XK):Prop | mk (x:Str) (_:vs=[.str x]) (_:Aq x=true) (_:∀H',AA H H'->Q (.str x) H')
theorem Vo(F:Fun K "read_name" "read_name" Oc f fd)(T:Txt mg)(C:Exc K mg c)(Ztv:Has P w K mg base "is_name" 1 ["found"] BH):Ax P w K mg base CX0 2 f fd ["word"] CU:=by
 refine F.go ["word"] ?_ ?_ ?_;walk_at "f";obtain⟨x,rfl,hb,k⟩:=h;have hu:=Aw hr;refine⟨_,(A3 (B0 (Bk (Bm (A7 Ztv hr.z rfl (A2 (pv 0) A0)))) U6 Am)
 (A8 (Ag (pv 0)))),?_⟩
 walk_at "rd";refine⟨x,rfl,hb,λH1 sm=>⟨_,rfl,?_⟩⟩;rw[FS (by decide)];exact k H1 sm
end
set_option maxHeartbeats 4000000
section
variable {dk:Dk}{c:Cl}
def AG:Key->Str
 |.inl i=>Str.ofString (toString i)
 |.inr x=>x
def En:Key->Str
 |.inl _ => "number"
 |.inr _ => "name"
def Iq:Key->Prop
 |.inl i=>0<=i/\i<10^60
 |.inr x=>Aq x=true
def G9(s x:Str):Bool:=if s = "name" then Aq x else Fc x
def Dv(s x:Str):Key:=if s = "name" then .inr x else .inl ((Zxj x).getD 0)
def Et(ws fs:List Str):Bool:=decide (ws.length=fs.length)&&(ws.zip fs).all λz=>G9 z.2 z.1
def J4(ws fs:List Str):List Key:=(ws.zip fs).map λz=>Dv z.2 z.1
theorem Rl:("number" : Str) ≠ "name" := by decide +kernel
theorem Up{k:Key}(h:Iq k):G9 (En k) (AG k)=true/\Dv (En k) (AG k)=k:=by
 cases k with
 |inl n =>
  have q:=Ph h.1 h.2;unfold G9 Dv;rw[FS (show ¬ En (.inl n) = "name" from Rl),FS (show ¬ En (.inl n) = "name" from Rl)];exact⟨q.1,congrArg Zvb (by show (Zxj (Str.ofString (toString n))).getD 0=n;rw[q.2.1];rfl)⟩
 |inr x =>
  unfold G9 Dv;rw[FT (show En (.inr x) = "name" from rfl),FT (show En (.inr x) = "name" from rfl)];exact⟨h,rfl⟩
theorem mq(h:∀k∈ks,Iq k):Et (ks.map AG) (ks.map En)=true/\J4 (ks.map AG) (ks.map En)=ks:=by
 have ez:(ks.map AG).zip (ks.map En)=ks.map λk=>(AG k,En k):=by rw[List.zip_map']
 unfold Et J4;rw[ez,Zzz,Zzz,FQ rfl,Zyf,Zyd];refine⟨?_,?_⟩
 ·rw[Zvi];exact Zyu.mpr λk hk=>(Up (h k hk)).1
 ·have:∀l:List Key,(∀k∈l,Iq k)->l.map ((λz:Str×Str=>Dv z.2 z.1)∘λk=>(AG k,En k))=l:=λl=>by
   induction l with
   |nil=>intro _;rfl
   |cons k r ih =>
    intro h;rw[Zz9,ih λx hx=>h x (Zzl _ hx)];exact congrArg (·::r) (Up (h k Zzj)).2
  exact this ks h
theorem Xb{b:Addr}(h:SqT K H b xs)(s:AA H H'):SqT K H' b xs:=by
 rcases h with (e | ⟨o,e⟩) | h
 ·exact .inl (.inl (s _ _ e))
 ·exact .inl (.inr ⟨o,s _ _ e⟩)
 ·exact .inr h
def P0(ws fs:List Str):Prop:=∀z∈ws.zip fs,if z.2 = "name" then Aq z.1=true else 1<=z.1.length/\z.1.length<=60
def Ii(K:Zzy)(c:Cl):Sp:=λvs H Q E=>∃(a:Addr) (fv:V) (ws:List Str),vs=[.ref a,fv]/\H a=some (.lst (ws.map V.str))/\ws.length<=100/\((fv=.non/\E (.ref c.NoText) none H)\/∃(b:Addr) (fs:List Str),fv=.ref b/\SqT K H b (fs.map V.str)/\(ws.length=fs.length->P0 ws fs)/\(Et ws fs=true->∀p H',H p=none->H' p=some (.lst ((J4 ws fs).map kV))->AA H H'->Q (.ref p) H')/\(Et ws fs=false->∀H',AA H H'->E (.ref c.NoText) none H'))
inductive zm (a b p:Addr) (ws fs:List Str) (H:Hp) (i:Nat) (Z:St) (H':Hp):Prop | mk (o1 o2:Option V) (_:Z=[some (.ref a),some (.ref b),some (.ref p),o1,o2]) (_:H' p=some (.lst (((J4 ws fs).take i).map kV))) (_:(∀z∈(ws.zip fs).take i,G9 z.2 z.1=true)) (_:AA H H')
theorem BG:Ce ["words", "form", "told", "word", "sort"] ["words", "form"] (Ar J8):=by walk_at "sc"
theorem So(F:Fun K "read_words" "read_words" J8 f fd)(T:Txt mg)(C:Exc K mg c)(Zqi:Has P w K mg base "read_name" 2 ["word"] CU)(Zr5:Lo P w K mg base "read_number" 2 ["word"] (Jy c)):Ax P w K mg base (CXE P w) 3 f fd ["words", "form"] (Ii K c):=by
 refine F.okX BG (λvs H Q E h=>?_) (λcdv A outer s H vs Q E hr h=>?_)
 ·obtain⟨a,fv,ws,rfl,_⟩:=h;rfl
 ·obtain⟨a,fv,ws,rfl,ha,hl,h⟩:=h;have hu:=Aw hr;refine⟨_,(A3 (B0 (PW.pt (J0 (An o8 (pv 1) Ka (Ao _)) (Ho (An (Rc hu) (Aj Bt rfl T.Ztg Cv (A2 (pv 0) A0)) (Aj Jj rfl T.Ztg Cv (A2 (pv 1) A0)) (Ao _))))) (A8 (D8 Kd rfl rfl C.Zqy C.Zs2 (A2 Ac A0))) Am)
 (A3 (Al (i:=2) BG.nd rfl (Zzq rfl) (B7 A0))
 (A3 (Bd PassesOwn.leaving rfl (d8 rfl T.Zpq (A2 (pv 0) (A2 (pv 1) A0))) (Hr (n:=2) rfl (B8 (Af (i:=3) BG.nd rfl (Zzq rfl)) (B8 (Af (i:=4) BG.nd rfl (Zzq rfl)) E9)))
 (A8 (Bf (Bw Zz7 Zyr Zyq By (pv 2) (A2 (nu (An (Bg hu) (pv 4) Ac (Ao _)) (A7 Zqi hr.z rfl (A2 (pv 3) A0)) (Ch Zr5 Op hr.z rfl (A2 (pv 3) A0))) A0)))))
 (A8 (Ag (pv 2)))))),?_⟩
  rcases h with ⟨rfl,ke⟩ | ⟨b,fs,rfl,hb,fine,k,ke⟩
  ·walk_at "rd";rw[FT (by decide)];exact⟨by decide,ke⟩
  walk_at "rd";rw[FS (by decide)];refine⟨_,.inl ha,_,.inr hb,rfl,?_⟩;by_cases el:ws.length=fs.length;rotate_left
  ·rw[FT (by rw[FR (by simp only[Zzz];lia)];rfl)];refine⟨by decide,ke ?_ H (AA.refl H)⟩;unfold Et;rw[FR el,Zw4]
  rw[FS (by rw[FQ (by simp only[Zzz];lia)];decide)];refine⟨by decide,λp hp=>?_⟩;have u:=A5 (o:=.lst []) hp;have hpa:a≠p:=A9 ha hp;refine⟨_,u _ _ ha,_,Xb hb u,?_⟩;have zl:(ws.zip fs).length=ws.length:=by rw[List.length_zip,el,Nat.min_self]
  have hmin:min (ws.map V.str).length (fs.map V.str).length=(ws.zip fs).length:=by rw[Zzz,Zzz,List.length_zip]
  have kl:(J4 ws fs).length=(ws.zip fs).length:=by unfold J4;rw[Zzz]
  refine fg (qq _ a b _ _) (zm a b p ws fs H) ⟨_,_,rfl,A1,(λz hz=>nomatch hz),u⟩ (λi Z H' _ h=>?_) (λi ys t Z H' hi hy h ht=>?_) (λZ H' h=>?_)
  ·obtain⟨_,_,_,_,_,s'⟩:=h;exact⟨s' _ _ ha,Xb hb s'⟩
  ·obtain⟨o1,o2,rfl,hp1,hg,s1⟩:=h;obtain⟨y,z,ey,ez,rfl⟩:=hy;rw[hmin] at hi;obtain⟨x,ex⟩:∃x,ws[i]?=some x:=⟨_,Zzp (by lia)⟩;obtain⟨s',es⟩:∃s',fs[i]?=some s':=⟨_,Zzp (by lia)⟩;rw[Zzw] at ey ez;rw[ex] at ey;rw[es] at ez;have ey:V.str x=y:=Zzm ey;have ez:V.str s'=z:=Zzm ez;subst ey ez;have ezz:(ws.zip fs)[i]?=some (x,s'):=by rw[List.getElem?_zip_eq_some];exact⟨ex,es⟩
   have ut:=A5 (o:=.tup [V.str x,V.str s']) ht;have s2:=s1.trans ut;have hp2:=ut _ _ hp1;refine gT2 ?_;generalize upd H' t (.tup [V.str x,V.str s'])=H2 at s2 hp2;walk_at "rd";have hlen:(((J4 ws fs).take i).map kV).length<1000:=by rw[Zzz,Zz5];lia
   have fx:=fine el _ (Zzt ezz);have go:G9 s' x=true->∀(vv:V) H3,vv=kV (Dv s' x)->AA H2 H3->∃y,H3 p=some (.lst y)/\y.length<sizeLine/\zm a b p ws fs H (i+1) [some (.ref a),some (.ref b),some (.ref p),some (.str x),some (.str s')] (upd H3 p (.lst (y++[vv]))):=λhc vv H3 ev s3=>by
    subst ev;refine⟨_,s3 _ _ hp2,Zze hlen (Ae (Zzx _)),_,_,rfl,?_,λz hz=>?_,λc o e=>?_⟩
    ·have:(J4 ws fs)[i]?=some (Dv s' x):=by unfold J4;rw[Zzw,ezz];rfl
     rw[A1,Zz1,this,Zzi];rfl
    ·rw[Zz1,ezz] at hz;rcases Zz2.mp hz with q | q
     ·exact hg z q
     ·rw[Zzr.mp q];exact hc
    ·rw[Ab (A9 e hp)];exact s3 _ _ (s2 _ _ e)
   have bad:G9 s' x=false->Et ws fs=false:=λhc=>by
    unfold Et;rw[Bool.and_eq_false_iff];refine .inr (Zw5.mpr λha=>?_);have:=Zyu.mp ha _ (Zzt ezz);rw[hc] at this;cases this
   refine⟨Ck hp2,rfl,Du (λcn=>?_) (λcn=>?_)⟩
   ·have en:s' = "name" := FP cn
    have eb:G9 s' x=Aq x:=by unfold G9;rw[FT en]
    rw[FT en] at fx;exact⟨x,rfl,fx,λH3 s3=>go (eb.trans fx) _ H3 (by unfold Dv;rw[FT en];rfl) s3⟩
   ·have en:¬ s' = "name" := λz=>cn (FQ z)
    have eb:G9 s' x=Fc x:=by unfold G9;rw[FS en]
    rw[FS en] at fx;refine⟨x,rfl,fx.1,fx.2,λhc n H3 hn s3=>go (eb.trans hc) _ H3 (by unfold Dv;rw[FS en,hn];rfl) s3,λhc H3 s3=>ke (bad (eb.trans hc)) H3 (s2.trans s3)⟩
  ·obtain⟨o1,o2,rfl,hp1,hg,s1⟩:=h;rw[hmin] at hp1 hg;rw[Zxc (by rw[kl];exact Zzx _)] at hp1;rw[Zz4] at hg;walk_at "rd";refine k ?_ p H' hp hp1 s1;unfold Et;rw[FQ el,Zyf];exact Zyu.mpr hg
end
set_option maxHeartbeats 4000000
section
variable {dk:Dk}{c:Cl}
theorem Cu{i:Int}(hi:0<=i):Ds xs (some i) none=xs.drop i.toNat:=by
 unfold Ds;rw[Qu hi];have e:HT.sIx xs.length xs.length none=xs.length:=rfl;rw[e];by_cases h:i.toNat<=xs.length
 ·rw[Zus h,Zxc (by rw[Zyj];exact Zzx _)]
 ·have h:xs.length<=i.toNat:=by lia
  rw[Nat.min_eq_right h,List.drop_length,List.drop_of_length_le h,List.take_nil]
def Ht:List (Str×List Str):=[("ware",["name", "number", "number", "number", "number"]),("coming",["name", "number", "number"]),("part",["name", "name", "number"]),("want",["name", "number", "number"])]
structure Gm(r:Str×List Key):Prop where
 form:(r.1,r.2.map En)∈Ht
 cells:∀k∈r.2,Iq k
def G2(r:Str×List Key):Str:=Str.join (one 32) (r.1::r.2.map AG)
def rowV(r:Str×List Key):List V:=.str r.1::r.2.map kV
theorem Ih{k:Key}(h:Iq k):(32∉(AG k).cps.toList/\10∉(AG k).cps.toList)/\(AG k).length<=60:=by
 cases k with
 |inl n =>
  obtain⟨h1,h2,h3,h4⟩:=Ph h.1 h.2;refine⟨?_,h4⟩;unfold Fc at h1;simp only[Zyy] at h1;have all:=Zyu.mp h1.1.2;exact⟨λz=>absurd (FP (all 32 z)) (by decide +kernel),λz=>absurd (FP (all 10 z)) (by decide +kernel)⟩
 |inr x =>
  have h:Aq x=true:=h;unfold Aq at h;simp only[Zyy,decide_eq_true_eq] at h;have all:=Zyu.mp h.2;exact⟨⟨λz=>absurd (FP (all 32 z)) (by decide +kernel),λz=>absurd (FP (all 10 z)) (by decide +kernel)⟩,Zzk h.1.2 (by decide)⟩
theorem Ei(h:Gm r):(32∉r.1.cps.toList/\10∉r.1.cps.toList)/\r.1.length<=60/\r.2.length<=5:=by
 have hf:=h.form;unfold Ht at hf;simp only[Zzu,Zzf,or_false,Prod.mk.injEq] at hf;have g:∀x:Str,x = "ware" \/ x = "coming" \/ x = "part" \/ x = "want" -> (32∉x.cps.toList/\10∉x.cps.toList)/\x.length<=60:=λx hx=>by
  rcases hx with rfl | rfl | rfl | rfl<;>decide +kernel
 have hl:r.2.length=(r.2.map En).length:=by rw[Zzz]
 rcases hf with ⟨e1,e2⟩ | ⟨e1,e2⟩ | ⟨e1,e2⟩ | ⟨e1,e2⟩<;>rw[e2] at hl
 ·exact⟨(g r.1 (.inl e1)).1,(g r.1 (.inl e1)).2,by rw[hl];decide⟩
 ·exact⟨(g r.1 (.inr (.inl e1))).1,(g r.1 (.inr (.inl e1))).2,by rw[hl];decide⟩
 ·exact⟨(g r.1 (.inr (.inr (.inl e1)))).1,(g r.1 (.inr (.inr (.inl e1)))).2,by rw[hl];decide⟩
 ·exact⟨(g r.1 (.inr (.inr (.inr e1)))).1,(g r.1 (.inr (.inr (.inr e1)))).2,by rw[hl];decide⟩
theorem Kl(h:Gm r){P:Str->Prop}(h1:P r.1)(h2:∀k∈r.2,P (AG k)):∀w∈r.1::r.2.map AG,P w:=λw hw=>by
 rcases Zzu.mp hw with rfl | hw
 ·exact h1
 ·obtain⟨k,hk,rfl⟩:=Zzo.mp hw;exact h2 k hk
theorem U5(h:Gm r):Txt.split (G2 r) (one 32)=r.1::r.2.map AG :=
 Ey (by decide) (by simp) (Kl h (P:=λw=>32∉w.cps.toList) (Ei h).1.1 λk hk=>(Ih (h.cells k hk)).1.1)
theorem V4(h:Gm r):(G2 r).length<=400:=by
 have:=G7 (sep:=one 32) (B:=60) (Kl h (P:=λw=>w.length<=60) (Ei h).2.1 λk hk=>(Ih (h.cells k hk)).2);have hl:=(Ei h).2.2;simp only[Zz3,Zzz] at this;have l1:(one 32).length=1:=rfl;unfold G2;rw[l1] at this;lia
theorem Wp(h:x∉l.map (·.1)):Gn l x=.non:=by
 unfold Gn;have:l.find? (λe=>decide (e.1=x))=none:=by
  rw[List.find?_eq_none];intro e he c;exact h (Zzo.mpr ⟨e,he,FP c⟩)
 rw[this]
theorem N1{fs:List Str}(h:Jt K l x fs)(hl:fs.length<=1000):∃fa,Gn l x=.ref fa/\∀H:Hp,SqT K H fa (fs.map V.str):=by
 obtain⟨fa,tl,q1,q2,q3⟩:=h;refine⟨fa,q1,λH=>?_⟩;rw[<- q3];refine q2.sq ?_ H;rw[<- q3,Zzz] at hl;exact hl
theorem W9{fs:List Str}(h:ws.length≠fs.length):Et ws fs=false:=by
 unfold Et;rw[FR h,Zw4]
structure A1b(t:Str)(x:Str)(ws:List Str):Prop where
 sp:Txt.split t (one 32)=x::ws
 len:t.length<=1000
 few:ws.length<=100
 bad:x = "" \/ (x = "ware" /\ ws.length≠5)
theorem mr(h:∀k∈ks,Iq k):P0 (ks.map AG) (ks.map En):=λz hz=>by
 rw[List.zip_map'] at hz;obtain⟨k,hk,rfl⟩:=Zzo.mp hz;have ok:=h k hk;cases k with
 |inl n =>
  have q:=Ph ok.1 ok.2;show if ("number" : Str) = "name" then _ else _
  rw[FS Rl];exact⟨q.2.2.1,q.2.2.2⟩
 |inr x =>
  show if ("name" : Str) = "name" then _ else _
  rw[FT rfl];exact ok
def O6(c:Cl):Sp:=λvs H Q E=>∃t:Str,vs=[.str t]/\((∃r:Str×List Key,Gm r/\t=G2 r/\∀p H',H p=none->H' p=some (.lst (rowV r))->AA H H'->Q (.ref p) H')\/∃x ws,A1b t x ws/\∀H',AA H H'->E (.ref c.NoText) none H')
theorem DH:Ce ["row", "words"] ["row"] (Ar Lh):=by walk_at "sc"
theorem Xn(F:Fun K "read_row" "read_row" Lh f fd)(T:Txt mg)(R:Rws w K mg)(C:Exc K mg c)(Zsq:Lo P w K mg base "read_words" 3 ["words", "form"] (Ii K c)):Ax P w K mg base (CXE P w) 4 f fd ["row"] (O6 c):=by
 refine F.okX DH (λvs H Q E h=>?_) (λcdv A outer s H vs Q E hr h=>?_)
 ·obtain⟨r,rfl,_⟩:=h;rfl
 ·obtain⟨t,rfl,h⟩:=h;have hu:=Aw hr;obtain⟨R_a,R_l,R_m,R_t,f1,f2,f3,f4,f5⟩:=R;refine⟨_,(A3 (Al (i:=1) DH.nd rfl (Zzq rfl) (Bw Zyl Zv3 Zv2 Rr (pv 0) (A2 Ac A0)))
 (A8 (Ag (Ai Kb (B7 (A2 (Aa hu (pv 1) A6 (λ_ _=>rfl)) A0)) (Ch Zsq Op hr.z rfl (A2 (Bj Fg (pv 1) (Br A6) Cc) (A2 (da R_t (Fi (v:=.ref R_a) rfl R_m rfl) (Aa hu (pv 1) A6 (λ_ _=>rfl)) ⟨rfl,rfl,rfl,rfl⟩) A0))))))),?_⟩
  walk_at "rd";have ec:∀(x:Str) (ws:List Str),Ds (V.str x::ws.map V.str) (some 1) none=ws.map V.str:=λx ws=>by
   rw[Cu (by decide)];rfl
  obtain⟨x,ws,hsp,hlen,few⟩:∃x ws,Txt.split t (one 32)=x::ws/\t.length<=1000/\ws.length<=100:=by
   rcases h with ⟨r,ok,rfl,k⟩ | ⟨x,ws,bd,_⟩
   ·exact⟨_,_,U5 ok,Zzk (V4 ok) (by decide),by rw[Zzz];have:=(Ei ok).2.2;lia⟩
   ·exact⟨x,ws,bd.sp,bd.len,bd.few⟩
  refine⟨rfl,32,by decide +kernel,Zzk hlen (by decide),λp hp=>?_⟩;rw[hsp,Zz9];have u1:=A5 (o:=.lst (V.str x::ws.map V.str)) hp;refine⟨_,B3 (j:=0) A1 rfl,by decide,λp1 hp1=>?_⟩;have u2:=A5 (o:=.lst [V.str x]) hp1;refine⟨_,u2 _ _ A1,λp2 hp2=>?_⟩;rw[ec];have u3:=A5 (o:=.lst (ws.map V.str)) hp2;refine⟨_,B3 (j:=0) (u3 _ _ (u2 _ _ A1)) rfl,_,rfl,?_⟩;have uu:=(u1.trans u2).trans u3;have h31:=u3 _ _ (A1 (H:=upd H p (.lst (V.str x::ws.map V.str))) (a:=p1) (o:=.lst [V.str x]));have h32:=A1 (H:=upd (upd H p (.lst (V.str x::ws.map V.str))) p1 (.lst [V.str x])) (a:=p2) (o:=.lst (ws.map V.str));generalize upd (upd (upd H p (.lst (V.str x::ws.map V.str))) p1 (.lst [V.str x])) p2 (.lst (ws.map V.str))=H3 at uu h31 h32;rcases h with ⟨r,ok,rfl,k⟩ | ⟨x',ws',bd,ke⟩
  ·rw[U5 ok] at hsp;obtain⟨rfl,rfl⟩:=Zvt hsp;have fm:Jt K R_l r.1 (r.2.map En):=by
    have hf:=ok.form;unfold Ht at hf;simp only[Zzu,Zzf,or_false,Prod.mk.injEq] at hf;rcases hf with ⟨q1,q2⟩ | ⟨q1,q2⟩ | ⟨q1,q2⟩ | ⟨q1,q2⟩<;>rw[q1,q2]<;>assumption
   have hl5:=(Ei ok).2.2;obtain⟨fa,q1,sq⟩:=N1 fm (by rw[Zzz];lia);rw[q1];obtain⟨g1,g2⟩:=mq ok.cells;refine⟨p2,.ref fa,r.2.map AG,rfl,h32,few,.inr ⟨fa,_,rfl,sq _,λ_=>mr ok.cells,λ_ p3 H4 hp3 hp3' s3=>?_,λz=>by rw[g1] at z;cases z⟩⟩;rw[g2] at hp3';refine⟨p3,rfl,_,s3 _ _ h31,_,hp3',Ae (by rw[Zzz];simp;lia),λp4 hp4=>?_⟩;exact k p4 _ (AA.free (uu.trans s3) hp4) A1 ((uu.trans s3).trans (A5 hp4))
  ·have hsp:=bd.sp.symm.trans hsp
   obtain⟨rfl,rfl⟩:=Zvt hsp;rcases bd.bad with rfl | ⟨rfl,nl⟩
   ·rw[Wp (by rw[f5];decide +kernel)];exact⟨p2,.non,_,rfl,h32,few,.inl ⟨rfl,ke _ uu⟩⟩
   ·obtain⟨fa,q1,sq⟩:=N1 f1 (by decide);rw[q1];have gn:=W9 (ws:=ws') (fs:=["name", "number", "number", "number", "number"]) nl;exact⟨p2,.ref fa,_,rfl,h32,few,.inr ⟨fa,_,rfl,sq _,(λz=>absurd z nl),(λz=>by rw[gn] at z;cases z),λ_ H' s'=>ke _ (uu.trans s')⟩⟩
end
set_option maxHeartbeats 4000000
section
variable {dk:Dk}{c:Cl}
def Mu:Key->PyData
 |.inl i=>.int i
 |.inr x=>.str x
abbrev R3:=Str×Str×List Key
def r3(r:R3):Str×List Key:=(r.1,.inr r.2.1::r.2.2)
def r3D(r:R3):PyData:=.list (.str r.1::.str r.2.1::r.2.2.map Mu)
def O5(r:R3):PyData:=.tuple (r.2.2.map Mu)
def Hu(s n:Str)(r:R3):Bool:=decide (r.1=s)&&decide (r.2.1=n)
theorem A09{k:Key}(h:RD H (Mu k) v):v=kV k:=by
 cases k with
 |inl i=>rw[Mu,RD] at h;exact h
 |inr x=>rw[Mu,RD] at h;exact h
theorem vh(k:Key):RD H (Mu k) (kV k):=by
 cases k with
 |inl i=>exact RD.int_mk
 |inr x=>exact RD.str_mk
theorem Xe:∀{ks:List Key} {vs:List V},RDs H (ks.map Mu) vs->vs=ks.map kV
 |[],vs,h=>RDs.nil_of h
 |k::r,vs,h=>by
  obtain⟨x,r',rfl,h1,h2⟩:=RDs.cons_of h;rw[A09 h1,Xe h2];rfl
theorem Iz:∀ks:List Key,RDs H (ks.map Mu) (ks.map kV)
 |[]=>RDs.nil
 |k::r=>RDs.cons (vh k) (Iz r)
theorem Pk(h:RD H (.list ds) v):∃a xs,v=.ref a/\H a=some (.lst xs)/\RDs H ds xs:=by rw[RD] at h;exact h
theorem cy{r:R3}(h:RD H (r3D r) v):∃a,v=.ref a/\H a=some (.lst (.str r.1::.str r.2.1::r.2.2.map kV)):=by
 obtain⟨a,xs,rfl,ha,hx⟩:=Pk h;obtain⟨x,r1,rfl,h1,h2⟩:=RDs.cons_of hx;obtain⟨y,r2,rfl,h3,h4⟩:=RDs.cons_of h2;rw[RD] at h1 h3;rw[h1,h3,Xe h4] at ha;exact⟨a,rfl,ha⟩
inductive DT (vs:List V) (H:Hp) (Q:VK) (E:XK):Prop | mk (a:Addr) (rs:List R3) (s n:Str) (_:vs=[.ref a,.str s,.str n]) (_:RD H (.list (rs.map r3D)) (.ref a)) (_:rs.length<=1000) (_:(∀r∈rs,r.2.2.length<=5)) (_:∀p xs H',H p=none->H' p=some (.lst xs)->RDs H' ((rs.filter (Hu s n)).map O5) xs->AA H H'->Q (.ref p) H')
theorem Zl(F:Fun K "rows_of" "rows_of" Tt f fd)(T:Txt mg)(C:Exc K mg c):Ax P w K mg base CX0 1 f fd ["rows", "sort", "name"] DT:=by
 refine F.go ["rows", "sort", "name"] ?_ ?_ ?_;walk_at "f";obtain⟨a,rs,s',n,rfl,hrd,hl,hk,k⟩:=h;have hu:=Aw hr;refine⟨_,(A8 (Ag (Bi (own:=["row"]) (cap:=[1,2]) rfl (Bz rfl) (At (by decide)) (Dq (pv 0))
 (λ_ _ _ _ _ _=>⟨(Af (i:=0) (FP rfl) rfl (Zzq rfl) (.inr rfl)),(Mh (PW.pt (K9 (An (Bg hu) (Aa hu (pv 0) A6 (λ_ _=>rfl)) (pv 1) (Ao _)) (Hy (An (Bg hu) (Aa hu (pv 0) A6 (λ_ _=>rfl)) (pv 2) (Ao _)))))),(Au Bp rfl T.Ztf Cr (A2 (Bj Fg (pv 0) (Br A6) Cc) A0))⟩)))),?_⟩
 walk_at "rd";obtain⟨a',vs,ea,ha,rv⟩:=Pk hrd;cases ea;have hvl:=Ap rv;refine⟨_,ha,?_⟩;refine Ji (Eu a _) (Ae (by lia)) (λi acc H'=>RDs H' (((rs.take i).filter (Hu s' n)).map O5) acc/\AA H H') ⟨RDs.nil,AA.refl _⟩ (λi acc H' _ h=>h.2 _ _ ha) (λi acc H' h=>?_) (λi x acc H' hi hx h=>?_) (λacc H' h p hp=>?_)
 ·have:=Ap h.1
  have h2:((rs.take i).filter (Hu s' n)).length<=i:=Zzk (Zxw _ _) (by rw[Zz5];lia);lia
 ·obtain⟨racc,s1⟩:=h;obtain⟨r,er,rr⟩:=B2 rv hx;obtain⟨ra,rfl,hra⟩:=cy rr;have hra1:=s1 _ _ hra;have et:(rs.take (i+1)).filter (Hu s' n)=(rs.take i).filter (Hu s' n)++if Hu s' n r=true then [r] else []:=by
   rw[Zz1,er,Zxu];congr 1;by_cases z:Hu s' n r=true
   ·rw[FT z];simp[z]
   ·rw[FS z];simp[z]
  walk_at "rd";refine⟨_,B3 (j:=0) hra1 rfl,rfl,?_⟩;have no:Hu s' n r=false->RDs H' (((rs.take (i+1)).filter (Hu s' n)).map O5) acc/\AA H H':=λz=>by
   rw[et,FS (by rw[z];decide),Zyw];exact⟨racc,s1⟩
  refine Du (λz1=>⟨_,B3 (j:=1) hra1 rfl,rfl,Du (λz2=>?_) (λz2=>no ?_)⟩) (λz1=>no ?_)
  ·have e1:r.1=s':=V.str.inj (FP z1)
   have e2:r.2.1=n:=V.str.inj (FP z2);have ec:Ds (V.str r.1::V.str r.2.1::r.2.2.map kV) (some 2) none=r.2.2.map kV:=by
    rw[Cu (by decide)];rfl
   refine⟨_,hra1,λp hp=>?_⟩;rw[ec];refine⟨_,.inl ⟨A1,λl hl=>?_⟩⟩;have u:=(A5 (o:=.lst (r.2.2.map kV)) hp).trans (A5 (o:=.tup (r.2.2.map kV)) hl);refine⟨?_,s1.trans u⟩;rw[et,FT (by unfold Hu;rw[FQ e1,FQ e2];rfl),Zzi];exact RDs.app (RDs.same u _ _ racc) (RDs.one (RD.tup_mk A1 (Iz _)))
  ·have h2:decide (r.2.1=n)=false:=FR λz=>z2 (FQ (by rw[z]))
   unfold Hu;rw[h2,Zva]
  ·have h1:decide (r.1=s')=false:=FR λz=>z1 (FQ (by rw[z]))
   unfold Hu;rw[h1,Zw4]
 ·obtain⟨racc,s1⟩:=h;rw[hvl,Zz4] at racc;exact k p acc _ (AA.free s1 hp) A1 (RDs.same (A5 hp) _ _ racc) (s1.trans (A5 hp))
end
set_option maxHeartbeats 4000000
section
variable {dk:Dk}{c:Cl}
def Gb(rs:List R3)(r:R3):PyData:=.tuple ((.str r.2.1::r.2.2.map Mu)++[.tuple ((rs.filter (Hu "coming" r.2.1)).map O5),.tuple ((rs.filter (Hu "part" r.2.1)).map O5)])
def k8(r:R3):PyData:=.tuple (.str r.2.1::r.2.2.map Mu)
def isS(s:Str)(r:R3):Bool:=decide (r.1=s)
def wrD(rs:List R3):PyData:=.tuple [.tuple ((rs.filter (isS "ware")).map (Gb rs)),.tuple ((rs.filter (isS "want")).map k8)]
theorem df:∀xs ys:List PyData,Cm xs=true->Cm ys=true->Cm (xs++ys)=true
 |[],ys,_,h=>h
 |x::r,ys,h1,h2=>by
  rw[Cm,Zyy] at h1;rw[Zxa,Cm,h1.1,df r ys h1.2 h2];rfl
theorem ow(k:Key):Do (Mu k)=true:=by cases k<;>rfl
theorem W3(r:R3):Do (O5 r)=true:=by
 unfold O5;rw[Do];exact Bu Mu ow _
theorem ou(rs:List R3)(r:R3):Do (Gb rs r)=true:=by
 unfold Gb;rw[Do];refine df _ _ ?_ ?_
 ·rw[Cm,Bu Mu ow];rfl
 ·simp only[Cm,Do,Bu O5 W3,Zvu]
theorem Mv{rs:List R3}{s:Str}{r:R3}(h:rs[i]?=some r):(rs.take (i+1)).filter (isS s)=(rs.take i).filter (isS s)++if r.1=s then [r] else []:=by
 rw[Zz1,h,Zxu];congr 1;unfold isS;by_cases z:r.1=s
 ·rw[FT z];simp[z]
 ·rw[FS z];simp[z]
theorem xa{l:Addr}{ys:List V}(h:H l=some (.lst xs)):AV H (upd H l (.lst ys)):=qf h (λ_ z=>by cases z)
inductive CB (vs:List V) (H:Hp) (Q:VK) (E:XK):Prop | mk (a:Addr) (rs:List R3) (_:vs=[.ref a]) (_:RD H (.list (rs.map r3D)) (.ref a)) (_:rs.length<=1000) (_:(∀r∈rs,r.2.2.length<=5)) (_:∀t H',RD H' (wrD rs) (.ref t)->AA H H'->Q (.ref t) H')
inductive A23 (a q:Addr) (rs:List R3) (H:Hp) (i:Nat) (Z:St) (H':Hp):Prop | mk (vs:List V) (o1 o2 o3:Option V) (_:Z=[some (.ref a),some (.ref q),o1,o2,o3,none]) (_:H' q=some (.lst vs)) (_:RDs H' (((rs.take i).filter (isS "ware")).map (Gb rs)) vs) (_:AA H H')
theorem P6(F:Fun K "written_shop" "written_shop" K1 f fd)(T:Txt mg)(C:Exc K mg c)(Zqo:Has P w K mg base "rows_of" 1 ["rows", "sort", "name"] DT):Ax P w K mg base CX0 2 f fd ["rows"] CB:=by
 refine F.go ["rows", "wares", "row", "coming", "parts", "wants"] ?_ ?_ ?_;walk_at "f";obtain⟨a,rs,rfl,hrd,hl,hk,k⟩:=h;have hu:=Aw hr;refine⟨_,(A3 (Al (i:=1) Nd rfl (Zzq rfl) (B7 A0))
 (A3 (Bd PassesOwn.never rfl (Dq (pv 0)) (Af (i:=2) Nd rfl (Zzq rfl))
 (A8 (B0 (An (Bg hu) (Aa hu (pv 2) A6 (λ_ _=>rfl)) Ac (Ao _)) (A3 (Al (i:=3) Nd rfl (Zzq rfl) (Au Bp rfl T.Ztf Cr (A2 (A7 Zqo hr.z rfl (A2 (pv 0) (A2 Ac (A2 (Aa hu (pv 2) A6 (λ_ _=>rfl)) A0)))) A0)))
 (A3 (Al (i:=4) Nd rfl (Zzq rfl) (Au Bp rfl T.Ztf Cr (A2 (A7 Zqo hr.z rfl (A2 (pv 0) (A2 Ac (A2 (Aa hu (pv 2) A6 (λ_ _=>rfl)) A0)))) A0)))
 (A8 (Bf (Bw Zz7 Zyr Zyq By (pv 1) (A2 (Ai G3 (Au Bp rfl T.Ztf Cr (A2 (Bj Fg (pv 2) (Br A6) Cc) A0)) (As (A2 (pv 3) (A2 (pv 4) A0)))) A0)))))) Am)))
 (A3 (E2 (own:=["row"]) (cap:=[]) (i:=5) rfl (Bz rfl) (At (by decide)) Nd rfl rfl (Dq (pv 0))
 (λ_ _ _ _ _ _=>⟨(Af (i:=0) (FP rfl) rfl (Zzq rfl) (.inr rfl)),(Mh (An (Bg hu) (Aa hu (pv 0) A6 (λ_ _=>rfl)) Ac (Ao _))),(Au Bp rfl T.Ztf Cr (A2 (Bj Fg (pv 0) (Br A6) Cc) A0))⟩))
 (A8 (Ag (As (A2 (Au Bp rfl T.Ztf Cr (A2 (pv 1) A0)) (A2 (Au Bp rfl T.Ztf Cr (A2 (pv 5) A0)) A0)))))))),?_⟩
 walk_at "rd";obtain⟨a',vs,ea,ha,rv⟩:=Pk hrd;cases ea;have hvl:=Ap rv;refine⟨by decide,λq hq=>?_⟩;have uq:=A5 (o:=.lst []) hq;refine⟨_,uq _ _ ha,?_⟩;refine Cj (Eu a _) (A23 a q rs H) ⟨[],_,_,_,rfl,A1,RDs.nil,uq⟩ (λi Z H' _ h=>by obtain⟨_,_,_,_,_,_,_,s'⟩:=h;exact s' _ _ ha) (λi x Z H1 hi hx h=>?_) (λZ H1 h=>?_)
 ·obtain⟨ws,o1,o2,o3,rfl,hq1,r1,s1⟩:=h;obtain⟨r,er,rr⟩:=B2 rv hx;obtain⟨ra,rfl,hra⟩:=cy rr;have hra1:=s1 _ _ hra;walk_at "rd";refine⟨_,B3 (j:=0) hra1 rfl,rfl,Du (λz=>?_) (λz=>?_)⟩
  ·have z:r.1 = "ware" := V.str.inj (FP z)
   refine⟨_,B3 (j:=1) hra1 rfl,a,rs,_,_,rfl,RD.same s1 _ _ hrd,hl,hk,λp2 x2 H2 hp2 hp2' rc2 sm2=>⟨p2,rfl,x2,.inl ⟨hp2',λl1 hl1=>?_⟩⟩⟩;have u3:=A5 (o:=.tup x2) hl1;have s3:=(s1.trans sm2).trans u3;have hl1':upd H2 l1 (.tup x2) l1=some (.tup x2):=A1;have rc3:=RDs.same u3 _ _ rc2;have hq3:=u3 _ _ (sm2 _ _ hq1);have r3':=RDs.same (sm2.trans u3) _ _ r1;generalize upd H2 l1 (.tup x2)=H3 at s3 hl1' rc3 hq3 r3';refine⟨_,B3 (j:=1) (s3 _ _ hra) rfl,a,rs,_,_,rfl,RD.same s3 _ _ hrd,hl,hk,λp4 x4 H4 hp4 hp4' rc4 sm4=>⟨p4,rfl,x4,.inl ⟨hp4',λl2 hl2=>?_⟩⟩⟩;have u5:=A5 (o:=.tup x4) hl2;have s5:=(s3.trans sm4).trans u5;have hl2':upd H4 l2 (.tup x4) l2=some (.tup x4):=A1;have hl15:=u5 _ _ (sm4 _ _ hl1');have rc5:=RDs.same (sm4.trans u5) _ _ rc3;have rp5:=RDs.same u5 _ _ rc4;have hq5:=u5 _ _ (sm4 _ _ hq3);have r5':=RDs.same (sm4.trans u5) _ _ r3';generalize upd H4 l2 (.tup x4)=H5 at s5 hl2' hl15 rc5 rp5 hq5 r5';have ec:Ds (V.str r.1::V.str r.2.1::r.2.2.map kV) (some 1) none=V.str r.2.1::r.2.2.map kV:=by
    rw[Cu (by decide)];rfl
   refine⟨Ck hq5,_,s5 _ _ hra,λp6 hp6=>?_⟩;rw[ec];refine⟨_,.inl ⟨A1,λl3 hl3=>⟨by decide,λp7 hp7=>?_⟩⟩⟩;have u6:=(A5 (o:=.lst (V.str r.2.1::r.2.2.map kV)) hp6).trans (A5 (o:=.tup (V.str r.2.1::r.2.2.map kV)) hl3);have u7:=A5 (o:=.tup [V.ref l1,V.ref l2]) hp7;have hkr:=hk r (Zzt er);refine⟨_,u7 _ _ A1,_,A1,Ae (by simp only[Zz3,Zzz,Zxo];lia),λp8 H8 hp8 sm8 _=>?_⟩;have ux:=(u6.trans u7).trans sm8;have hlw:=Ap r1;have hlw2:((rs.take i).filter (isS "ware")).length<=1000:=Zzk (Zxw _ _) (by rw[Zz5];lia);have hiw:((rs.take i).filter (isS "ware")).length<1000:=Zy6 (Zxw _ _) (by rw[Zz5];have:=(Zzb.mp er).1;lia);have hqx:=ux _ _ hq5;have kx:=xa (ys:=ws++[V.ref p8]) hqx;refine⟨ws,hqx,Zze (show ws.length<1000 by lia) (Ae (Zzx _)),_,_,_,_,rfl,A1,?_,?_⟩
   ·rw[Mv er,FT z,Zzi];refine RDs.app (RDs.ku (ux.ku.trans kx) _ _ (Bu _ (ou rs) _) r5') (RDs.one ?_);unfold Gb;refine RD.tup_mk (xs:=(V.str r.2.1::r.2.2.map kV)++[V.ref l1,V.ref l2]) (kx _ _ hp8) (RDs.app (RDs.cons RD.str_mk (Iz _)) (RDs.cons (RD.tup_mk ?_ (RDs.ku (ux.ku.trans kx) _ _ (Bu _ W3 _) rc5)) (RDs.one (RD.tup_mk ?_ (RDs.ku (ux.ku.trans kx) _ _ (Bu _ W3 _) rp5)))))
    ·exact kx _ _ (ux _ _ hl15)
    ·exact kx _ _ (ux _ _ hl2')
   ·intro c o e;rw[Ab (A9 e hq)];exact ux _ _ (s5 _ _ e)
  ·have z:¬ r.1 = "ware" := λy=>z (FQ (by rw[y]))
   refine⟨ws,_,_,_,rfl,hq1,?_,s1⟩;rw[Mv er,FS z,Zyw];exact r1
 ·obtain⟨ws,o1,o2,o3,rfl,hq1,r1,s1⟩:=h;rw[hvl,Zz4] at r1;walk_at "rd";refine⟨_,s1 _ _ ha,?_⟩;refine Ji (Eu a _) (Ae (by lia)) (λi acc H'=>RDs H' (((rs.take i).filter (isS "want")).map k8) acc/\AA H1 H') ⟨RDs.nil,AA.refl _⟩ (λi acc H' _ h=>h.2 _ _ (s1 _ _ ha)) (λi acc H' h=>?_) (λi x acc H' hi hx h=>?_) (λacc H' h p hp=>?_)
  ·have:=Ap h.1
   have h2:((rs.take i).filter (isS "want")).length<=i:=Zzk (Zxw _ _) (by rw[Zz5];lia);lia
  ·obtain⟨racc,s2⟩:=h;obtain⟨r,er,rr⟩:=B2 rv hx;obtain⟨ra,rfl,hra⟩:=cy rr;have hra1:=s2 _ _ (s1 _ _ hra);walk_at "rd";refine⟨_,B3 (j:=0) hra1 rfl,rfl,Du (λz=>?_) (λz=>?_)⟩
   ·have z:r.1 = "want" := V.str.inj (FP z)
    have ec:Ds (V.str r.1::V.str r.2.1::r.2.2.map kV) (some 1) none=V.str r.2.1::r.2.2.map kV:=by
     rw[Cu (by decide)];rfl
    refine⟨_,hra1,λp hp=>?_⟩;rw[ec];refine⟨_,.inl ⟨A1,λl hl=>?_⟩⟩;have u:=(A5 (o:=.lst (V.str r.2.1::r.2.2.map kV)) hp).trans (A5 (o:=.tup (V.str r.2.1::r.2.2.map kV)) hl);refine⟨?_,s2.trans u⟩;rw[Mv er,FT z,Zzi];exact RDs.app (RDs.same u _ _ racc) (RDs.one (RD.tup_mk A1 (RDs.cons RD.str_mk (Iz _))))
   ·have z:¬ r.1 = "want" := λy=>z (FQ (by rw[y]))
    rw[Mv er,FS z,Zyw];exact⟨racc,s2⟩
  ·obtain⟨racc,s2⟩:=h;rw[hvl,Zz4] at racc;have up:=A5 (o:=.lst acc) hp;refine⟨ws,.inl ⟨(s2.trans up) _ _ hq1,λl hl=>⟨p,rfl,acc,.inl ⟨A5 hl _ _ A1,λl2 hl2=>⟨by decide,λt ht=>?_⟩⟩⟩⟩⟩;have v1:=A5 (o:=.tup ws) hl;have v2:=A5 (o:=.tup acc) hl2;have v3:=A5 (o:=.tup [V.ref l,V.ref l2]) ht;have vv:=(v1.trans v2).trans v3;refine k t _ ?_ (((s1.trans s2).trans up).trans vv);unfold wrD;exact RD.tup_mk A1 (RDs.cons (RD.tup_mk (v3 _ _ (v2 _ _ A1)) (RDs.same ((s2.trans up).trans vv) _ _ r1)) (RDs.one (RD.tup_mk (v3 _ _ A1) (RDs.same (up.trans vv) _ _ racc))))
end
set_option maxHeartbeats 4000000
section
variable {dk:Dk}{c:Cl}
def Ew(rs:List R3):Str:=Str.join (one 10) (rs.map λr=>G2 (r3 r))
theorem Ua:∀ws:List Str,(∀w∈ws,10∉w.cps.toList)->10∉(Str.join (one 32) ws).cps.toList:=λws=>by
 induction ws with
 |nil=>intro _ z;exact absurd z (by decide +kernel)
 |cons w r ih =>
  intro hw;cases r with
  |nil=>exact hw w Zzj
  |cons v r =>
   rw[J5];intro z;rcases Zz2.mp z with z | z
   ·exact hw w Zzj z
   ·rcases Zzu.mp z with z | z
    ·exact absurd z (by decide)
    ·exact ih (λy hy=>hw y (Zzl _ hy)) z
theorem mo(h:Gm r):10∉(G2 r).cps.toList:=Ua _ (Kl h (P:=λw=>10∉w.cps.toList) (Ei h).1.2 λk hk=>(Ih (h.cells k hk)).1.2)
theorem Z4{rs:List R3}(h0:rs≠[])(h:∀r∈rs,Gm (r3 r)):Txt.split (Ew rs) (one 10)=rs.map λr=>G2 (r3 r) :=
 Ey (by decide) (by simpa using h0) λw hw=>by
  obtain⟨r,hr,rfl⟩:=Zzo.mp hw;exact mo (h r hr)
theorem Jw{rs:List R3}(h:∀r∈rs,Gm (r3 r)):(Ew rs).length<=rs.length*400+rs.length:=by
 have:=G7 (sep:=one 10) (B:=400) (xs:=rs.map λr=>G2 (r3 r)) λw hw=>by
  obtain⟨r,hr,rfl⟩:=Zzo.mp hw;exact V4 (h r hr)
 rw[Zzz,show (one 10).length=1 from rfl,Nat.mul_one] at this;exact this
end
set_option maxHeartbeats 4000000
section
variable {dk:Dk}{c:Cl}
structure Na(rs:List R3)(S:Sh):Prop where
 ne:rs≠[]
 len:rs.length<=400
 ok:∀r∈rs,Gm (r3 r)
 eq:wrD rs=S.d
 sd:SD0 S
 own:okS S=true->∀r∈rs,r.2.1∈Bl S
def Lu(c:Cl):Sp:=λvs H Q E=>∃t:Str,vs=[.str t]/\((∃(rs:List R3) (S:Sh),t=Ew rs/\Na rs S/\(okS S=true->∀q H',RD H' S.d (.ref q)->AA H H'->Q (.ref q) H')/\(okS S=false->∀H',AA H H'->E (.ref c.NoShop) none H'))\/∃x ws,A1b t x ws/\10∉t.cps.toList/\∀H',AA H H'->E (.ref c.NoText) none H')
theorem BV:Ce ["text", "rows", "shop"] ["text"] (Ar K4):=by walk_at "sc"
theorem Vn(F:Fun K "read_shop" "read_shop" K4 f fd)(T:Txt mg)(C:Exc K mg c)(Zq5:Lo P w K mg base "read_row" 4 ["row"] (O6 c))(Zrb:Has P w K mg base "written_shop" 2 ["rows"] CB)(Ztz:Has P w K mg base "names_of" 1 ["shop"] BC)(Zpv:Has P w K mg base "is_shop" 8 ["found"] DS):Ax P w K mg base (CXE P w) 9 f fd ["text"] (Lu c):=by
 refine F.okX BV (λvs H Q E h=>?_) (λcdv A outer s H vs Q E hr h=>?_)
 ·obtain⟨t,rfl,_⟩:=h;rfl
 ·obtain⟨t,rfl,h⟩:=h;have hu:=Aw hr;refine⟨_,(A3 (B0 (Bk (Bm (Aj Dh rfl T.Zu7 B1 (A2 (pv 0) (A2 (Hz (v:=.ty "str") rfl T.Zsa Ep rfl) A0))))) (A8 (D8 Kd rfl rfl C.Zqy C.Zs2 (A2 Ac A0))) Am)
 (A3 (Xj (own:=["row"]) (cap:=[]) (i:=1) rfl (Bz rfl) (At (by decide)) BV.nd rfl rfl (Jc (Bw Zyl Zv3 Zv2 Rr (pv 0) (A2 Ac A0))) w6
 (λ_ _ _ _ _ _ _ hp=>⟨(Af (i:=0) (FP rfl) rfl (Zzq rfl) (.inr rfl)),Ba,(Ch Zq5 hp hr.z rfl (A2 (pv 0) A0))⟩))
 (A3 (Al (i:=2) BV.nd rfl (Or.inr rfl) (A7 Zrb hr.z rfl (A2 (pv 1) A0)))
 (A3 (B0 (PW.pt (J0 (Bk (Bm (A7 Zpv hr.z rfl (A2 (pv 2) A0)))) (Ho (Bk (Bm (Aj (Eo rfl) rfl T.Zr3 Jk (A2 (Bi (own:=["row"]) (cap:=[2]) rfl (Bz rfl) (At (by decide)) (Dq (pv 1))
 (λ_ _ _ _ _ _=>⟨(Af (i:=0) (FP rfl) rfl (Zzq rfl) (.inr rfl)),Ba,(C3 (Nn hu) (Aa hu (pv 0) A6 (λ_ _=>rfl)) (A7 Ztz hr.z rfl (A2 (pv 1) A0)) rfl)⟩)) A0))))))) (A8 (D8 Kd rfl rfl C.Zq7 C.Zro (A2 Ac A0))) Am)
 (A8 (Ag (pv 2))))))),?_⟩
  walk_at "rd";refine⟨_,rfl,?_⟩;rw[FS (by decide)];rcases h with ⟨rs,S,rfl,sr,k,ke⟩ | ⟨x,ws,bd,no10,ke⟩
  rotate_left
  ·refine⟨rfl,10,by decide +kernel,Zzk bd.len (by decide),λp hp=>.inl ⟨_,A1,?_⟩⟩;have e:Txt.split t (one 10)=[t]:=Ey (c:=10) (ws:=[t]) (by decide) (by simp) λy hy=>by rw[Zzr.mp hy];exact no10
   rw[e];have u1:=A5 (o:=.lst ([t].map V.str)) hp;have hp1:upd H p (.lst ([t].map V.str)) p=some (.lst ([t].map V.str)):=A1;generalize upd H p (.lst ([t].map V.str))=H1 at u1 hp1;refine Ji (Eu p _) (by show 1<=sizeLine;decide) (λi acc H'=>(i=0/\acc=[])/\AA H1 H') ⟨⟨rfl,rfl⟩,AA.refl _⟩ (λi acc H' _ h=>h.2 _ _ hp1) (λi acc H' h=>by rw[h.1.2];exact Zym _) (λi x' acc H' hi hx h=>?_) (λacc H2 h q hq=>by cases h.1.1);obtain⟨⟨rfl,rfl⟩,s1⟩:=h;have hx:V.str t=x':=Zzm hx;subst hx;walk_at "rd";exact⟨t,rfl,.inr ⟨x,ws,bd,λH3 s3=>ke H3 ((u1.trans s1).trans s3)⟩⟩
  have hl:=sr.len;have htl:=Jw sr.ok;have h5:∀r∈rs,r.2.2.length<=5:=λr hr=>by
   have:=(Ei (sr.ok r hr)).2.2;have e:(r3 r).2.length=r.2.2.length+1:=rfl;lia
  refine⟨rfl,10,by decide +kernel,by lia,λp hp=>.inl ⟨_,A1,?_⟩⟩;rw[Z4 sr.ne sr.ok];have u1:=A5 (o:=.lst ((rs.map λr=>G2 (r3 r)).map V.str)) hp;have hp1:upd H p (.lst ((rs.map λr=>G2 (r3 r)).map V.str)) p=some (.lst ((rs.map λr=>G2 (r3 r)).map V.str)):=A1;generalize upd H p (.lst ((rs.map λr=>G2 (r3 r)).map V.str))=H1 at u1 hp1;refine Ji (Eu p _) (Ae (by simp only[Zzz];lia)) (λi acc H'=>RDs H' ((rs.take i).map r3D) acc/\AA H1 H') ⟨RDs.nil,AA.refl _⟩ (λi acc H' _ h=>h.2 _ _ hp1) (λi acc H' h=>?_) (λi x acc H' hi hx h=>?_) (λacc H2 h q hq=>?_)
  ·have:=Ap h.1
   rw[Zz5] at this;lia
  ·obtain⟨racc,s1⟩:=h;rw[Zzw,Zzw] at hx;cases er:rs[i]? with
   |none=>rw[er] at hx;cases hx
   |some r =>
   rw[er] at hx;have hx:V.str (G2 (r3 r))=x:=Zzm hx;subst hx;walk_at "rd";refine⟨_,rfl,.inl ⟨r3 r,sr.ok r (Zzt er),rfl,λp3 H3 hp3 hp3' s3=>⟨?_,s1.trans s3⟩⟩⟩;rw[Zz1,er,Zzi];refine RDs.app (RDs.same s3 _ _ racc) (RDs.one ?_);show RD H3 (.list (.str r.1::.str r.2.1::r.2.2.map Mu)) (.ref p3);rw[RD];exact⟨p3,_,rfl,hp3',RDs.cons RD.str_mk (RDs.cons RD.str_mk (Iz _))⟩
  ·obtain⟨racc,s1⟩:=h;simp only[Zzz,Zz4] at racc;have u2:=A5 (o:=.lst acc) hq;have hq2:upd H2 q (.lst acc) q=some (.lst acc):=A1;have s2:=(u1.trans s1).trans u2;have racc:=RDs.same u2 _ _ racc;generalize upd H2 q (.lst acc)=H3 at hq2 s2 racc;have rrd:RD H3 (.list (rs.map r3D)) (.ref q):=by rw[RD];exact⟨q,acc,rfl,hq2,racc⟩
   refine⟨q,rs,rfl,rrd,by lia,h5,λt H4 rt s4=>?_⟩;rw[sr.eq] at rt;refine⟨.ref t,S,rfl,rt,sr.sd,λH5 s5=>⟨_,rfl,?_⟩⟩;have s05:=s4.trans s5;cases ob:okS S with
   |false =>
    rw[FT (by decide)];exact⟨by decide,ke ob _ (s2.trans s05)⟩
   |true =>
   rw[FS (by decide)];obtain⟨q',vs5,eq5,hq5,rv5⟩:=Pk (RD.same s05 _ _ rrd);cases eq5;have hv5:=Ap rv5;refine⟨q,rfl,vs5,hq5,?_⟩;refine Bo (Eu q _) (Ae (by lia)) (λH' s'=>s' _ _ hq5) ((rs.map λ_=>true).map V.bl) (by rw[Zzz,Zzz];lia) (λi x H' hi hx s' N M hN=>?_) (λH' s' p6 hp6=>?_)
   ·obtain⟨r,er,rr⟩:=B2 rv5 hx;obtain⟨ra,rfl,hra⟩:=cy rr;walk_at "rd";have hn:=sr.sd.n;refine⟨_,B3 (j:=1) (s' _ _ hra) rfl,_,S,rfl,RD.same (s5.trans s') _ _ rt,by lia,λp7 H7 hp7 hp7' s7=>⟨true,.inl ⟨p7,_,rfl,.inl hp7',rfl,Hj _,?_⟩,hN _ _ (s'.trans s7) ?_⟩⟩
    ·rw[Mw,FQ (sr.own ob r (Zzt er))]
    ·rw[Zzw,Zzw,er];rfl
   ·refine⟨p6,rfl,_,A1,?_⟩;rw[J6,FS (by decide)];have u6:=A5 (o:=.lst ((rs.map λ_=>true).map V.bl)) hp6;exact k ob t _ (RD.same (s5.trans (s'.trans u6)) _ _ rt) (s2.trans (s05.trans (s'.trans u6)))
end
set_option maxHeartbeats 4000000
section
variable {dk:Dk}{c:Cl}
theorem Dz{st:Addr}(s:But st H H')(h:AI H st):AV H H':=λa xs e=>s a _ (h.neT e) e
theorem Jg{l:Addr}{ys:List V}(h:H l=some (.lst xs)):AV H (upd H l (.lst ys)):=qf h (λ_ z=>by cases z)
inductive AW (vs:List V) (H:Hp) (Q:VK) (E:XK):Prop | mk (st m:_) (_:vs=[.ref st,.int m]) (_:AI H st) (_:0<m) (_:m<10^200) (_:∀d H',0<=d->d<m->AI H' st->But st H H'->Q (.int d) H')
theorem Xt(F:Fun K "_law_next" "_law_next" Qo f fd)(T:Txt mg)(C:Exc K mg c):Ax P w K mg base CX0 1 f fd ["_law_state", "_law_many"] AW:=by
 refine F.go ["_law_state", "_law_many", "_law_digit"] ?_ ?_ ?_;walk_at "f";obtain⟨st,m,rfl,⟨ns,hne,hs⟩,h0,hm,k⟩:=h;have hu:=Aw hr;refine⟨_,(A3 (B0 (An Oq (Aj Bt rfl T.Ztg Cv (A2 (pv 0) A0)) A6 (Ao _)) (A3 (Al (i:=2) Nd rfl (Zzq rfl) (Ai Li (Aa hu (pv 0) A6 (λ_ _=>rfl)) (pv 1)))
 (A3 (Il (Ai Mo (Aa hu (pv 0) A6 (λ_ _=>rfl)) (pv 1)) (Jd (pv 0) A6 Hn))
 (A3 (B0 (An (Nn hu) (Aa hu (pv 0) A6 (λ_ _=>rfl)) (As (A2 A6 (A2 (Xl Q8 A6) A0))) rfl) (A8 (Bf (Bw Zz7 PySem.F.slot_list_pop PySem.F.type_list_pop ox (pv 0) (A2 A6 A0)))) Am)
 (A8 (Ag (pv 2)))))) Am)
 (A3 (Il (Ai Li (Ai Dr (Ai o7 (Aa hu (pv 0) A6 (λ_ _=>rfl)) A6) A6) (Ai Zg (Ai Zi A6 A6) A6)) (Jd (pv 0) A6 Hn))
 (A8 (Ag (Ai Li (Ai Mo (Aa hu (pv 0) A6 (λ_ _=>rfl)) A6) (pv 1)))))),?_⟩
 walk_at "rd";cases ns with
 |nil=>exact absurd rfl hne
 |cons n0 AO =>
 have hit:∀(H':Hp) (n:Int) (r:List Int),H' st=some (.lst (V.int n::r.map V.int))->Yx H' (.ref st) (.int 0) (.int n):=λH' n r e=>B3 (j:=0) e rfl;have h0i:=hit H n0 AO hs;refine⟨_,.inl hs,?_⟩;refine Du (λhl=>?_) (λhl=>?_)
 ·refine⟨_,h0i,_,rfl,h0,_,h0i,_,rfl,h0,hm,_,hs,0,by simp[ixN],?_⟩;have e1:upd H st (.lst ((Zxp V.int (n0::AO)).set 0 (V.int (n0 / m)))) st=some (.lst (V.int (n0 / m)::AO.map V.int)):=by rw[A1];rfl
  refine⟨_,hit _ _ _ e1,by decide,λp hp=>?_⟩;have npst:st≠p:=A9 e1 hp;refine⟨_,.inl ⟨p,_,rfl,.inr A1,rfl,rfl,rfl⟩,?_⟩;have d0:0<=n0 % m:=Int.emod_nonneg _ (by lia);have d1:n0 % m<m:=Zud _ h0;have e2:∀o,upd (upd H st (.lst ((Zxp V.int (n0::AO)).set 0 (V.int (n0 / m))))) p o st=some (.lst (V.int (n0 / m)::AO.map V.int)):=λo=>by rw[Ab npst];exact e1
  have hrest:AO≠[]:=λe=>by
   have hl:=FP hl;rw[e] at hl;simp at hl
  have bt:But st H (upd (upd H st (.lst ((Zxp V.int (n0::AO)).set 0 (V.int (n0 / m))))) p (.tup [V.int 0,V.int (-1)])):=DF.trans (L1 hp);refine Du (λhb=>?_) (λhb=>?_)
  ·refine⟨by unfold P4;simp only[e2],_,e2 _,by decide,by decide,0,by simp[seqIndex?],_,rfl,?_⟩;exact k _ _ d0 d1 ⟨AO,hrest,by rw[A1];rfl⟩ (bt.trans DF)
  ·exact k _ _ d0 d1 ⟨(n0 / m)::AO,by simp,e2 _⟩ bt
 ·have e1:∀z:Int,upd H st (.lst ((Zxp V.int (n0::AO)).set 0 (V.int z))) st=some (.lst (V.int z::AO.map V.int)):=λz=>by rw[A1];rfl
  refine⟨_,h0i,_,rfl,.inr ⟨by decide,by decide⟩,⟨by decide,by decide,by decide⟩,by decide,_,hs,0,by simp[ixN],_,hit _ _ _ (e1 _),_,rfl,by decide,by decide +kernel,h0,?_⟩;exact k _ _ (Int.emod_nonneg _ (by lia)) (Zud _ h0) ⟨_::AO,by simp,e1 _⟩ DF
inductive Lv (K:Zzy) (vs:List V) (H:Hp) (Q:VK) (E:XK):Prop | mk (a:Addr) (ns:List Int) (_:vs=[.ref a]) (_:SqL K H a (ns.map V.int)) (_:ns.length<=63) (_:∀st H',AI H' st->AA H H'->Q (.ref st) H')
theorem jm(ns:List Int)(lo hi:Option Int):∃ms:List Int,Ds (ns.map V.int) lo hi=ms.map V.int:=by
 unfold Ds;exact⟨_,by rw[<- Zvr,<- Zvq]⟩
theorem Vs(F:Fun K "_law_drawn" "_law_drawn" Og f fd)(T:Txt mg):Ax P w K mg base CX0 1 f fd ["_law_script"] (Lv K):=by
 refine F.go ["_law_script", "_law_seed", "_law_cell"] ?_ ?_ ?_;walk_at "f";obtain⟨a,ns,rfl,hS,hlen,k⟩:=h;have hu:=Aw hr;refine⟨_,(A3 (Al (i:=1) Nd rfl (Zzq rfl) A6)
 (A3 (Bd PassesOwn.never rfl (vt (pv 0)) (Af (i:=2) Nd rfl (Zzq rfl))
 (A8 (Al (i:=1) Nd rfl (Zzq rfl) (Ai Li (Ai Dr (Ai Dr (Ai o7 (pv 1) A6) (Ai Li (pv 2) (Ai Zi A6 A6))) A6) (Ai Zg (Ai Zi A6 A6) A6)))))
 (A3 (B0 (PW.pt (K9 (An Oq (Aj Jj rfl T.Ztg Cv (A2 (pv 0) A0)) A6 (Ao _)) (Hy (An (Bg hu) (Ai Li (db W8 (pv 0) A6 (λ_ _=>rfl)) A6) A6 (Ao _))))) (A8 (Ag (Ai Kb (Ai Kb (B7 (A2 (Ai Mo (db W8 (pv 0) A6 (λ_ _=>rfl)) A6) A0)) (Bj c6 (pv 0) (Br A6) (Br A6))) (B7 (A2 (pv 1) A0))))) Am)
 (A8 (Ag (B7 (A2 (pv 1) A0))))))),?_⟩
 walk_at "rd";simp only[zf];walk_at "rd";refine⟨⟨_,hS⟩,qx (K:=K) (a:=a) (xs:=ns.map V.int) (λi Z H'=>H'=H/\∃(z:Int) (c:Option V),Z=[some (.ref a),some (.int z),c]) ⟨rfl,_,_,rfl⟩ (λi Z H' _ p=>by rw[p.1];exact hS) ?_ ?_⟩
 ·rintro i y Z H' hy ⟨rfl,z,c,rfl⟩;obtain⟨u,rfl⟩:∃u,y=V.int u:=by
   rw[Zzw] at hy;cases e:ns[i]? with
   |none=>rw[e] at hy;cases hy
   |some u=>rw[e] at hy;exact⟨u,(Zzm hy).symm⟩
  walk_at "rd";refine⟨.inr ⟨by decide,by decide⟩,⟨by decide,by decide,by decide⟩,by decide,⟨by decide,by decide,by decide⟩,by decide,_,rfl⟩
 ·rintro Z H' ⟨rfl,z,c,rfl⟩;walk_at "rd";simp only[A1g,A1f];walk_at "rd";refine⟨_,.inl hS,Du (λh0=>?_) (λh0=>?_)⟩
  ·have hne:ns≠[]:=λe=>by
    rw[e] at h0;simp at h0
   obtain⟨n0,r,rfl⟩:∃n0 r,ns=n0::r:=by
    cases ns with
    |nil=>exact absurd rfl hne
    |cons a b=>exact⟨a,b,rfl⟩
   refine⟨_,hS,_,L3 (j:=0) rfl,_,rfl,by decide,rfl,Du (λh1=>?_) (λh1=>?_)⟩
   ·refine⟨_,hS,_,L3 (j:=0) rfl,_,rfl,by decide,by decide +kernel,by decide,λp hp=>?_⟩;obtain⟨ms,ems⟩:=jm (n0::r) (some 1) (some 63);have hml:ms.length<=63:=by
     have h1:=Ki (Zxp V.int (n0::r)) (some 1) (some 63);rw[ems,Zzz,Zzz] at h1;lia
    refine⟨_,(A5 hp).seq hS,λp1 hp1=>?_⟩;rw[ems];have e1:=A5 (o:=.lst (ms.map V.int)) hp1 p _ A1;refine⟨_,e1,_,A1,Zzk (by rw[Zzz];simp;lia:_<=1000) (Ae (Zzx _)),λp2 hp2=>⟨by decide,λp3 hp3=>?_⟩⟩;refine⟨_,A5 hp3 p2 _ A1,_,A1,Zzk (by simp;lia:_<=1000) (Ae (Zzx _)),λp4 hp4=>?_⟩;refine k p4 _ ⟨n0 / 2::(ms++[z]),by simp,?_⟩ ((((A5 hp).trans (A5 hp1)).trans (A5 hp2)).trans ((A5 hp3).trans (A5 hp4)));rw[A1];simp
   ·exact⟨by decide,λp hp=>k p _ ⟨[z],by simp,A1⟩ (A5 hp)⟩
  ·exact⟨by decide,λp hp=>k p _ ⟨[z],by simp,A1⟩ (A5 hp)⟩
end
set_option maxHeartbeats 4000000
section
variable {dk:Dk}{c:Cl}
structure WB(w:Wr):Prop where
 lag:0<=w.lag/\w.lag<=30
 gives:1<=w.gives/\w.gives<=100
 floor:0<=w.floor/\w.floor<=100
 stock:0<=w.stock/\w.stock<=10^42
 parts:w.parts.length<=6
 amts:∀p∈w.parts,1<=p.2/\p.2<=100
 nds:(w.parts.map (·.1)).Nodup
structure A24(ws:List Wr):Prop where
 nd:(ws.map (·.name)).Nodup
 wb:∀w∈ws,WB w
 txt:∀w∈ws,Aq w.name=true
 own:∀w∈ws,∀p∈w.parts,p.1∈ws.map (·.name)
 low:∃r:Str->Nat,(∀w∈ws,r w.name<ws.length)/\∀w∈ws,∀p∈w.parts,r p.1<r w.name
def zu(sz:Int)(cs:List (Int×Int)):Prop:=cs.length<=12/\∀p∈cs,(0<=p.1/\p.1<sz)/\0<=p.2/\p.2<10^41
def gm(sz:Int)(names:List Str)(us:List Wt):Prop:=us.length<=20/\∀u∈us,u.1∈names/\(0<=u.2.1/\u.2.1<sz)/\0<=u.2.2/\u.2.2<10^41
theorem gv(h:A24 S.wares):Ln S:=by
 obtain⟨r,h1,h2⟩:=h.low;refine Yn (r:=r) (λe he x hx=>?_) (λe he=>?_)
 ·obtain⟨w,hw,rfl⟩:=Zzo.mp he;obtain⟨p,hp,rfl⟩:=Zzo.mp hx;exact h2 w hw p hp
 ·obtain⟨w,hw,rfl⟩:=Zzo.mp he;exact h1 w hw
structure AJ(sz:Int)(S:Sh):Prop where
 ws:A24 S.wares
 len:1<=S.wares.length/\S.wares.length<=12
 com:∀w∈S.wares,zu sz w.coming
 wants:gm sz (S.wares.map (·.name)) S.wants
theorem AJ.ok{sz:Int}(g:AJ sz S):Sc S:=⟨g.ws.nd,by have:=g.len.2;lia,λw hw=>⟨Zzk (g.ws.wb w hw).parts (by decide),Zzk (g.com w hw).1 (by decide)⟩⟩
theorem AJ.no{sz:Int}(g:AJ sz S):Ln S:=gv g.ws
theorem AJ.sd(g:AJ 11 S):SD S where
 n:=g.len
 nm:=g.ws.txt
 nd:=g.ws.nd
 wb:=λw hw=>by
  have b:=g.ws.wb w hw;have c:=g.com w hw;exact⟨b.lag,b.gives,b.floor,b.stock,b.parts,b.amts,b.nds,c.1,c.2⟩
 own:=g.ws.own;un:=g.wants.1;us:=λu hu=>by
  obtain⟨h1,h2,h3⟩:=g.wants.2 u hu;exact⟨h1,⟨h2.1,by lia⟩,h3⟩
inductive BS (H:Hp) (a:Addr) (S:Sh) (plan:Str->List Int) (P:Str->Prop):Prop | mk (kvs:_) (_:Rd H a (.dK kvs)) (_:∀nm∈S.wares.map (·.name),P nm->∃l:Addr,C4 kvs (.inr nm)=some (.ref l)/\H l=some (.lst ((plan nm).map V.int))/\(plan nm).length=AE S/\∀x∈plan nm,0<=x/\x<10^2000)
def tz(S:Sh)(x nm:Str):Prop:=∃t∈S.wares,t.name=nm/\∃p∈t.parts,p.1=x
theorem _root_.L2.Rd.same{u:HO}(h:Rd H a u)(s:AA H H'):Rd H' a u:=h.elim (λe=>.inl (s _ _ e)) (λz0=>by obtain⟨o,e⟩:=z0;exact .inr ⟨o,s _ _ e⟩)
theorem BS.same{P:Str->Prop}(h:BS H a S plan P)(s:AA H H'):BS H' a S plan P:=by
 obtain⟨kvs,h1,h2⟩:=h;exact⟨kvs,h1.same s,λnm hn hP=>by obtain⟨l,e1,e2,e3⟩:=h2 nm hn hP;exact⟨l,e1,s _ _ e2,e3⟩⟩
theorem AJ.days{sz:Int}(g:AJ sz S)(hz:0<sz)(hz2:sz<=1000):1<=AE S/\AE S<=1000/\((AE S:Nat):Int)=1+Hv (S.wants.map λu=>u.2.1)/\∀u∈S.wants,u.2.1.toNat<AE S:=by
 have h0:0<=Hv (S.wants.map λu=>u.2.1):=dm λx hx=>by
  obtain⟨u,hu,rfl⟩:=Zzo.mp hx;exact(g.wants.2 u hu).2.1.1
 have h1:Hv (S.wants.map λu=>u.2.1)<sz:=dt hz λx hx=>by
  obtain⟨u,hu,rfl⟩:=Zzo.mp hx;exact(g.wants.2 u hu).2.1.2
 unfold AE;refine⟨by lia,by lia,by lia,λu hu=>?_⟩;have h2:u.2.1<=Hv (S.wants.map λu=>u.2.1):=du (Zzo.mpr ⟨u,hu,rfl⟩);have h3:=(g.wants.2 u hu).2.1.1;lia
inductive BO (vs:List V) (H:Hp) (Q:VK) (E:XK):Prop | mk (v:V) (S:Sh) (_:vs=[v]) (_:RD H S.d v) (_:S.wants.length<=1000) (_:∀H',AA H H'->Q (.int (1+Hv (S.wants.map λu=>u.2.1))) H')
theorem Sw(F:Fun K "count_days" "count_days" Mc f fd)(T:Txt mg)(C:Exc K mg c):Ax P w K mg base CX0 1 f fd ["shop"] BO:=by
 refine F.go ["shop"] ?_ ?_ ?_;walk_at "f";obtain⟨v,S,rfl,rs,hw,k⟩:=h;have hu:=Aw hr;refine⟨_,(A8 (Ag (Ai Dr A6 (vw rfl rfl T.Zpl (Bi (own:=["want"]) (cap:=[]) rfl (Bz rfl) (At (by decide)) (D9 (Aa hu (pv 0) A6 (λ_ _=>rfl)))
 (λ_ _ _ _ _ _=>⟨(Af (i:=0) (FP rfl) rfl (Zzq rfl) (.inr rfl)),Ba,(Aa hu (pv 0) (Ak rfl T.Zrz) (λ_ _=>rfl))⟩)))))),?_⟩
 obtain⟨a,b,c,ws,us,rfl,ha,hb,hc,rws,rus⟩:=Bq rs;have hl:=Ap rus;walk_at "rd";refine⟨_,Ah (j:=1) ha rfl,c,rfl,us,hc,?_⟩;refine Bo (E5 c _) (Ae (by lia)) (λH' s'=>s' _ _ hc) ((S.wants.map λu=>u.2.1).map V.int) (by rw[Zzz,Zzz,hl]) (λi x H' hi hx s' N M hN=>?_) (λH' s' p hp=>?_)
 ·obtain⟨y,hy,ry⟩:=B2 rus hx;obtain⟨e,rfl,he⟩:=Lp ry;walk_at "rd";exact⟨_,Ah (j:=1) (s' _ _ he) rfl,hN _ _ s' (by rw[Zzw,Zzw,hy];rfl)⟩
 ·exact⟨p,rfl,_,A1,k _ (s'.trans (A5 hp))⟩
inductive CV (vs:List V) (H:Hp) (Q:VK) (E:XK):Prop | mk (a:Addr) (v:V) (S:Sh) (plan:Str->List Int) (w:Wr) (P:Str->Prop) (_:vs=[.ref a,v]) (_:BS H a S plan P) (_:P w.name) (_:AE S<=1000) (_:RD H w.d v) (_:w∈S.wares) (_:0<=w.lag) (_:w.lag<=1000) (_:∀p H',H p=none->H' p=some (.lst ((Er (plan w.name) w.lag).map V.int))->AA H H'->Q (.ref p) H')
theorem Vv(F:Fun K "begun_row" "begun_row" Oj f fd)(T:Txt mg)(C:Exc K mg c):Ax P w K mg base CX0 1 f fd ["plan", "ware"] CV:=by
 refine F.go ["plan", "ware", "lots"] ?_ ?_ ?_;walk_at "f";obtain⟨a,v,S,plan,w,P',rfl,⟨kvs,hk,hpl⟩,hP,hd,rw',hm,l0,l1,k⟩:=h;have hu:=Aw hr;refine⟨_,(A3 (Al (i:=2) Nd rfl (Zzq rfl) (Aa hu (pv 0) (Aa hu (pv 1) (Ak rfl T.Zti) (λ_ _=>rfl)) (λ_ _=>rfl)))
 (A8 (Ag (Ai Kb (Bj Fg (pv 2) (Br (Aa hu (pv 1) (Ak rfl T.Zqp) (λ_ _=>rfl))) Cc) (Ai Zh (B7 (A2 A6 A0)) (Aj (js rfl) rfl T.Zpg A12 (A2 (Aa hu (pv 1) (Ak rfl T.Zqp) (λ_ _=>rfl)) (A2 (Aj Bt rfl T.Ztg Cv (A2 (pv 2) A0)) A0)))))))),?_⟩
 obtain⟨e,c1,c2,rfl,he,_⟩:=Cw rw';obtain⟨l,hv,hl,hlen,_⟩:=hpl w.name (Zzo.mpr ⟨w,hm,rfl⟩) hP;walk_at "rd";refine⟨_,Ah (j:=0) he rfl,.ref l,Lj hk hv,_,Ah (j:=1) he rfl,?_⟩;refine⟨w.lag,rfl,l,rfl,_,hl,λp1 hp1=>⟨by decide,λp2 hp2=>?_⟩⟩;have u1:=A5 (o:=.lst (Ds ((plan w.name).map V.int) (some w.lag) none)) hp1;have u2:=u1.trans (A5 (o:=.lst [V.int 0]) hp2);refine⟨_,Ah (j:=1) (u2 _ _ he) rfl,l,rfl,_,.inl (u2 _ _ hl),w.lag,rfl,[V.int 0],A1,?_,?_,?_,λp3 hp3=>?_⟩
 ·split<;>lia
 ·rw[Zzz];split<;>lia
 ·refine Ae ?_;rw[Zzz,Zya];split<;>lia
 ·have emin:(if (((plan w.name).map V.int).length:Int)<w.lag then (((plan w.name).map V.int).length:Int) else w.lag).toNat=min w.lag.toNat (plan w.name).length:=by
   rw[Zzz];split<;>lia
  rw[emin,R5,Cu l0];have u3:=u2.trans (A5 (o:=.lst ((Bh (min w.lag.toNat (plan w.name).length) λ_=>0).map V.int)) hp3);rw[Cu l0] at u3;have n12:p1≠p2:=A9 A1 hp2;refine⟨((plan w.name).map V.int).drop w.lag.toNat,?_,_,A1,?_,λp4 hp4=>?_⟩
  ·rw[Ab (λe=>by rw[<- e,Ab n12,A1] at hp3;cases hp3),Ab n12,A1]
  ·refine Ae ?_;rw[Zyj,Zzz,Zzz,B4];lia
  ·refine k p4 _ (AA.free u3 hp4) ?_ (u3.trans (A5 hp4));rw[A1,<- Zvr,<- Zzi,sx]
inductive CW (vs:List V) (H:Hp) (Q:VK) (E:XK):Prop | mk (v x:V) (S:Sh) (w:Wr) (sz:Int) (_:vs=[v,x]) (_:RD H S.d v) (_:RD H w.d x) (_:AJ sz S) (_:0<sz) (_:sz<=1000) (_:∀p H',H p=none->H' p=some (.lst ((Bh (AE S) λd=>Cb (wAt w.name d) S.wants).map V.int))->AA H H'->Q (.ref p) H')
inductive tu (v x:V) (p:Addr) (S:Sh) (nm:Str) (H:Hp) (i:Nat) (Z:St) (H':Hp):Prop | mk (o:Option V) (_:Z=[some v,some x,some (.ref p),o]) (_:H' p=some (.lst ((Bh (AE S) λd=>Cb (wAt nm d) (S.wants.take i)).map V.int))) (_:AA H H')
theorem Vl(F:Fun K "wants_row" "wants_row" Oa f fd)(T:Txt mg)(C:Exc K mg c)(Zsp:Has P w K mg base "count_days" 1 ["shop"] BO):Ax P w K mg base CX0 2 f fd ["shop", "ware"] CW:=by
 refine F.go ["shop", "ware", "told", "want"] ?_ ?_ ?_;walk_at "f";obtain⟨v,x,S,w,sz,rfl,rs,rx,g,z0,z1,k⟩:=h;have hu:=Aw hr;obtain⟨n1,n2,n3,n4⟩:=g.days z0 z1;refine⟨_,(A3 (Al (i:=2) Nd rfl (Zzq rfl) (Ai Zh (B7 (A2 A6 A0)) (A7 Zsp hr.z rfl (A2 (pv 0) A0))))
 (A3 (Bd PassesOwn.never rfl (D9 (Aa hu (pv 0) A6 (λ_ _=>rfl))) (Af (i:=3) Nd rfl (Zzq rfl))
 (A8 (B0 (An (Bg hu) (Aa hu (pv 3) (Ak rfl T.Zrt) (λ_ _=>rfl)) (Aa hu (pv 1) (Ak rfl T.Zti) (λ_ _=>rfl)) (Ao _)) (A8 (d7 (pv 2) (Aa hu (pv 3) (Ak rfl T.Zrz) (λ_ _=>rfl)) ff (Aa hu (pv 3) (Ak rfl T.Zsk) (λ_ _=>rfl)) Pu Hn)) Am)))
 (A8 (Ag (pv 2))))),?_⟩
 obtain⟨a,b,c,ws,us,rfl,ha,hb,hc,rws,rus⟩:=Bq rs;obtain⟨xe,c1,c2,rfl,hxe,_⟩:=Cw rx;have hl:=Ap rus;walk_at "rd";refine⟨by decide,λp0 hp0=>?_⟩;have u0:=A5 (o:=.lst [V.int 0]) hp0;refine⟨.ref a,S,rfl,RD.same u0 _ _ rs,by have:=g.wants.1;lia,λH1 sm1=>?_⟩;have h01:=sm1 p0 _ A1;have sm01:=u0.trans sm1;rw[<- n3];refine⟨_,rfl,_,h01,by lia,by lia,by rw[Zya];exact Ae (by lia),λp hp=>?_⟩;have u1:=sm01.trans (A5 (o:=.lst ((Bh (AE S) λ_=>0).map V.int)) hp);have en:((AE S:Nat):Int).toNat=AE S:=by lia
 rw[en,R5];refine⟨_,Ah (j:=1) (u1 _ _ ha) rfl,c,rfl,us,u1 _ _ hc,?_⟩;refine Cj (E5 c _) (tu (.ref a) (.ref xe) p S w.name H) ⟨_,rfl,?_,u1⟩ (λi Z H' _ h=>by obtain⟨_,_,_,s⟩:=h;exact s _ _ hc) (λi y Z H2 hi hy h=>?_) (λZ H2 h=>?_)
 ·rw[A1];exact congrArg (λz=>some (HO.lst (Zxp V.int z))) (Cp λd _=>by simp[Lr])
 ·obtain⟨o,rfl,hp2,sm⟩:=h;obtain⟨u,hu',ru⟩:=B2 rus hy;obtain⟨e,rfl,he⟩:=Lp ru;have he':=sm _ _ he;have hx':=sm _ _ hxe;have hum:=Zzt hu';walk_at "rd";refine⟨_,Ah (j:=0) he' rfl,_,Ah (j:=0) hx' rfl,rfl,Du (λhz=>?_) (λhz=>?_)⟩
  ·have hz:=FP hz
   have hz:u.1=w.name:=V.str.inj hz;have hd:=n4 u hum;have hd0:=(g.wants.2 u hum).2.1.1;refine⟨_,Ah (j:=1) he' rfl,_,u.2.1,rfl,hp2,hd0,_,by rw[Zzw,Cg hd];rfl,_,Ah (j:=2) he' rfl,_,rfl,_,rfl,_,_,rfl,hp2,u.2.1.toNat,?_,?_⟩
   ·rw[Zzz,B4];unfold ixN;rw[FT hd0,FT (by lia)]
   ·refine⟨_,rfl,?_,λb' o' hb'=>by rw[Ab (A9 hb' (AA.free sm01 hp))];exact sm b' o' hb'⟩;rw[A1,<- List.map_set,Nm];refine congrArg (λz=>some (HO.lst (Zxp V.int z))) (Cp λd _=>?_);rw[Ex _ hu'];unfold wAt;by_cases e1:d=u.2.1.toNat
    ·subst e1;rw[FT rfl,FT ⟨hz,by lia⟩]
    ·rw[FS e1,FS (λq=>e1 (by lia)),Zwx]
  ·refine⟨_,rfl,?_,sm⟩;rw[hp2];refine congrArg (λz=>some (HO.lst (Zxp V.int z))) (Cp λd _=>?_);rw[Ex _ hu'];unfold wAt;rw[FS (c:=u.1=w.name/\_) (λq=>hz (FQ (by rw[q.1]))),Zwx]
 ·obtain⟨o,rfl,hp2,sm⟩:=h;walk_at "rd";rw[hl,Zz4] at hp2;exact k p H2 (AA.free sm01 hp) hp2 sm
end
set_option maxHeartbeats 4000000
section
variable {dk:Dk}{c:Cl}
inductive CY (vs:List V) (H:Hp) (Q:VK) (E:XK):Prop | mk (v:V) (a:Addr) (x:V) (S:Sh) (plan:Str->List Int) (w:Wr) (sz:Int) (_:vs=[v,.ref a,x]) (_:RD H S.d v) (_:BS H a S plan (tz S w.name)) (_:RD H w.d x) (_:AJ sz S) (_:0<sz) (_:sz<=1000) (_:∀p H',H p=none->H' p=some (.lst ((Da S plan w.name).map V.int))->AA H H'->Q (.ref p) H')
inductive u9 (v:V) (a:Addr) (x:V) (S:Sh) (plan:Str->List Int) (nm:Str) (H:Hp) (i:Nat) (Z:St) (H':Hp):Prop | mk (q:Addr) (o1 o2 o3:Option V) (_:Z=[some v,some (.ref a),some x,some (.ref q),o1,o2,o3]) (_:H q=none) (_:H' q=some (.lst ((Bh (AE S) λd=>Cb (wAt nm d) S.wants+Cb (pAt plan nm d) (S.wares.take i)).map V.int))) (_:AA H H')
inductive ub (v:V) (a:Addr) (x t:V) (S:Sh) (plan:Str->List Int) (nm:Str) (w:Wr) (i:Nat) (H:Hp) (j:Nat) (Z:St) (H':Hp):Prop | mk (q:Addr) (o2 o3:Option V) (_:Z=[some v,some (.ref a),some x,some (.ref q),some t,o2,o3]) (_:H q=none) (_:H' q=some (.lst ((Bh (AE S) λd=>Cb (wAt nm d) S.wants+Cb (pAt plan nm d) (S.wares.take i)+Cb (λp:Str×Int=>if p.1=nm then p.2*bAt (plan w.name) w.lag d else 0) (w.parts.take j)).map V.int))) (_:AA H H')
def A14(n:Nat)(g:Nat->Int)(H1:Hp)(i:Nat)(acc:List V)(H':Hp):Prop:=acc=((Bh n g).take i).map V.int/\i<=n/\AA H1 H'
theorem Ja{g:Nat->Int}(h:i<=n):(Bh n g).take i=Bh i g:=by
 unfold Bh;rw[<- Zvq,List.take_range,Zus h]
theorem Vp(F:Fun K "needs_row" "needs_row" Od f fd)(T:Txt mg)(C:Exc K mg c)(Zqh:Has P w K mg base "wants_row" 2 ["shop", "ware"] CW)(Zqg:Has P w K mg base "begun_row" 1 ["plan", "ware"] CV):Ax P w K mg base CX0 3 f fd ["shop", "plan", "ware"] CY:=by
 refine F.go ["shop", "plan", "ware", "told", "taker", "part", "amount"] ?_ ?_ ?_;walk_at "f";obtain⟨v,a,x,S,plan,w,sz,rfl,rs,pl,rx,g,z0,z1,k⟩:=h;have hu:=Aw hr;obtain⟨n1,n2,n3,n4⟩:=g.days z0 z1;refine⟨_,(A3 (Al (i:=3) Nd rfl (Zzq rfl) (A7 Zqh hr.z rfl (A2 (pv 0) (A2 (pv 2) A0))))
 (A3 (Bd PassesOwn.never rfl (D9 (Aa hu (pv 0) A6 (λ_ _=>rfl))) (Af (i:=4) Nd rfl (Zzq rfl))
 (A8 (Bd PassesOwn.never rfl (D9 (Aa hu (pv 4) (Ak rfl T.Zrl) (λ_ _=>rfl))) (Hr (n:=2) rfl (B8 (Af (i:=5) Nd rfl (Zzq rfl)) (B8 (Af (i:=6) Nd rfl (Or.inr rfl)) E9)))
 (A8 (B0 (An (Bg hu) (pv 5) (Aa hu (pv 2) (Ak rfl T.Zti) (λ_ _=>rfl)) (Ao _)) (A8 (E2 (own:=["goes", "lots"]) (cap:=[6]) (i:=3) rfl (Bz rfl) Nu Nd rfl rfl (d9 rfl T.Zpq (A2 (pv 3) (A2 (A7 Zqg hr.z rfl (A2 (pv 1) (A2 (pv 4) A0))) A0)))
 (λ_ _ _ _ _ _=>⟨(Hr (n:=2) rfl (B8 (Af (i:=0) (FP rfl) rfl (Zzq rfl) (.inr rfl)) (B8 (Af (i:=1) (FP rfl) rfl (Zzq rfl) (.inr rfl)) E9))),Ba,(Ai Dr (pv 0) (Ai Po (pv 2) (pv 1)))⟩))) Am)))))
 (A8 (Ag (pv 3))))),?_⟩
 obtain⟨sa,sb,sc,ws,us,rfl,ha,hb,hc,rws,rus⟩:=Bq rs;obtain⟨xe,c1,c2,rfl,hxe,_⟩:=Cw rx;have hl:=Ap rws;walk_at "rd";refine⟨.ref sa,.ref xe,S,w,sz,rfl,rs,rx,g,z0,z1,λq0 H1 hq0 hq1 sm1=>?_⟩;refine⟨_,Ah (j:=0) (sm1 _ _ ha) rfl,sb,rfl,ws,sm1 _ _ hb,?_⟩;refine Cj (E5 sb _) (u9 (.ref sa) a (.ref xe) S plan w.name H) ⟨q0,_,_,_,rfl,hq0,?_,sm1⟩ (λi Z H' _ h=>by obtain⟨_,_,_,_,_,_,_,s⟩:=h;exact s _ _ hb) (λi y Z H2 hi hy h=>?_) (λZ H2 h=>?_)
 ·rw[hq1];exact congrArg (λz=>some (HO.lst (Zxp V.int z))) (Cp λd _=>by rw[Zw2,Lr,Zwx])
 ·obtain⟨q,o1,o2,o3,rfl,hq,hq2,sm⟩:=h;obtain⟨t,ht,rt⟩:=B2 rws hy;have htm:=Zzt ht;have wb:=g.ws.wb t htm;obtain⟨te,d1,d2,rfl,hte,rc,rp⟩:=Cw rt;obtain⟨pb,pv,rfl,hpb,rpv⟩:=RD.tup_of rp;have hlp:=Ap rpv;walk_at "rd";refine⟨_,Ah (j:=6) (sm _ _ hte) rfl,pb,rfl,pv,sm _ _ hpb,?_⟩;refine Cj (E5 pb _) (ub (.ref sa) a (.ref xe) (.ref te) S plan w.name t i H) ⟨q,_,_,rfl,hq,?_,sm⟩ (λj Z H' _ h=>by obtain⟨_,_,_,_,_,_,s⟩:=h;exact s _ _ hpb) (λj y Z H3 hj hy h=>?_) (λZ H3 h=>?_)
  ·rw[hq2];exact congrArg (λz=>some (HO.lst (Zxp V.int z))) (Cp λd _=>by rw[Zw2,Lr,Zwx])
  ·obtain⟨q,o2,o3,rfl,hq,hq2,sm⟩:=h;obtain⟨pp,hpp,rpp⟩:=B2 rpv hy;have hppm:=Zzt hpp;obtain⟨pe,rfl,hpe⟩:=Mn rpp;refine gt2 (sm _ _ hpe) ?_;walk_at "rd";refine⟨_,Ah (j:=0) (sm _ _ hxe) rfl,rfl,Du (λhz=>?_) (λhz=>?_)⟩
   ·have hz:pp.1=w.name:=V.str.inj (FP hz)
    have hT:tz S w.name t.name:=⟨t,htm,rfl,pp,hppm,hz⟩;refine⟨a,.ref te,S,plan,t,_,rfl,pl.same sm,hT,n2,RD.same sm _ _ rt,htm,wb.lag.1,by have:=wb.lag.2;lia,λb H4 hb4 hb5 sm4=>?_⟩;have hq4:=sm4 _ _ hq2;have sm04:=sm.trans sm4;refine⟨b,rfl,_,hq4,_,hb5,?_⟩;obtain⟨kvs,hkv,hpl⟩:=pl;obtain⟨l,hv,hll,hlen,hbd⟩:=hpl t.name (Zzo.mpr ⟨t,htm,rfl⟩) hT;have lb:(Er (plan t.name) t.lag).length=AE S:=by unfold Er;rw[B4,hlen]
    have en:min (((Bh (AE S) λd=>Cb (wAt w.name d) S.wants+Cb (pAt plan w.name d) (S.wares.take i)+Cb (λp:Str×Int=>if p.1=w.name then p.2*bAt (plan t.name) t.lag d else 0) (t.parts.take j)).map V.int).length) (((Er (plan t.name) t.lag).map V.int).length)=AE S:=by
     rw[Zzz,Zzz,B4,lb,Nat.min_self]
    have G:=qt q b ((Bh (AE S) λd=>Cb (wAt w.name d) S.wants+Cb (pAt plan w.name d) (S.wares.take i)+Cb (λp:Str×Int=>if p.1=w.name then p.2*bAt (plan t.name) t.lag d else 0) (t.parts.take j)).map V.int) ((Er (plan t.name) t.lag).map V.int);rw[en] at G;refine aq G (Ae n2) (A14 (AE S) (λd=>Cb (wAt w.name d) S.wants+Cb (pAt plan w.name d) (S.wares.take i)+Cb (λp:Str×Int=>if p.1=w.name then p.2*bAt (plan t.name) t.lag d else 0) (t.parts.take j)+pp.2*bAt (plan t.name) t.lag d) H4) ⟨rfl,Zym _,AA.refl _⟩ (λr acc H' _ h=>⟨h.2.2 _ _ hq4,h.2.2 _ _ hb5⟩) (λr acc H' h=>?_) (λr ys z acc H5 hr hys h hz5=>?_) (λacc H5 h p hp=>?_)
    ·rw[h.1,Zzz,Ja h.2.1,B4];exact Zzx _
    ·obtain⟨rfl,h2,h3⟩:=h;obtain⟨y1,y2,e1,e2,rfl⟩:=hys;rw[Zzw,Cg hr] at e1;cases e1;have hbg:(Er (plan t.name) t.lag)[r]?=some (bAt (plan t.name) t.lag r):=by unfold Er;rw[Cg (by rw[hlen];exact hr)]
     rw[Zzw,hbg] at e2;cases e2;refine gT2 ?_;walk_at "rd";have hamt:=wb.amts pp hppm;refine⟨.inl (.inl ⟨by lia,by lia⟩),?_,hr,h3.trans (A5 hz5)⟩;rw[Ja (by lia),Ja (by lia),Qx,Zzi];rfl
    ·obtain⟨rfl,h2,h3⟩:=h;rw[Ja (Zzx _)];refine⟨p,_,_,rfl,AA.free (sm04.trans h3) hp,?_,(sm04.trans h3).trans (A5 hp)⟩;rw[A1];refine congrArg (λz=>some (HO.lst (Zxp V.int z))) (Cp λd _=>?_);rw[Ex _ hpp,FT hz];lia
   ·refine⟨q,_,_,rfl,hq,?_,sm⟩;rw[hq2];refine congrArg (λz=>some (HO.lst (Zxp V.int z))) (Cp λd _=>?_);rw[Ex _ hpp,FS (c:=pp.1=w.name) (λe=>hz (FQ (by rw[e]))),Zwx]
  ·obtain⟨q,o2,o3,rfl,hq,hq2,sm⟩:=h;rw[hlp,Zz4] at hq2;refine⟨q,_,_,_,rfl,hq,?_,sm⟩;rw[hq2];refine congrArg (λz=>some (HO.lst (Zxp V.int z))) (Cp λd _=>?_);rw[Ex _ ht];unfold pAt;lia
 ·obtain⟨q,o1,o2,o3,rfl,hq,hq2,sm⟩:=h;walk_at "rd";rw[hl,Zz4] at hq2;exact k q H2 hq hq2 sm
inductive CC (vs:List V) (H:Hp) (Q:VK) (E:XK):Prop | mk (v x:V) (S:Sh) (w:Wr) (sz:Int) (_:vs=[v,x]) (_:RD H S.d v) (_:RD H w.d x) (_:AJ sz S) (_:0<sz) (_:sz<=1000) (_:w.coming.length<=1000) (_:(∀p∈w.coming,0<=p.1)) (_:∀p H',H p=none->H' p=some (.lst ((Bh (AE S) (Js w)).map V.int))->AA H H'->Q (.ref p) H')
inductive A1c (v x:V) (p:Addr) (S:Sh) (w:Wr) (H:Hp) (i:Nat) (Z:St) (H':Hp):Prop | mk (o1 o2:Option V) (_:Z=[some v,some x,some (.ref p),o1,o2]) (_:H' p=some (.lst ((Bh (AE S) λd=>(if d=0 then w.stock else 0)+Cb (cAt d) (w.coming.take i)).map V.int))) (_:AA H H')
theorem Pa(F:Fun K "arrivals_row" "arrivals_row" K6 f fd)(T:Txt mg)(C:Exc K mg c)(Zsp:Has P w K mg base "count_days" 1 ["shop"] BO):Ax P w K mg base CX0 2 f fd ["shop", "ware"] CC:=by
 refine F.go ["shop", "ware", "told", "day", "amount"] ?_ ?_ ?_;walk_at "f";obtain⟨v,x,S,w,sz,rfl,rs,rx,g,z0,z1,hcl,hcd,k⟩:=h;have hu:=Aw hr;obtain⟨n1,n2,n3,n4⟩:=g.days z0 z1;refine⟨_,(A3 (Al (i:=2) Nd rfl (Zzq rfl) (Ai Zh (B7 (A2 A6 A0)) (A7 Zsp hr.z rfl (A2 (pv 0) A0))))
 (A3 (Il (Aa hu (pv 1) (Ak rfl T.Zr0) (λ_ _=>rfl)) (Jd (pv 2) A6 Hn))
 (A3 (Bd PassesOwn.never rfl (D9 (Aa hu (pv 1) (Ak rfl T.Zs6) (λ_ _=>rfl))) (Hr (n:=2) rfl (B8 (Af (i:=3) Nd rfl (Zzq rfl)) (B8 (Af (i:=4) Nd rfl (Zzq rfl)) E9)))
 (A8 (B0 (An (Zj hu) (pv 3) (Aj Bt rfl T.Ztg Cv (A2 (pv 2) A0)) (Ao _)) (A8 (d7 (pv 2) (pv 3) ff (pv 4) Pu Hn)) Am)))
 (A8 (Ag (pv 2)))))),?_⟩
 obtain⟨xe,c1,c2,rfl,hxe,rc,_⟩:=Cw rx;obtain⟨cb,cv,rfl,hcb,rcv⟩:=RD.tup_of rc;have hl:=Ap rcv;walk_at "rd";refine⟨by decide,λp0 hp0=>?_⟩;have u0:=A5 (o:=.lst [V.int 0]) hp0;refine⟨v,S,rfl,RD.same u0 _ _ rs,by have:=g.wants.1;lia,λH1 sm1=>?_⟩;have h01:=sm1 p0 _ A1;have sm01:=u0.trans sm1;rw[<- n3];refine⟨_,rfl,_,h01,by lia,by lia,by rw[Zya];exact Ae (by lia),λp hp=>?_⟩;have u1:=sm01.trans (A5 (o:=.lst ((Bh (AE S) λ_=>0).map V.int)) hp);have en:((AE S:Nat):Int).toNat=AE S:=by lia
 rw[en,R5];have fp:H p=none:=AA.free sm01 hp;refine⟨_,Ah (j:=4) (u1 _ _ hxe) rfl,_,A1,0,?_,?_⟩
 ·rw[Zzz,B4];unfold ixN;rw[FT (by decide),FT (by lia)];rfl
 have kx:∀{b:Addr} {o o' o2:HO},H b=some o->upd (upd H1 p o') p o2 b=some o:=λ{b o o' o2} hb=>by rw[Ab (A9 hb fp),Ab (A9 hb fp)];exact sm01 b o hb
 refine⟨_,Ah (j:=5) (kx hxe) rfl,cb,rfl,cv,kx hcb,?_⟩;refine Cj (E5 cb _) (A1c v (.ref xe) p S w H) ⟨_,_,rfl,?_,λb o hb=>kx hb⟩ (λi Z H' _ h=>by obtain⟨_,_,_,_,s⟩:=h;exact s _ _ hcb) (λi y Z H2 hi hy h=>?_) (λZ H2 h=>?_)
 ·rw[A1,<- List.map_set,Nm];exact congrArg (λz=>some (HO.lst (Zxp V.int z))) (Cp λd _=>by rw[Zw2,Lr,Zwx])
 ·obtain⟨o1,o2,rfl,hp2,sm⟩:=h;obtain⟨u,hu',ru⟩:=B2 rcv hy;obtain⟨e,rfl,he⟩:=bc ru;refine gt2 (sm _ _ he) ?_;have hd0:=hcd u (Zzt hu');walk_at "rd";refine⟨_,.inl hp2,Du (λhz=>?_) (λhz=>?_)⟩
  ·have hz:=FP hz
   rw[Zzz,B4] at hz;have hd:u.1.toNat<AE S:=by lia
   refine⟨_,hp2,hd0,_,by rw[Zzw,Cg hd];rfl,_,rfl,_,hp2,u.1.toNat,?_,?_⟩
   ·rw[Zzz,B4];unfold ixN;rw[FT hd0,FT (by lia)]
   ·refine⟨_,_,rfl,?_,λb' o' hb'=>by rw[Ab (A9 hb' fp)];exact sm b' o' hb'⟩;rw[A1,<- List.map_set,Nm];refine congrArg (λz=>some (HO.lst (Zxp V.int z))) (Cp λd _=>?_);rw[Ex _ hu'];unfold cAt;by_cases e1:d=u.1.toNat
    ·subst e1;rw[FT rfl,FT (c:=u.1=_) (by lia)];lia
    ·rw[FS e1,FS (c:=u.1=_) (λq=>e1 (by lia)),Zwx]
  ·have hz:¬ u.1<(AE S:Int):=λq=>hz (FQ (by rw[Zzz,B4];exact q))
   refine⟨_,_,rfl,?_,sm⟩;rw[hp2];refine congrArg (λz=>some (HO.lst (Zxp V.int z))) (Cp λd hd=>?_);rw[Ex _ hu'];unfold cAt;rw[FS (c:=u.1=_) (λq=>hz (by lia)),Zwx]
 ·obtain⟨o1,o2,rfl,hp2,sm⟩:=h;walk_at "rd";rw[hl,Zz4] at hp2;exact k p H2 fp hp2 sm
end
set_option maxHeartbeats 4000000
section
variable {dk:Dk}{c:Cl}
inductive DI (vs:List V) (H:Hp) (Q:VK) (E:XK):Prop | mk (m g:_) (_:vs=[.int m,.int g]) (_:0<g) (_:g<10^200) (_:Q (.int (Bv m g)) H)
theorem Xp(F:Fun K "lots_for" "lots_for" Qj f fd)(T:Txt mg)(C:Exc K mg c):Ax P w K mg base CX0 1 f fd ["amount", "gives"] DI:=by
 refine F.go ["amount", "gives"] ?_ ?_ ?_;walk_at "f";obtain⟨m,g,rfl,h0,h1,k⟩:=h;have hu:=Aw hr;refine⟨_,(A8 (Ag (Aj (Uq rfl) rfl T.Zpl ay (A2 A6 (A2 (Xl Q8 (Ai Mo (Xl Q8 (pv 0)) (pv 1))) A0))))),?_⟩;walk_at "rd";exact⟨h0,h1,k⟩
theorem Mz{sz:Int}(g:AJ sz S):ui S where
 nd:=g.ws.nd
 own:=g.ws.own
 low:=g.ws.low
 ok:=g.ok
 few:=by have:=g.len.2;lia
theorem fe{sz:Int}(g:AJ sz S):ue S where
 wb:=λw hw=>by
  have b:=g.ws.wb w hw;exact⟨⟨b.gives.1,Zxb b.gives.2 (by decide +kernel)⟩,⟨b.floor.1,Zxb b.floor.2 (by decide +kernel)⟩,b.stock.1,Zzk b.parts (by decide),λp hp=>⟨(b.amts p hp).1,Zxb (b.amts p hp).2 (by decide +kernel)⟩⟩
 com:=λw hw p hp=>((g.com w hw).2 p hp).2.1;few:=g.len.2;wt:=⟨g.wants.1,λu hu=>⟨(g.wants.2 u hu).2.2.1,Zxb (Int.le_of_lt (g.wants.2 u hu).2.2.2) (by decide +kernel)⟩⟩
theorem Ig{xs:List Int}(h:(xs.map V.int)[i]?=some y):y=.int (xs.getD i 0):=by
 rw[Zzw] at h;rw[Zz8];cases e:xs[i]? with
 |none=>rw[e] at h;cases h
 |some x=>rw[e] at h;cases h;rfl
theorem Te(nd:(S.wares.map (·.name)).Nodup){a b:Wr}(h1:a∈S.wares)(h2:b∈S.wares)(e:a.name=b.name):a=b:=by
 have:=Q2 nd h1;rw[e,Q2 nd h2] at this;exact(Zzm this).symm
inductive uj (a b p:Addr) (g f:Int) (xs ys:List Int) (H:Hp) (i:Nat) (Z:St) (H':Hp):Prop | mk (c d e:Option V) (_:Z=[some (.ref a),some (.ref b),some (.int g),some (.int f),some (.ref p),some (.int (above f g xs ys i)),c,d,e]) (_:H' p=some (.lst ((AT f g xs ys i).map V.int))) (_:AA H H')
inductive CM (vs:List V) (H:Hp) (Q:VK) (E:XK):Prop | mk (a b:Addr) (g f:Int) (xs ys:List Int) (_:vs=[.ref a,.ref b,.int g,.int f]) (_:H a=some (.lst (xs.map V.int))) (_:H b=some (.lst (ys.map V.int))) (_:ys.length=xs.length) (_:xs.length<=1000) (_:0<g) (_:g<10^200) (_:(∀i,i<xs.length->DN g (Mt f g xs ys i))) (_:∀p H',H p=none->H' p=some (.lst ((AT f g xs ys xs.length).map V.int))->AA H H'->Q (.ref p) H')
theorem Sr(F:Fun K "least_lots" "least_lots" M0 f fd)(T:Txt mg)(C:Exc K mg c)(Zq4:Has P w K mg base "lots_for" 1 ["amount", "gives"] DI):Ax P w K mg base CX0 2 f fd ["have", "need", "gives", "floor"] CM:=by
 refine F.go ["have", "need", "gives", "floor", "told", "above_floor", "comes", "goes", "lots"] ?_ ?_ ?_;walk_at "f";obtain⟨a,b,g,fl,xs,ys,rfl,ha,hb,hl,hn,g0,g200,hm,k⟩:=h;have hu:=Aw hr;refine⟨_,(A3 (Al (i:=4) Nd rfl (Zzq rfl) (B7 A0))
 (A3 (Al (i:=5) Nd rfl (Zzq rfl) (Xl Q8 (pv 3)))
 (A3 (Bd PassesOwn.never rfl (d9 rfl T.Zpq (A2 (pv 0) (A2 (pv 1) A0))) (Hr (n:=2) rfl (B8 (Af (i:=6) Nd rfl (Zzq rfl)) (B8 (Af (i:=7) Nd rfl (Zzq rfl)) E9)))
 (A3 (Jb (i:=5) Nd rfl (Zzq rfl) (Ai Zg (pv 6) (pv 7)) Pu)
 (A3 (Al (i:=8) Nd rfl (Zzq rfl) (A7 Zq4 hr.z rfl (A2 (Xl Q8 (pv 5)) (A2 (pv 2) A0))))
 (A3 (Jb (i:=5) Nd rfl (Zzq rfl) (Ai Po (pv 2) (pv 8)) Pu)
 (A8 (Bf (Bw Zz7 Zyr Zyq By (pv 4) (A2 (pv 8) A0))))))))
 (A8 (Ag (pv 4)))))),?_⟩
 walk_at "rd";refine⟨Zym _,λp hp=>⟨_,by rw[Ab (A9 ha hp)];exact ha,_,by rw[Ab (A9 hb hp)];exact hb,?_⟩⟩;have en:min (xs.map V.int).length (ys.map V.int).length=xs.length:=by rw[Zzz,Zzz];lia
 refine fg (qt a b _ _) (uj a b p g fl xs ys H) ⟨_,_,_,rfl,A1,A5 hp⟩ (λi Z H' _ h=>by obtain⟨_,_,_,_,_,s⟩:=h;exact⟨s _ _ ha,s _ _ hb⟩) (λi us t Z H' hi hy h ht=>?_) (λZ H' h=>?_)
 ·obtain⟨c,d,e,rfl,h1,sm⟩:=h;obtain⟨y,z,ey,ez,rfl⟩:=hy;have hy:=Ig ey;have hz:=Ig ez;subst hy hz;refine gT2 ?_;walk_at "rd";refine⟨_,_,rfl,g0,g200,?_⟩;have eL:Bv (-(above fl g xs ys i+(xs.getD i 0 - ys.getD i 0))) g=Mt fl g xs ys i:=rfl;rw[eL];have hp':upd H' t (.tup [.int (xs.getD i 0),.int (ys.getD i 0)]) p=some (.lst ((AT fl g xs ys i).map V.int)):=by rw[Ab (A9 h1 ht)];exact h1
  walk_at "rd";refine⟨hm i (by lia),Ck hp',_,hp',Zy6 (m:=1000) (by rw[Zzz,Y6];lia) (by decide),?_⟩;refine⟨_,_,_,rfl,?_,λb' o hb'=>?_⟩
  ·rw[A1,iy,Zzi];rfl
  ·rw[Ab (A9 hb' hp)];exact(sm.trans (A5 ht)) b' o hb'
 ·obtain⟨c,d,e,rfl,h1,sm⟩:=h;walk_at "rd";rw[en] at h1;exact k p H' hp h1 sm
def dayV:Option Nat->V
 |some d=>.int d
 |none=>.non
inductive CG (vs:List V) (H:Hp) (Q:VK) (E:XK):Prop | mk (a:Addr) (row:List Int) (lag:Int) (_:vs=[.ref a,.int lag]) (_:H a=some (.lst (row.map V.int))) (_:row.length<=1000) (_:∀H',AA H H'->Q (dayV (Ej row lag)) H')
inductive um (a:Addr) (lag:Int) (row:List Int) (H:Hp) (i:Nat) (Z:St) (H':Hp):Prop | mk (c d:Option V) (_:Z=[some (.ref a),some (.int lag),c,d]) (_:Dg row lag i=none) (_:AA H H')
theorem Ri(F:Fun K "first_early" "first_early" Ld f fd)(T:Txt mg)(C:Exc K mg c):Ax P w K mg base CX0 1 f fd ["lots", "lag"] CG:=by
 refine F.go ["lots", "lag", "day", "count"] ?_ ?_ ?_;walk_at "f";obtain⟨a,row,lag,rfl,ha,hl,k⟩:=h;have hu:=Aw hr;refine⟨_,(A3 (Bd PassesOwn.never rfl (Vd rfl T.Zqn (A2 (pv 0) A0)) (Hr (n:=2) rfl (B8 (Af (i:=2) Nd rfl (Zzq rfl)) (B8 (Af (i:=3) Nd rfl (Zzq rfl)) E9)))
 (A8 (B0 (PW.pt (K9 (An (Zj hu) (pv 2) (pv 1) (Ao _)) (Hy (An Oq (pv 3) A6 (Ao _))))) (A8 (Ag (pv 2))) Am)))
 (A8 (Ag Ka))),?_⟩
 walk_at "rd";refine⟨_,ha,?_⟩;refine fg (qu a _) (um a lag row H) ⟨_,_,rfl,rfl,AA.refl _⟩ (λi Z H' _ h=>by obtain⟨_,_,_,_,s⟩:=h;exact s _ _ ha) (λi us t Z H' hi hy h ht=>?_) (λZ H' h=>?_)
 ·obtain⟨c,d,rfl,hn,sm⟩:=h;obtain⟨y,ey,rfl⟩:=hy;have hy:=Ig ey;subst hy;rw[Zzz] at hi;have s2:=sm.trans (A5 (o:=.tup [.int i,.int (row.getD i 0)]) ht);have es:Dg row lag (i+1)=if (i:Int)<lag/\0<row.getD i 0 then some i else none:=by rw[Dg,hn]
  refine gT2 ?_;walk_at "rd";refine Du (λh1=>Du (λh2=>?_) (λh2=>?_)) (λh1=>?_)
  ·have h1:=FP h1
   have h2:=FP h2;rw[FT ⟨h1,h2⟩] at es;have e:Ej row lag=some i:=ah es (by lia);have:=k _ s2;rw[e] at this;exact this
  ·exact⟨_,_,rfl,by rw[es,FS (λc=>h2 (FQ c.2))],s2⟩
  ·exact⟨_,_,rfl,by rw[es,FS (λc=>h1 (FQ c.1))],s2⟩
 ·obtain⟨c,d,rfl,hn,sm⟩:=h;rw[Zzz] at hn;walk_at "rd";have:=k _ sm;unfold Ej at this;rw[hn] at this;exact this
def A2n(kvs:List (Key×V))(l:List Str):Prop:=∀nm∈l,∀nm'∈l,∀q:Addr,C4 kvs (.inr nm)=some (.ref q)->C4 kvs (.inr nm')=some (.ref q)->nm=nm'
inductive ud (H H':Hp) (a:Addr) (S:Sh) (l:List Str):Prop | mk (kvs:_) (_:H' a=some (.dK kvs)) (_:kvs.map (·.1)=l.map Zy9) (_:(∀nm∈l,∃q:Addr,H q=none/\q≠a/\C4 kvs (.inr nm)=some (.ref q)/\H' q=some (.lst ((LR S nm).map V.int)))) (_:A2n kvs l)
inductive Lg (Pt:Addr) (vs:List V) (H:Hp) (Q:VK) (E:XK):Prop | mk (v:V) (S:Sh) (sz:Int) (_:vs=[v]) (_:RD H S.d v) (_:AJ sz S) (_:0<sz) (_:sz<=1000) (_:Tb H Pt) (_:∀(t p:Addr) (ys:List Str) (i:Nat) (H':Hp),H t=none->H p=none->t≠p->N9 (lv S) (Bl S) ys->ud H H' p S (ys.take i)->(∀w∈S.wares,w.name∈ys.take i->Ej (LR S w.name) w.lag=none)->Tb H' Pt->But Pt H H'->((i=ys.length/\H' t=some (.tup [.str "plan",.ref p]))\/∃(w:Wr) (d:Nat),w∈S.wares/\ys[i]?=some w.name/\Ej (LR S w.name) w.lag=some d/\H' t=some (.tup [.str "short",.ref p,.str w.name,.int d,.int ((LR S w.name).getD d 0)]))->Q (.ref t) H')
inductive yw (v:V) (p:Addr) (S:Sh) (ys:List Str) (H H1:Hp) (i:Nat) (Z:St) (H':Hp):Prop | mk (o2 o3 o4 o5:Option V) (_:Z=[some v,some (.ref p),o2,o3,o4,o5]) (_:ud H H' p S (ys.take i)) (_:(∀w∈S.wares,w.name∈ys.take i->Ej (LR S w.name) w.lag=none)) (_:∀b o,b≠p->H1 b=some o->H' b=some o)
theorem Zm(F:Fun K "planned" "planned" Tu f fd)(T:Txt mg)(C:Exc K mg c)(Zsm:Has P w K mg base "worked" 6 ["shop"] (Kr Pt))(Zt1:Lo P w K mg base "ware_of" 1 ["shop", "name"] (J7 c))(Zqs:Has P w K mg base "least_lots" 2 ["have", "need", "gives", "floor"] CM)(Zqf:Has P w K mg base "needs_row" 3 ["shop", "plan", "ware"] CY)(Zra:Has P w K mg base "arrivals_row" 2 ["shop", "ware"] CC)(Zr4:Has P w K mg base "first_early" 1 ["lots", "lag"] CG):Ax P w K mg base CX0 7 f fd ["shop"] (Lg Pt):=by
 refine F.go ["shop", "plan", "name", "ware", "lots", "day"] ?_ ?_ ?_;walk_at "f";obtain⟨v,S,sz,rfl,rs,g,z0,z1,tb,k⟩:=h;have hu:=Aw hr;obtain⟨n1,n2,n3,n4⟩:=g.days z0 z1;refine⟨_,(A3 (Al (i:=1) Nd rfl (Zzq rfl) Mm)
 (A3 (Bd PassesOwn.never rfl (Dq (A7 Zsm hr.z rfl (A2 (pv 0) A0))) (Af (i:=2) Nd rfl (Zzq rfl))
 (A3 (Al (i:=3) Nd rfl (Zzq rfl) (Ch Zt1 U8 hr.z rfl (A2 (pv 0) (A2 (pv 2) A0))))
 (A3 (Al (i:=4) Nd rfl (Zzq rfl) (A7 Zqs hr.z rfl (A2 (A7 Zra hr.z rfl (A2 (pv 0) (A2 (pv 3) A0))) (A2 (A7 Zqf hr.z rfl (A2 (pv 0) (A2 (pv 1) (A2 (pv 3) A0)))) (A2 (Aa hu (pv 3) (Ak rfl T.Zr1) (λ_ _=>rfl)) (A2 (Aa hu (pv 3) (Ak rfl T.Zr2) (λ_ _=>rfl)) A0))))))
 (A3 (Al (i:=5) Nd rfl (Zzq rfl) (A7 Zr4 hr.z rfl (A2 (pv 4) (A2 (Aa hu (pv 3) (Ak rfl T.Zqp) (λ_ _=>rfl)) A0))))
 (A3 (B0 (An U9 (pv 5) Ka (Ao _)) (A8 (Ag (As (A2 Ac (A2 (pv 1) (A2 (pv 2) (A2 (pv 5) (A2 (Aa hu (pv 4) (pv 5) (λ_ _=>rfl)) A0)))))))) Am)
 (A8 (Il (pv 4) (Jd (pv 1) (pv 2) (Jz hu)))))))))
 (A8 (Ag (As (A2 Ac (A2 (pv 1) A0))))))),?_⟩
 have L:=Mz g;have PL:=fe g;have hfew:=L.few;walk_at "rd";intro p hp;have u0:=A5 (o:=.dK []) hp;refine⟨v,S,rfl,RD.same u0 _ _ rs,L,tb.same u0,λq ys H1 hq hq1 so sb tb1 bt1=>⟨q,rfl,_,hq1,?_⟩⟩;have tb0:=tb.same u0;have pPt:p≠Pt:=λz=>by obtain⟨u,e⟩:=tb.at;rw[<- z,hp] at e;cases e
 have hp1:H1 p=some (.dK []):=bt1 _ _ pPt A1;have qp:q≠p:=Y1 hq1 hp1 (λz=>by cases z);have hyl:ys.length=S.wares.length:=by rw[so.1.length_eq,F9]
 have ndy:ys.Nodup:=so.1.nodup_iff.mpr L.nd;have so':Uw (lv S) (S.wares.map (·.name)) ys:=so;have rs1:=RD.ku (Tn tb0 bt1) _ _ (Cn S) (RD.same u0 _ _ rs);have fresh:∀(H':Hp) (b:Addr),(∀b o,b≠p->H1 b=some o->H' b=some o)->H' b=none->b≠p->H b=none:=λH' b kp hb nb=>by
  cases e:H b with
  |none=>rfl
  |some o =>
   by_cases z:b=Pt
   ·obtain⟨u,e2⟩:=tb1.at;rw[z,kp _ _ (Zza pPt) e2] at hb;cases hb
   ·rw[kp _ _ nb (bt1 _ _ z (u0 _ _ e))] at hb;cases hb
 have keepB:∀(H':Hp),(∀b o,b≠p->H1 b=some o->H' b=some o)->But Pt H H':=λH' kp b o nb e=>kp _ _ (A9 e hp) (bt1 _ _ nb (u0 _ _ e));have keepT:∀(H':Hp),(∀b o,b≠p->H1 b=some o->H' b=some o)->Tb H' Pt:=λH' kp=>by
  rcases tb1 with e | ⟨c,e,e2⟩
  ·exact .inl (kp _ _ (Zza pPt) e)
  ·exact .inr ⟨c,kp _ _ (Zza pPt) e,kp _ _ (λz=>by rw[z,hp1] at e2;cases e2) e2⟩
 refine Cj (Eu q _) (yw v p S ys H H1) ⟨_,_,_,_,rfl,⟨[],hp1,rfl,(λnm hn=>by cases hn),λnm hn=>by cases hn⟩,(λw _ hn=>by cases hn),λb o _ e=>e⟩ (λi Z H' _ h=>by obtain⟨_,_,_,_,_,_,_,kp⟩:=h;exact kp _ _ qp hq1) (λi x Z H2 hi hx h=>?_) (λZ H2 h=>?_)
 ·obtain⟨o2,o3,o4,o5,rfl,⟨kvs,hp2,hks,hrow,hap⟩,hne,kp⟩:=h;rw[Zzw] at hx;cases en:ys[i]? with
  |none=>rw[en] at hx;cases hx
  |some nm =>
  rw[en] at hx;have hx:V.str nm=x:=Zzm hx;subst hx;have hny:=Zzt en;have hnm:nm∈S.wares.map (·.name):=so.1.mem_iff.mp hny;have hil:i<ys.length:=(Zzb.mp en).1;have ku2:AV H1 H2:=λb xs e=>kp b _ (Y1 e hp1 (λz=>by cases z)) e;have rs2:=RD.ku ku2 _ _ (Cn S) rs1;walk_at "rd";refine⟨v,S,nm,rfl,rs2,L.ok,.inl ⟨hnm,λt wt hwt ewt rt=>?_⟩⟩;subst ewt;have hcom:=g.com wt hwt;have wb:=g.ws.wb wt hwt;obtain⟨te,d1,d2,rfl,hte,rc,rp⟩:=Cw rt;refine⟨v,.ref te,S,wt,sz,rfl,rs2,rt,g,z0,z1,by have:=hcom.1;lia,λq hq=>(hcom.2 q hq).1.1,λq1 H3 hq1' hq3 sm3=>?_⟩;have pf:BS H3 p S (LR S) (tz S wt.name):=⟨kvs,.inl (sm3 _ _ hp2),λnm' hn' hT=>by
   obtain⟨u,hu',rfl,pp,hpp,e⟩:=hT
   obtain⟨qr,_,_,hv,hl⟩:=hrow u.name (kh L.toLev so' en hu' hpp e)
   exact⟨qr,hv,sm3 _ _ hl,bi L.toLev hu',λx hx=>⟨(zq PL _ x hx).1,Zvc (zq PL _ x hx).2 (by decide +kernel)⟩⟩⟩
  refine⟨v,p,.ref te,S,LR S,wt,sz,rfl,RD.same sm3 _ _ rs2,pf,RD.same sm3 _ _ rt,g,z0,z1,λq2 H4 hq4 hq5 sm4=>?_⟩;have s24:=sm3.trans sm4;have hte4:=s24 _ _ hte;refine⟨_,Ah (j:=2) hte4 rfl,_,Ah (j:=3) hte4 rfl,?_⟩;have lrq:AT wt.floor wt.gives (Bh (AE S) (Js wt)) (Da S (LR S) wt.name) (Bh (AE S) (Js wt)).length=LR S wt.name:=by rw[B4,<- zr L.toLev hwt]
  refine⟨q1,q2,wt.gives,wt.floor,Bh (AE S) (Js wt),Da S (LR S) wt.name,rfl,sm4 _ _ hq3,hq5,by unfold Da;rw[B4,B4],by rw[B4];exact n2,by have:=wb.gives.1;lia,Zyh wb.gives.2 (by decide +kernel),λj hj=>.inl (.inl ⟨by have:=wb.gives.1;lia,by have:=wb.gives.2;lia⟩),λr H5 hr5 hr6 sm5=>?_⟩;rw[lrq] at hr6;have s25:=s24.trans sm5;refine⟨_,Ah (j:=1) (s25 _ _ hte) rfl,r,LR S wt.name,wt.lag,rfl,hr6,by rw[bi L.toLev hwt];exact n2,λH6 sm6=>?_⟩;have s26:=s25.trans sm6;have hr7:=sm6 _ _ hr6;have hp6:=s26 _ _ hp2;have kp6:∀b o,b≠p->H1 b=some o->H6 b=some o:=λb o nb e=>s26 _ _ (kp b o nb e);have rp:r≠p:=λz=>by rw[z,s24 _ _ hp2] at hr5;cases hr5
  have hr0:H r=none:=by
   have h2r:H2 r=none:=AA.free s24 hr5;exact fresh H2 r kp h2r rp
  have hrow6:∀nm'∈ys.take i,∃q':Addr,H q'=none/\q'≠p/\C4 kvs (.inr nm')=some (.ref q')/\H6 q'=some (.lst ((LR S nm').map V.int)):=λnm' hn'=>by obtain⟨q',e1,e2,e3,e4⟩:=hrow nm' hn';exact⟨q',e1,e2,e3,s26 _ _ e4⟩
  cases ea:Ej (LR S wt.name) wt.lag with
  |some d =>
   have hd:=G8 ea;have hdl:d<(LR S wt.name).length:=hd.1;have eg:(LR S wt.name)[d]?=some ((LR S wt.name).getD d 0):=by rw[Zz8,Zzp hdl];rfl
   show if (!decide (V.int (d:Int)=V.non))=true then _ else _
   rw[FT (by rw[FR (λz=>by cases z)];rfl)];refine⟨.int ((LR S wt.name).getD d 0),B3 hr7 (by rw[Zzw,eg];rfl),by decide,λt ht=>?_⟩;have tp:t≠p:=λz=>by rw[z,hp6] at ht;cases ht
   have u7:=A5 (o:=.tup [.str "short",.ref p,.str wt.name,.int d,.int ((LR S wt.name).getD d 0)]) ht;have kp7:∀b o,b≠p->H1 b=some o->upd H6 t (.tup [.str "short",.ref p,.str wt.name,.int d,.int ((LR S wt.name).getD d 0)]) b=some o:=λb o nb e=>u7 _ _ (kp6 b o nb e);exact k t p ys i _ (fresh H6 t kp6 ht tp) hp tp sb ⟨kvs,u7 _ _ hp6,hks,λnm' hn'=>by obtain⟨q',e1,e2,e3,e4⟩:=hrow6 nm' hn';exact⟨q',e1,e2,e3,u7 _ _ e4⟩,hap⟩ hne (keepT _ kp7) (keepB _ kp7) (.inr ⟨wt,d,hwt,en,ea,A1⟩)
  |none =>
   show if (!decide (V.non=V.non))=true then _ else _
   rw[FS (by decide)];have hkl:kvs.length<=64:=by
    have:=congrArg Zug hks;rw[Zzz,Zzz,Zz5] at this;lia
   refine⟨kvs,.inr wt.name,rfl,hp6,Zy6 hkl (by decide),_,_,_,_,rfl,⟨_,A1,?_,λnm' hn'=>?_,λnm1 hn1 nm2 hn2 q1' v1 v2=>?_⟩,λw' hw' hn'=>?_,λb o nb e=>by rw[Ab nb];exact kp6 b o nb e⟩
   ·have nn:C4 kvs (.inr wt.name)=none:=by
     cases e:C4 kvs (.inr wt.name) with
     |none=>rfl
     |some z =>
      have h3:=uw e;rw[hks] at h3;obtain⟨y,hy,e2⟩:=Zzo.mp h3;rw[Zwa e2] at hy;exact absurd hy (Ko ndy en)
    rw[R7 _ nn,Zzi,hks,Zz1,en,Zzi];rfl
   ·rw[Zz1,en] at hn';rcases Zz2.mp hn' with z | z
    ·obtain⟨q',e1,e2,e3,e4⟩:=hrow6 nm' z;refine⟨q',e1,e2,by rw[Jv,FS (λz2=>Ko ndy en (by rw[<- Zwa z2];exact z))];exact e3,by rw[Ab e2];exact e4⟩
    ·have e:nm'=wt.name:=by simpa using z
     subst e;exact⟨r,hr0,rp,by rw[Jv,FT rfl],by rw[Ab rp];exact hr7⟩
   ·have old:∀nm'∈ys.take i,∀q':Addr,C4 (Gp kvs (.inr wt.name) (.ref r)) (.inr nm')=some (.ref q')->C4 kvs (.inr nm')=some (.ref q')/\q'≠r:=λnm' hn' q' e=>by
     rw[Jv,FS (λz2=>Ko ndy en (by rw[<- Zwa z2];exact hn'))] at e;refine⟨e,λz=>?_⟩;obtain⟨q2',_,_,e3,e4⟩:=hrow nm' hn';rw[e] at e3;cases e3;rw[z,AA.free s24 hr5] at e4;cases e4
    have new:∀nm',nm'∈ys.take (i+1)->nm'∈ys.take i\/nm'=wt.name:=λnm' hn'=>by
     rw[Zz1,en] at hn';rcases Zz2.mp hn' with z | z
     ·exact .inl z
     ·exact .inr (by simpa using z)
    rcases new nm1 hn1 with z1 | z1<;>rcases new nm2 hn2 with z2 | z2
    ·exact hap nm1 z1 nm2 z2 q1' (old nm1 z1 q1' v1).1 (old nm2 z2 q1' v2).1
    ·rw[z2,Jv,FT rfl] at v2;cases v2;exact absurd rfl (old nm1 z1 _ v1).2
    ·rw[z1,Jv,FT rfl] at v1;cases v1;exact absurd rfl (old nm2 z2 _ v2).2
    ·rw[z1,z2]
   ·rw[Zz1,en] at hn';rcases Zz2.mp hn' with z | z
    ·exact hne w' hw' z
    ·have e:w'.name=wt.name:=by simpa using z
     rw[Te L.nd hw' hwt e];exact ea
 ·obtain⟨o2,o3,o4,o5,rfl,hrow,hne,kp⟩:=h;rw[Zzz] at hrow hne;walk_at "rd";refine⟨by decide,λt ht=>?_⟩;obtain⟨kvs,hp2,hks,hr2,hap⟩:=hrow;have tp:t≠p:=λz=>by rw[z,hp2] at ht;cases ht
  have u7:=A5 (o:=.tup [.str "plan",.ref p]) ht;have kp7:∀b o,b≠p->H1 b=some o->upd H2 t (.tup [.str "plan",.ref p]) b=some o:=λb o nb e=>u7 _ _ (kp b o nb e);exact k t p ys ys.length _ (fresh H2 t kp ht tp) hp tp sb ⟨kvs,u7 _ _ hp2,hks,λnm' hn'=>by obtain⟨q',e1,e2,e3,e4⟩:=hr2 nm' hn';exact⟨q',e1,e2,e3,u7 _ _ e4⟩,hap⟩ hne (keepT _ kp7) (keepB _ kp7) (.inl ⟨rfl,A1⟩)
end
set_option maxHeartbeats 4000000
section
variable {dk:Dk}{c:Cl}
theorem V2:(Str.ofString " ")=one 32:=by decide +kernel
abbrev Bs(n:Int):Str:=Str.ofString (toString n)
def uc:Key->Prop
 |.inl i=>0<=i/\i<10^577
 |.inr x=>x.length<=1200
theorem nab{n:Int}{B:Nat}(h0:0<=n)(h1:n<(B:Int)):n.natAbs<B:=by lia
theorem Gd{n:Int}(h:0<=n/\n<10^577):n.natAbs<10^577:=nab h.1 (by exact_mod_cast h.2)
theorem El{n:Int}(h:0<=n/\n<10^577):(∀c∈(Bs n).cps.toList,48<=c/\c<=57)/\Zxj (Bs n)=some n/\1<=(Bs n).length/\(Bs n).length<=577:=fz (k:=576) (by decide) h.1 h.2
theorem ma{k:Key}(h:uc k):(AG k).length<=1200:=by
 cases k with
 |inl n=>exact Zzk (El h).2.2.2 (by decide)
 |inr x=>exact h
inductive CI (vs:List V) (H:Hp) (Q:VK) (E:XK):Prop | mk (a:Addr) (ks:List Key) (_:vs=[.ref a]) (_:H a=some (.lst (ks.map kV))) (_:ks.length<=1000) (_:(∀k∈ks,uc k)) (_:∀H',AA H H'->Q (.str (Str.join (one 32) (ks.map AG))) H')
theorem Rg(F:Fun K "shown_words" "shown_words" Lc f fd)(T:Txt mg)(C:Exc K mg c):Ax P w K mg base CX0 1 f fd ["words"] CI:=by
 refine F.go ["words"] ?_ ?_ ?_;walk_at "f";obtain⟨a,ks,rfl,ha,hl,ok,k⟩:=h;have hu:=Aw hr;refine⟨_,(A8 (Ag (Bw Zyl Zxm Zxl Je Ac (A2 (Bi (own:=["word"]) (cap:=[]) rfl (Bz rfl) (At (by decide)) (Dq (pv 0))
 (λ_ _ _ _ _ _=>⟨(Af (i:=0) (FP rfl) rfl (Zzq rfl) (.inr rfl)),Ba,(Au L0 rfl T.Zsa Ep (A2 (pv 0) A0))⟩)) A0)))),?_⟩
 walk_at "rd";refine⟨rfl,_,ha,?_⟩;refine Bo (Eu a _) (Ae (by rw[Zzz];exact hl)) (λH' s'=>s' _ _ ha) ((ks.map AG).map V.str) (by simp) (λi x H' hi hx s' N M hN=>?_) (λH' s' p hp=>?_)
 ·rw[Zzw] at hx;cases e:ks[i]? with
  |none=>rw[e] at hx;cases hx
  |some kk =>
  rw[e] at hx;have hx:kV kk=x:=Zzm hx;subst hx;walk_at "rd";have hN:=hN (.str (AG kk)) H' s' (by rw[Zzw,Zzw,e];rfl);have okk:=ok _ (Zzt e);cases kk with
  |inl n=>exact .inl ⟨n,rfl,Gd okk,hN⟩
  |inr x=>exact .inr ⟨x,rfl,hN⟩
 ·refine⟨p,rfl,_,A1,1200,λy hy=>?_,?_,?_⟩
  ·obtain⟨kk,hk,rfl⟩:=Zzo.mp hy;exact ma (ok kk hk)
  ·rw[V2,Zzz];show _*1200+_*1<=_;lia
  ·rw[V2];exact k _ (s'.trans (A5 hp))
def yd(d:Nat)(n:Int):Str:=Str.join (one 58) [Bs d,Bs n]
def Dp(row:List Int):Nat->List Str
 |0=>[]
 |i+1=>Dp row i++if 0<row.getD i 0 then [yd i (row.getD i 0)] else []
theorem Hh(row:List Int):∀i,(Dp row i).length<=i
 |0=>Zzx _
 |i+1=>by
  rw[Dp,Zzc];have:=Hh row i;split<;>simp<;>lia
def Sd(row:List Int):Prop:=row.length<=30/\∀i,0<=row.getD i 0/\row.getD i 0<10^577
theorem A0x(d:Nat)(n:Int):Str.empty++Bs d ++ ":" ++ Bs n=yd d n:=by
 rw[Str.empty_append];rfl
theorem Ip{d:Nat}(h:d<=30):0<=(d:Int)/\(d:Int)<10^577:=⟨Zvg d,Zyh (b:=30) (by lia) (by decide +kernel)⟩
theorem gc{d:Nat}{n:Int}(hd:d<=30)(h:0<=n/\n<10^577):(yd d n).length<=1200:=by
 have h1:=(El (Ip hd)).2.2.2;have h2:=(El h).2.2.2;show (Bs d++one 58++Bs n).length<=1200;rw[strLen_append,strLen_append];have:(one 58).length=1:=rfl;lia
inductive CZ (vs:List V) (H:Hp) (Q:VK) (E:XK):Prop | mk (a:Addr) (row:List Int) (_:vs=[.ref a]) (_:H a=some (.lst (row.map V.int))) (_:Sd row) (_:∀p H',H p=none->H' p=some (.lst ((Dp row row.length).map V.str))->AA H H'->Q (.ref p) H')
theorem Vu(F:Fun K "days_with" "days_with" Oi f fd)(T:Txt mg)(C:Exc K mg c):Ax P w K mg base CX0 1 f fd ["row"] CZ:=by
 refine F.go ["row"] ?_ ?_ ?_;walk_at "f";obtain⟨a,row,rfl,ha,hrow,k⟩:=h;have hu:=Aw hr;refine⟨_,(A8 (Ag (Bi (own:=["day", "amount"]) (cap:=[]) rfl (Bz rfl) Nu (Vd rfl T.Zqn (A2 (pv 0) A0))
 (λ_ _ _ _ _ _=>⟨(Hr (n:=2) rfl (B8 (Af (i:=0) (FP rfl) rfl (Zzq rfl) (.inr rfl)) (B8 (Af (i:=1) (FP rfl) rfl (Zzq rfl) (.inr rfl)) E9))),(Mh (An Oq (pv 1) A6 (Ao _))),(Ve (Mi (pv 0) (Mj (Mi (pv 1) Pn))))⟩)))),?_⟩
 walk_at "rd";have hl:=hrow.1;refine⟨_,ha,?_⟩;refine aq (qu a _) (Ae (by rw[Zzz];lia)) (λi acc H'=>acc=(Dp row i).map V.str/\AA H H') ⟨rfl,AA.refl _⟩ (λi acc H' _ h=>h.2 _ _ ha) (λi acc H' h=>by rw[h.1,Zzz];exact Hh row i) (λi us p acc H' hi hy h hp=>?_) (λacc H' h p hp=>?_)
 ·obtain⟨rfl,s'⟩:=h;obtain⟨y,ey,rfl⟩:=hy;rw[Ig ey];rw[Zzz] at hi;refine gT2 ?_;have s2:=s'.trans (A5 (o:=.tup [.int i,.int (row.getD i 0)]) hp);generalize upd H' p (.tup [.int i,.int (row.getD i 0)])=H2 at s2;walk_at "rd";have hn:=hrow.2 i;refine Du (λc=>?_) (λc=>?_)
  ·have c:=FP c
   have hi30:i<=30:=by lia
   have l1:(Str.ofString (toString (i:Int))).length<=577:=(El (Ip hi30)).2.2.2;have l3:=gc hi30 hn;rw[A0x,Str.empty_append,strLen_append];refine⟨Gd (Ip hi30),by lia,by show _+1<=_;lia,Gd hn,by lia,by lia,?_,s2⟩;rw[Dp,FT c,Zzi];rfl
  ·have c:¬ 0<row.getD i 0:=λz=>c (FQ z)
   exact⟨by rw[Dp,FS c,Zyw],s2⟩
 ·obtain⟨rfl,s'⟩:=h;rw[Zzz] at *;exact k p _ (AA.free s' hp) A1 (s'.trans (A5 hp))
end
set_option maxHeartbeats 4000000
section
variable {dk:Dk}{c:Cl}
def Em(S:Sh)(nm:Str):List Str:=Dp (LR S nm) (LR S nm).length
def Yj(S:Sh)(nm:Str):Bool:=!(Em S nm).isEmpty
def ee(S:Sh)(nm:Str):Str:=Str.join (one 32) (nm::Em S nm)
def Io(S:Sh)(ys:List Str):List Str:=(ys.filter (Yj S)).map (ee S)
def A07(S:Sh)(w:Wr)(d:Nat):Str:=Str.join (one 32) ["short",w.name,Bs d,Bs ((LR S w.name).getD d 0)]
inductive Es (S:Sh) (y:Str):Prop | mk (ys:List Str) (i:Nat) (_:N9 (lv S) (Bl S) ys) (_:(∀w∈S.wares,w.name∈ys.take i->Ej (LR S w.name) w.lag=none)) (_:((i=ys.length/\y=Str.join (one 10) (Io S ys))\/∃(w:Wr) (d:Nat),w∈S.wares/\ys[i]?=some w.name/\Ej (LR S w.name) w.lag=some d/\y=A07 S w d))
theorem Sg{sz:Int}(g:AJ sz S)(z0:0<sz)(z1:sz<=30){w:Wr}(hw:w∈S.wares):Sd (LR S w.name):=by
 refine⟨?_,λi=>?_⟩
 ·rw[bi (Mz g).toLev hw];unfold AE;have:=dt (ns:=S.wants.map λu=>u.2.1) z0 λx hx=>by obtain⟨u,hu,rfl⟩:=Zzo.mp hx;exact(g.wants.2 u hu).2.1.2
  lia
 rw[Zz8];cases e:(LR S w.name)[i]? with
 |none=>exact⟨Zys _,by decide +kernel⟩
 |some x =>
  have h1:=bj (fe g) S.wares.length w.name x (Zzt e);have h2:(10:Nat)^(45*S.wares.length)<10^577:=Nat.pow_lt_pow_right (by decide) (by have:=g.len.2;lia);have h3:(10:Int)^(45*S.wares.length)<10^577:=by exact_mod_cast h2
  exact⟨h1.1,Zyh h1.2 h3⟩
theorem Ll(h:Sd row):∀i,i<=row.length->∀x∈Dp row i,∃(d:Nat) (n:Int),d<=30/\(0<=n/\n<10^577)/\x=yd d n
 |0,_,x,hx=>by cases hx
 |i+1,hi,x,hx=>by
  rw[Dp] at hx;rcases Zz2.mp hx with z | z
  ·exact Ll h i (by lia) x z
  ·have:=h.1
   split at z
   ·exact⟨i,_,by lia,h.2 i,Zzr.mp z⟩
   ·cases z
theorem Ky(h:Sd row)(hx:x∈Dp row row.length):x.length<=1200:=by
 obtain⟨d,n,h1,h2,rfl⟩:=Ll h _ (Zzx _) x hx;exact gc h1 h2
theorem Cq(h:Aq x=true):x.length<=8:=by
 unfold Aq at h;simp only[Zyy,decide_eq_true_eq] at h;exact h.1.2
theorem Y8{sz:Int}(g:AJ sz S)(z0:0<sz)(z1:sz<=30){w:Wr}(hw:w∈S.wares):(ee S w.name).length<=40000:=by
 have r:=Sg g z0 z1 hw;have h1:=Hh (LR S w.name) (LR S w.name).length;have h2:=r.1;have:=G7 (sep:=one 32) (B:=1200) (xs:=w.name::Em S w.name) λy hy=>by
  rcases Zzu.mp hy with rfl | hy
  ·exact Zzk (Cq (g.ws.txt w hw)) (by decide)
  ·exact Ky r hy
 rw[Zz3,show (one 32).length=1 from rfl] at this;have h3:(Em S w.name).length<=30:=Zzk h1 h2;show (Str.join (one 32) (w.name::Em S w.name)).length<=40000;lia
def Z9(S:Sh)(w:Wr)(d:Nat):List Key:=[.inr "short",.inr w.name,.inl d,.inl ((LR S w.name).getD d 0)]
theorem mf{sz:Int}(g:AJ sz S)(z0:0<sz)(z1:sz<=30){w:Wr}(hw:w∈S.wares){d:Nat}(hed:Ej (LR S w.name) w.lag=some d):∀k∈Z9 S w d,uc k:=λk hk=>by
 have r:=Sg g z0 z1 hw;have h1:=(G8 (show Dg (LR S w.name) w.lag (LR S w.name).length=some d from hed)).1;have h2:=r.1;simp only[Z9,Zzu,Zzf,or_false] at hk;rcases hk with rfl | rfl | rfl | rfl
 ·show _<=1200
  decide
 ·exact Zzk (Cq (g.ws.txt w hw)) (by decide)
 ·exact Ip (by lia)
 ·exact r.2 d
inductive zk (v:V) (t q:Addr) (S:Sh) (ys:List Str) (H:Hp) (i:Nat) (Z:St) (H':Hp):Prop | mk (o3 o4:Option V) (_:Z=[some v,some (.ref t),some (.ref q),o3,o4]) (_:H' q=some (.lst ((Io S (ys.take i)).map V.str))) (_:∀b o,b≠q->H b=some o->H' b=some o)
inductive L9 (Pt:Addr) (vs:List V) (H:Hp) (Q:VK) (E:XK):Prop | mk (v:V) (S:Sh) (sz:Int) (_:vs=[v]) (_:RD H S.d v) (_:AJ sz S) (_:0<sz) (_:sz<=30) (_:Tb H Pt) (_:∀y H',Es S y->Tb H' Pt->But Pt H H'->Q (.str y) H')
theorem Sn(F:Fun K "shown_plan" "shown_plan" Ly f fd)(T:Txt mg)(C:Exc K mg c)(Zrk:Has P w K mg base "planned" 7 ["shop"] (Lg Pt))(Zrp:Has P w K mg base "shown_words" 1 ["words"] CI)(Zsm:Has P w K mg base "worked" 6 ["shop"] (Kr Pt))(Zqe:Has P w K mg base "days_with" 1 ["row"] CZ):Ax P w K mg base CX0 8 f fd ["shop"] (L9 Pt):=by
 refine F.go ["shop", "found", "rows", "name", "days"] ?_ ?_ ?_;walk_at "f";obtain⟨v,S,sz,rfl,rs,g,z0,z1,tb,k⟩:=h;have hu:=Aw hr;refine⟨_,(A3 (Al (i:=1) Nd rfl (Zzq rfl) (A7 Zrk hr.z rfl (A2 (pv 0) A0)))
 (A3 (B0 (An (Bg hu) (Aa hu (pv 1) A6 (λ_ _=>rfl)) Ac (Ao _)) (A8 (Ag (A7 Zrp hr.z rfl (A2 (Ai Kb (B7 (A2 Ac A0)) (Au av rfl T.Zpk gi (A2 (Bj Ks (pv 1) (Br A6) Cc) A0))) A0)))) Am)
 (A3 (Al (i:=2) Nd rfl (Zzq rfl) (B7 A0))
 (A3 (Bd PassesOwn.never rfl (Dq (A7 Zsm hr.z rfl (A2 (pv 0) A0))) (Af (i:=3) Nd rfl (Zzq rfl))
 (A3 (Al (i:=4) Nd rfl (Zzq rfl) (A7 Zqe hr.z rfl (A2 (Aa hu (Aa hu (pv 1) A6 (λ_ _=>rfl)) (pv 3) (λ_ _=>rfl)) A0)))
 (A8 (B0 (d6 (pv 4)) (A8 (Bf (Bw Zz7 Zyr Zyq By (pv 2) (A2 (A7 Zrp hr.z rfl (A2 (Ai Kb (B7 (A2 (pv 3) A0)) (pv 4)) A0)) A0)))) Am))))
 (A8 (Ag (Bw Zyl Zxm Zxl Je Ac (A2 (pv 2) A0)))))))),?_⟩
 walk_at "rd";have L:=Mz g;refine⟨v,S,sz,rfl,rs,g,z0,by lia,tb,λt p ys i H1 ht hp tp sb ra hne tb1 bt1 hcase=>?_⟩;rcases hcase with ⟨hi,h2⟩ | ⟨wr,d,hwr,hi,hed,h2⟩
 rotate_left
 ·refine⟨_,Ah (j:=0) h2 rfl,rfl,?_⟩;rw[FT (by decide)];refine⟨by decide,λq hq=>⟨t,rfl,_,A5 hq _ _ h2,λq2 H2 hq2 s2 f2=>⟨_,.inr hq2,λq3 hq3=>⟨_,A5 hq3 _ _ (s2 _ _ A1),_,A1,(by show 4<=sizeLine;decide),λq4 hq4=>?_⟩⟩⟩⟩;have s12:=(A5 (o:=.lst [.str "short"]) hq).trans s2;exact⟨q4,Z9 S wr d,rfl,A1,(by show 4<=1000;decide),mf g z0 z1 hwr hed,λH5 s5=>k _ _ ⟨ys,i,sb,hne,.inr ⟨wr,d,hwr,hi,hed,rfl⟩⟩ (tb1.same (s12.trans ((A5 hq3).trans ((A5 hq4).trans s5)))) (bt1.trans (Iw (s12.trans ((A5 hq3).trans ((A5 hq4).trans s5)))))⟩
 refine⟨_,Ah (j:=0) h2 rfl,rfl,?_⟩;rw[FS (by decide)];refine⟨Zym _,λq hq=>?_⟩;have u1:=A5 (o:=.lst []) hq;refine⟨v,S,rfl,RD.same u1 _ _ (RD.ku (Tn tb bt1) _ _ (Cn S) rs),L,tb1.same u1,λp2 ys2 H2 fp2 hp2 _ sb2 tb2 bt2=>⟨p2,rfl,_,hp2,?_⟩⟩;rw[Ng sb2 sb] at hp2 ⊢;subst hi;rw[Zz4] at ra hne;obtain⟨kvs,hkv,hk,rows,ap⟩:=ra;have qPt:q≠Pt:=λz=>by obtain⟨u,e⟩:=tb1.at;rw[<- z,hq] at e;cases e
 have tPt:t≠Pt:=Jn tb1 h2 λu z=>by cases z
 have pPt:p≠Pt:=Jn tb1 hkv λu z=>by cases z
 have k12:∀b o,b≠Pt->H1 b=some o->H2 b=some o:=λb o nb e=>bt2 b o nb (u1 b o e);have q1:∀{b o},H1 b=some o->b≠q:=λe=>A9 e hq;have q2p:p2≠q:=λz=>by rw[z,A1] at fp2;cases fp2
 have mem:∀y∈ys,∃w∈S.wares,w.name=y:=λy hy=>Zzo.mp ((Hg sb).1.mem_iff.mp hy);have len:ys.length<=12:=by rw[(Hg sb).1.length_eq,F9];exact g.len.2
 have lines:∀j,(Io S (ys.take j)).length<=12:=λj=>by
  unfold Io;rw[Zzz];exact Zzk (Zxw _ _) (by rw[Zz5];lia)
 refine Cj (Eu p2 _) (zk v t q S ys H2) ⟨_,_,rfl,bt2 _ _ qPt A1,λ_ _ _ e=>e⟩ (λj Z H' _ h=>by obtain⟨_,_,_,_,e⟩:=h;exact e _ _ q2p hp2) (λj x Z H3 hj hx h=>?_) (λZ H3 h=>?_)
 ·obtain⟨o3,o4,rfl,hq3,k3⟩:=h;rw[Zzw] at hx;cases en:ys[j]? with
  |none=>rw[en] at hx;cases hx
  |some nm =>
  rw[en] at hx;have hx:V.str nm=x:=Zzm hx;subst hx;have hm:=Zzt en;obtain⟨w',hw',rfl⟩:=mem nm hm;obtain⟨la,_,_,e1,e2⟩:=rows w'.name hm;have laPt:la≠Pt:=Jn tb1 e2 λu z=>by cases z
  have k13:∀b o,b≠Pt->H1 b=some o->H3 b=some o:=λb o nb e=>k3 b o (q1 e) (k12 b o nb e);have r:=Sg g z0 z1 hw';have et:ys.take (j+1)=ys.take j++[w'.name]:=by rw[Zz1,en];rfl
  have dl:(Em S w'.name).length<=30:=Zzk (Hh _ _) r.1;walk_at "rd";refine⟨_,Ah (j:=1) (k13 _ _ tPt h2) rfl,_,Lj (.inl (k13 _ _ pPt hkv)) e1,la,LR S w'.name,rfl,k13 _ _ laPt e2,r,λp4 H4 fp4 hp4 s4=>⟨p4,rfl,_,hp4,?_⟩⟩;have q4:p4≠q:=λz=>by rw[z,hq3] at fp4;cases fp4
  have k24:∀b o,b≠q->H2 b=some o->H4 b=some o:=λb o nb e=>s4 b o (k3 b o nb e);have emp:(!((Em S w'.name).map V.str).isEmpty)=Yj S w'.name:=by unfold Yj;cases Em S w'.name<;>rfl
  rw[show (!(Zxp V.str (Dp (LR S w'.name) (LR S w'.name).length)).isEmpty)=Yj S w'.name from emp];refine Du (λc=>?_) (λc=>?_)
  ·refine⟨Ck (s4 _ _ hq3),by decide,λp5 hp5=>?_⟩;have u5:=A5 (o:=.lst [.str w'.name]) hp5;refine⟨p4,rfl,_,A1,_,u5 _ _ hp4,Ae (by rw[Zzz];show 1+(Em S w'.name).length<=1000;lia),λp6 hp6=>?_⟩;have u6:=u5.trans (A5 (o:=.lst ([.str w'.name]++(Em S w'.name).map V.str)) hp6);refine⟨p6,.inr w'.name::(Em S w'.name).map .inr,rfl,by rw[Zz9,Zyd];exact A1,by rw[Zz3,Zzz];lia,λkk hkk=>?_,λH7 s7=>?_⟩
   ·rcases Zzu.mp hkk with rfl | hkk
    ·exact Zzk (Cq (g.ws.txt w' hw')) (by decide)
    ·obtain⟨x,hx,rfl⟩:=Zzo.mp hkk;exact Ky r hx
   have s47:=u6.trans s7;refine⟨_,s47 _ _ (s4 _ _ hq3),Zy6 (m:=12) (by rw[Zzz];exact lines j) (by decide),_,_,rfl,?_,λb o nb e=>by rw[Ab nb];exact s47 _ _ (k24 b o nb e)⟩;rw[A1,et];unfold Io;rw[Zxu,Zx0,FT c,Zup,Zzi,Zzi,Zz9,Zyd (f:=Zy9)];show some (HO.lst (_++[V.str (Str.join (one 32) (w'.name::(Em S w'.name).map id))]))=_;rw[List.map_id];rfl
  ·refine⟨_,_,rfl,?_,k24⟩;rw[s4 _ _ hq3,et];unfold Io;rw[Zxu,Zx0,FS c,Zup,Zyw]
 ·obtain⟨o3,o4,rfl,hq3,k3⟩:=h;rw[Zzz,Zz4] at hq3;walk_at "rd";have ll:=lines ys.length;rw[Zz4] at ll;have n10:Str.ofString "\n" = one 10:=by decide +kernel
  rw[n10];refine⟨rfl,_,hq3,40000,λy hy=>?_,?_,k _ _ ⟨ys,ys.length,sb,by rw[Zz4];exact hne,.inl ⟨rfl,rfl⟩⟩ ?_ λb o nb e=>?_⟩
  ·obtain⟨nm,hnm,rfl⟩:=Zzo.mp hy;obtain⟨w',hw',rfl⟩:=mem nm (Zx5.mp hnm).1;exact Y8 g z0 z1 hw'
  ·show _*40000+_*1<=_
   lia
  ·rcases tb2 with e | ⟨c,e,e2⟩
   ·exact .inl (k3 _ _ (Zza qPt) e)
   ·exact .inr ⟨c,k3 _ _ (Zza qPt) e,k3 _ _ (λz=>by rw[z,bt2 _ _ qPt A1] at e2;cases e2) e2⟩
  ·have e1:=bt1 b o nb e
   exact k3 b o (q1 e1) (k12 b o nb e1)
end
set_option maxHeartbeats 4000000
section
variable {dk:Dk}{c:Cl}
def AL(w:Wr):R3:=("ware",w.name,[.inl w.lag,.inl w.gives,.inl w.floor,.inl w.stock])
def Kj(n:Str)(c:Int×Int):R3:=("coming",n,[.inl c.1,.inl c.2])
def Gh(n:Str)(p:Str×Int):R3:=("part",n,[.inr p.1,.inl p.2])
def BB(u:Wt):R3:=("want",u.1,[.inl u.2.1,.inl u.2.2])
def txv(r:R3):V:=.str (G2 (r3 r))
def Dt(w:Wr):List R3:=AL w::(w.coming.map (Kj w.name)++w.parts.map (Gh w.name))
def Ca(S:Sh):List R3:=S.wares.flatMap Dt++S.wants.map BB
theorem A10{i:Int}(h:Iq (.inl i)):i.natAbs<10^577:=by
 have h:0<=i/\i<10^60:=h;have:i.natAbs<10^60:=by lia
 exact Nat.lt_trans this (by decide +kernel)
theorem c8(sd:SD0 S){w:Wr}(hw:w∈S.wares):Gm (r3 (AL w))/\(∀c∈w.coming,Gm (r3 (Kj w.name c)))/\∀p∈w.parts,Gm (r3 (Gh w.name p)):=by
 obtain⟨nm,wb,pn⟩:=sd.wv w hw;have nm:Iq (.inr w.name):=nm;have big:(10:Int)^42<10^60:=by decide +kernel
 have big2:(10:Int)^41<10^60:=by decide +kernel
 refine⟨⟨by show (_,_)∈Ht;unfold Ht;simp[r3,AL,En],λk hk=>?_⟩,λc hc=>⟨by show (_,_)∈Ht;unfold Ht;simp[r3,Kj,En],λk hk=>?_⟩,λp hp=>⟨by show (_,_)∈Ht;unfold Ht;simp[r3,Gh,En],λk hk=>?_⟩⟩
 ·simp only[r3,AL,Zzu,Zzf,or_false] at hk;obtain⟨h1,h2,h3,h4,_⟩:=wb;rcases hk with rfl | rfl | rfl | rfl | rfl
  ·exact nm
  ·exact⟨h1.1,by lia⟩
  ·exact⟨by lia,by lia⟩
  ·exact⟨h3.1,by lia⟩
  ·exact⟨h4.1,by lia⟩
 ·simp only[r3,Kj,Zzu,Zzf,or_false] at hk;have h:=wb.2.2.2.2.2.2.2.2 c hc;rcases hk with rfl | rfl | rfl
  ·exact nm
  ·exact⟨h.1.1,by lia⟩
  ·exact⟨h.2.1,by lia⟩
 ·simp only[r3,Gh,Zzu,Zzf,or_false] at hk;have h:=wb.2.2.2.2.2.1 p hp;rcases hk with rfl | rfl | rfl
  ·exact nm
  ·exact pn p hp
  ·exact⟨by lia,by lia⟩
theorem bo(sd:SD0 S){u:Wt}(hu:u∈S.wants):Gm (r3 (BB u)):=by
 have h:=sd.us u hu;have big2:(10:Int)^41<10^60:=by decide +kernel
 refine⟨by show (_,_)∈Ht;unfold Ht;simp[r3,BB,En],λk hk=>?_⟩;simp only[r3,BB,Zzu,Zzf,or_false] at hk;rcases hk with rfl | rfl | rfl
 ·exact h.1
 ·exact⟨h.2.1.1,by lia⟩
 ·exact⟨h.2.2.1,by lia⟩
theorem U3{w:Wr}{r:R3}(h:r∈Dt w):r=AL w\/(∃c∈w.coming,r=Kj w.name c)\/∃p∈w.parts,r=Gh w.name p:=by
 rcases Zzu.mp h with h | h
 ·exact .inl h
 rcases Zz2.mp h with h | h
 ·obtain⟨c,hc,e⟩:=Zzo.mp h;exact .inr (.inl ⟨c,hc,e.symm⟩)
 ·obtain⟨c,hc,e⟩:=Zzo.mp h;exact .inr (.inr ⟨c,hc,e.symm⟩)
theorem Qw{w:Wr}{r:R3}(h:r∈Dt w):r.2.1=w.name:=by
 rcases U3 h with rfl | ⟨c,_,rfl⟩ | ⟨c,_,rfl⟩<;>rfl
theorem Hk(sd:SD0 S):∀r∈Ca S,Gm (r3 r):=λr hr=>by
 rcases Zz2.mp hr with h | h
 ·obtain⟨w,hw,h⟩:=List.mem_flatMap.mp h;obtain⟨o1,o2,o3⟩:=c8 sd hw;rcases U3 h with rfl | ⟨c,hc,rfl⟩ | ⟨c,hc,rfl⟩
  ·exact o1
  ·exact o2 c hc
  ·exact o3 c hc
 ·obtain⟨u,hu,rfl⟩:=Zzo.mp h;exact bo sd hu
structure BR(p:Addr)(H0 H:Hp)(rs:List R3):Prop where
 hp:H p=some (.lst (rs.map txv))
 nw:H0 p=none
 s:AA H0 H
theorem BR.same{H0:Hp}{rs:List R3}(h:BR p H0 H rs)(s:AA H H'):BR p H0 H' rs:=⟨s _ _ h.hp,h.nw,h.s.trans s⟩
theorem BR.put{H0:Hp}{rs:List R3}(h:BR p H0 H rs)(xs:List R3):BR p H0 (upd H p (.lst (rs.map txv++xs.map txv))) (rs++xs) :=
 ⟨by rw[Zzi];exact A1,h.nw,λa u e=>by rw[Ab (A9 e h.nw)];exact h.s a u e⟩
inductive DA (vs:List V) (H:Hp) (Q:VK) (E:XK):Prop | mk (r:Str×List Key) (t:Addr) (_:vs=[.str r.1,.ref t]) (_:H t=some (.tup (r.2.map kV))) (_:Gm r) (_:∀H',AA H H'->Q (.str (G2 r)) H')
theorem Vm(F:Fun K "shown_row" "shown_row" Ob f fd)(T:Txt mg)(C:Exc K mg c):Ax P w K mg base CX0 1 f fd ["sort", "members"] DA:=by
 refine F.go ["sort", "members"] ?_ ?_ ?_;walk_at "f";obtain⟨r,t,rfl,ht,ok,k⟩:=h;have hu:=Aw hr;refine⟨_,(A8 (Ag (Bw Zyl Zxm Zxl Je Ac (A2 (Ai Kb (B7 (A2 (pv 0) A0)) (Bi (own:=["member"]) (cap:=[]) rfl (Bz rfl) (At (by decide)) (D9 (pv 1))
 (λ_ _ _ _ _ _=>⟨(Af (i:=0) (FP rfl) rfl (Zzq rfl) (.inr rfl)),Ba,(Au L0 rfl T.Zsa Ep (A2 (pv 0) A0))⟩))) A0)))),?_⟩
 walk_at "rd";refine⟨rfl,by decide,λp hp=>?_⟩;have u:=A5 (o:=.lst [V.str r.1]) hp;have ht':=u _ _ ht;have hl5:=(Ei ok).2.2;refine⟨_,ht',Bo (E5 t _) (Ae (by rw[Zzz];lia)) (λH' s'=>s' _ _ ht') ((r.2.map AG).map V.str) (by rw[Zzz,Zzz,Zzz]) (λj y H' hj hy s' N M hN=>?_) (λH2 s2 q hq=>?_)⟩
 ·rw[Zzw] at hy;cases ek:r.2[j]? with
  |none=>rw[ek] at hy;cases hy
  |some x =>
  rw[ek] at hy;have hy:kV x=y:=Zzm hy;subst hy;have ck:=ok.cells x (Zzt ek);have ev:((r.2.map AG).map V.str)[j]?=some (V.str (AG x)):=by rw[Zzw,Zzw,ek];rfl
  walk_at "rd";cases x with
  |inl n=>exact .inl ⟨n,rfl,A10 ck,hN _ _ s' ev⟩
  |inr x=>exact .inr ⟨x,rfl,hN _ _ s' ev⟩
 ·have u3:=A5 (o:=.lst ((r.2.map AG).map V.str)) hq
  refine⟨q,rfl,_,u3 _ _ (s2 _ _ A1),_,A1,Ae (by simp only[Zzz,Zz3,Zxo];lia),λp4 hp4=>⟨r.1::r.2.map AG,A1,60,Kl ok (P:=λx=>x.length<=60) (Ei ok).2.1 λk hk=>(Ih (ok.cells k hk)).2,?_,?_⟩⟩
  ·rw[V2,Zz3,Zzz];show (r.2.length+1)*60+(r.2.length+1)*1<=16777216;lia
  ·rw[V2];exact k _ (((u.trans s2).trans u3).trans (A5 hp4))
theorem Nl(sd:SD0 S):∀{ws:List Wr},(∀w∈ws,w∈S.wares)->(ws.flatMap Dt).length<=19*ws.length
 |[],_=>Zzx _
 |w::r,h=>by
  have ih:=Nl sd (ws:=r) λx hx=>h x (Zzl _ hx);obtain⟨_,_,_,_,h5,_,_,h8,_⟩:=(sd.wv w (h w Zzj)).2.1;rw[List.flatMap_cons,Zzc,Zz3];have:(Dt w).length=1+(w.coming.length+w.parts.length):=by
   unfold Dt;simp only[Zzc,Zzz,Zz3];lia
  lia
theorem U4(sd:SD0 S)(i:Nat):((S.wares.take i).flatMap Dt).length<=228:=by
 have:=Nl sd (ws:=S.wares.take i) λw hw=>Zwp hw;have hn:=sd.n;rw[Zz5] at this;lia
inductive A2a (v:V) (S:Sh) (p:Addr) (H:Hp) (i:Nat) (Z:St) (H':Hp):Prop | mk (o:Option V) (_:Z=[some v,some (.ref p),o]) (_:BR p H H' ((S.wares.take i).flatMap Dt))
theorem n10:Str.ofString "\n" = one 10:=by decide +kernel
theorem j7{rs:List R3}:(Str.ofString "\n").join (rs.map λr=>G2 (r3 r))=Ew rs:=by rw[n10];rfl
theorem xf{rs:List R3}(h:∀r∈rs,Gm (r3 r))(n:rs.length<=1000):(∀y∈rs.map λr=>G2 (r3 r),y.length<=400)/\(rs.map λr=>G2 (r3 r)).length*400+(rs.map λr=>G2 (r3 r)).length*(Str.ofString "\n").length<=16777216:=by
 refine⟨λy hy=>?_,?_⟩
 ·obtain⟨r,hr,rfl⟩:=Zzo.mp hy;exact V4 (h r hr)
 ·rw[n10,Zzz];show rs.length*400+rs.length*1<=16777216;lia
theorem uy(rs:List R3):rs.map txv=(rs.map λr=>G2 (r3 r)).map V.str:=by rw[Zyd];rfl
inductive BP (vs:List V) (H:Hp) (Q:VK) (E:XK):Prop | mk (v:V) (S:Sh) (_:vs=[v]) (_:RD H S.d v) (_:SD0 S) (_:∀H',AA H H'->Q (.str (Ew (Ca S))) H')
theorem Sm(F:Fun K "shown_shop" "shown_shop" Lx f fd)(T:Txt mg)(C:Exc K mg c)(Zsb:Has P w K mg base "shown_row" 1 ["sort", "members"] DA):Ax P w K mg base CX0 2 f fd ["shop"] BP:=by
 refine F.go ["shop", "rows", "ware"] ?_ ?_ ?_;walk_at "f";obtain⟨v,S,rfl,rS,sd,k⟩:=h;have hu:=Aw hr;refine⟨_,(A3 (Al (i:=1) Nd rfl (Zzq rfl) (B7 A0))
 (A3 (Bd PassesOwn.never rfl (D9 (Aa hu (pv 0) A6 (λ_ _=>rfl))) (Af (i:=2) Nd rfl (Or.inr rfl))
 (A3 (Bf (Bw Zz7 Zyr Zyq By (pv 1) (A2 (A7 Zsb hr.z rfl (A2 Ac (A2 (Bj Ks (pv 2) Cc (Br (Ak rfl T.Zs6))) A0))) A0)))
 (A3 (Bf (Bw Zz7 Zwk Zwj Kv (pv 1) (A2 (Bi (own:=["arrival"]) (cap:=[2]) rfl (Bz rfl) (At (by decide)) (D9 (Aa hu (pv 2) (Ak rfl T.Zs6) (λ_ _=>rfl)))
 (λ_ _ _ _ _ _=>⟨(Af (i:=0) (FP rfl) rfl (Zzq rfl) (.inr rfl)),Ba,(A7 Zsb hr.z rfl (A2 Ac (A2 (Ai G3 (As (A2 (Aa hu (pv 1) (Ak rfl T.Zti) (λ_ _=>rfl)) A0)) (pv 0)) A0)))⟩)) A0)))
 (A8 (Bf (Bw Zz7 Zwk Zwj Kv (pv 1) (A2 (Bi (own:=["part"]) (cap:=[2]) rfl (Bz rfl) (At (by decide)) (D9 (Aa hu (pv 2) (Ak rfl T.Zrl) (λ_ _=>rfl)))
 (λ_ _ _ _ _ _=>⟨(Af (i:=0) (FP rfl) rfl (Zzq rfl) (.inr rfl)),Ba,(A7 Zsb hr.z rfl (A2 Ac (A2 (Ai G3 (As (A2 (Aa hu (pv 1) (Ak rfl T.Zti) (λ_ _=>rfl)) A0)) (pv 0)) A0)))⟩)) A0)))))))
 (A3 (Bf (Bw Zz7 Zwk Zwj Kv (pv 1) (A2 (Bi (own:=["want"]) (cap:=[]) rfl (Bz rfl) (At (by decide)) (D9 (Aa hu (pv 0) A6 (λ_ _=>rfl)))
 (λ_ _ _ _ _ _=>⟨(Af (i:=0) (FP rfl) rfl (Zzq rfl) (.inr rfl)),Ba,(A7 Zsb hr.z rfl (A2 Ac (A2 (pv 0) A0)))⟩)) A0)))
 (A8 (Ag (Bw Zyl Zxm Zxl Je Ac (A2 (pv 1) A0))))))),?_⟩
 walk_at "rd";obtain⟨a,b,c,ws,us,rfl,ha,hb,hc,rw3,ru3⟩:=Bq rS;have hwl:=Ap rw3;have hul:=Ap ru3;have hn:=sd.n;refine⟨by decide,λp hp=>?_⟩;have u:=A5 (o:=.lst []) hp;refine⟨_,Ah (j:=0) (u _ _ ha) rfl,b,rfl,ws,u _ _ hb,Cj (E5 b _) (A2a (.ref a) S p H) ⟨none,rfl,⟨A1,hp,u⟩⟩ (λi Z H' _ h=>by obtain⟨_,_,o⟩:=h;exact o.s _ _ hb) (λi x Z H4 hi hx h=>?_) (λZ H4 h=>?_)⟩
 ·obtain⟨o,rfl,one⟩:=h;obtain⟨w',ew,rw'⟩:=B2 rw3 hx;obtain⟨aw,cv,pv,rfl,haw,rc,rp'⟩:=Cw rw';have hw':=Zzt ew;obtain⟨okw,okc,okp⟩:=c8 sd hw';have et:S.wares.take (i+1)=S.wares.take i++[w']:=by rw[Zz1,ew];rfl
  have pl:=U4 sd i;have c12:=(sd.wv w' hw').2.1.2.2.2.2.2.2.2.1;have p6:=(sd.wv w' hw').2.1.2.2.2.2.1;refine Ny (λZ' H'=>Z'=[some (.ref a),some (.ref p),some (.ref aw)]/\BR p H H' ((S.wares.take i).flatMap Dt++[AL w'])) (λZ' H5 hM=>?_) (λKK hK=>?_);rotate_left
  ·walk_at "rd";refine⟨Ck one.hp,_,one.s _ _ haw,λq2 H5 hq2 s5 _=>?_⟩;have ecut:∀x1 x2 x3 x4 x5 x6 x7:V,Ds [x1,x2,x3,x4,x5,x6,x7] none (some 5)=[x1,x2,x3,x4,x5]:=λx1 x2 x3 x4 x5 x6 x7=>by unfold Ds;rw[Qu (by decide)];rfl
   rw[ecut] at hq2;refine⟨r3 (AL w'),q2,rfl,hq2,okw,λH6 s6=>⟨_,((one.same s5).same s6).hp,Zze (m:=1000) (by rw[Zzz];lia) (Ae (Zzx _)),hK _ _ ⟨rfl,((one.same s5).same s6).put [AL w']⟩⟩⟩
  obtain⟨rfl,one5⟩:=hM;refine Ny (λZ' H'=>Z'=[some (.ref a),some (.ref p),some (.ref aw)]/\BR p H H' (((S.wares.take i).flatMap Dt++[AL w'])++w'.coming.map (Kj w'.name))) (λZ' H6 hM=>?_) (λKK hK=>?_);rotate_left
  ·walk_at "r0";obtain⟨ca,cvs,rfl,hca,rcs⟩:=RD.tup_of (RD.same one5.s _ _ rc);have hcl:=Ap rcs;refine⟨Ck one5.hp,_,Ah (j:=5) (one5.s _ _ haw) rfl,ca,rfl,cvs,hca,?_⟩;refine Bo (E5 ca _) (Ae (by lia)) (λH' s'=>s' _ _ hca) ((w'.coming.map (Kj w'.name)).map txv) (by rw[Zzz,Zzz,hcl]) (λj y H' hj hy s' N M hN=>?_) (λH6 s6 q3 hq3=>?_)
   ·obtain⟨cc,ec,rcc⟩:=B2 rcs hy;obtain⟨cca,rfl,hcca⟩:=bc rcc;walk_at "rd";refine⟨_,Ah (j:=0) (s' _ _ (one5.s _ _ haw)) rfl,by decide,λq4 hq4=>⟨_,A1,_,A5 hq4 _ _ (s' _ _ hcca),by show 3<=sizeLine;decide,λq5 H8 hq5 s8 _=>⟨r3 (Kj w'.name cc),q5,rfl,hq5,okc cc (Zzt ec),λH9 s9=>hN _ _ (((s'.trans (A5 hq4)).trans s8).trans s9) ?_⟩⟩⟩;rw[Zzw,Zzw,ec];rfl
   ·have v3:=A5 (o:=.lst ((w'.coming.map (Kj w'.name)).map txv)) hq3
    exact⟨q3,rfl,_,v3 _ _ (s6 _ _ one5.hp),_,A1,Ae (by simp only[Zzz,Zzc,Zz3,Zxo];lia),hK _ _ ⟨rfl,((one5.same s6).same v3).put (w'.coming.map (Kj w'.name))⟩⟩
  obtain⟨rfl,one6⟩:=hM;walk_at "r0";obtain⟨pa,pvs,rfl,hpa,rps⟩:=RD.tup_of (RD.same one6.s _ _ rp');have hpl:=Ap rps;refine⟨Ck one6.hp,_,Ah (j:=6) (one6.s _ _ haw) rfl,pa,rfl,pvs,hpa,?_⟩;refine Bo (E5 pa _) (Ae (by lia)) (λH' s'=>s' _ _ hpa) ((w'.parts.map (Gh w'.name)).map txv) (by rw[Zzz,Zzz,hpl]) (λj y H' hj hy s' N M hN=>?_) (λH7 s7 q3 hq3=>?_)
  ·obtain⟨cc,ec,rcc⟩:=B2 rps hy;obtain⟨cca,rfl,hcca⟩:=Mn rcc;walk_at "rd";refine⟨_,Ah (j:=0) (s' _ _ (one6.s _ _ haw)) rfl,by decide,λq4 hq4=>⟨_,A1,_,A5 hq4 _ _ (s' _ _ hcca),by show 3<=sizeLine;decide,λq5 H9 hq5 s9 _=>⟨r3 (Gh w'.name cc),q5,rfl,hq5,okp cc (Zzt ec),λH10 s10=>hN _ _ (((s'.trans (A5 hq4)).trans s9).trans s10) ?_⟩⟩⟩;rw[Zzw,Zzw,ec];rfl
  ·have v3:=A5 (o:=.lst ((w'.parts.map (Gh w'.name)).map txv)) hq3
   have ef:(S.wares.take (i+1)).flatMap Dt=(((S.wares.take i).flatMap Dt++[AL w'])++w'.coming.map (Kj w'.name))++w'.parts.map (Gh w'.name):=by
    rw[et,List.flatMap_append,Zwt,Zwt];show _++(Dt w'++[])=_;rw[Zyw];rfl
   exact⟨q3,rfl,_,v3 _ _ (s7 _ _ one6.hp),_,A1,Ae (by simp only[Zzz,Zzc,Zz3,Zxo];lia),_,rfl,ef▸((one6.same s7).same v3).put (w'.parts.map (Gh w'.name))⟩
 ·obtain⟨o,rfl,one⟩:=h;walk_at "r0";rw[show S.wares.take ws.length=S.wares by rw[hwl,Zz4]] at one;have u20:=sd.un;have pl:=U4 sd S.wares.length;rw[Zz4] at pl;refine⟨Ck one.hp,_,Ah (j:=1) (one.s _ _ ha) rfl,c,rfl,us,one.s _ _ hc,?_⟩;refine Bo (E5 c _) (Ae (by lia)) (λH' s'=>s' _ _ (one.s _ _ hc)) ((S.wants.map BB).map txv) (by rw[Zzz,Zzz,hul]) (λj y H' hj hy s' N M hN=>?_) (λH7 s7 q3 hq3=>?_)
  ·obtain⟨cc,ec,rcc⟩:=B2 ru3 hy;obtain⟨cca,rfl,hcca⟩:=Lp rcc;walk_at "rd";refine⟨r3 (BB cc),cca,rfl,s' _ _ (one.s _ _ hcca),bo sd (Zzt ec),λH9 s9=>hN _ _ (s'.trans s9) ?_⟩;rw[Zzw,Zzw,ec];rfl
  ·have v3:=A5 (o:=.lst ((S.wants.map BB).map txv)) hq3
   have one8:=((one.same s7).same v3).put (S.wants.map BB);obtain⟨j1,j2⟩:=xf (Hk sd) (by unfold Ca;rw[Zzc,Zzz];lia);refine⟨q3,rfl,_,v3 _ _ (s7 _ _ one.hp),_,A1,Ae (by simp only[Zzz];lia),rfl,(Ca S).map λr=>G2 (r3 r),?_,400,j1,j2,?_⟩
   ·rw[<- uy];exact one8.hp
   ·rw[j7];exact k _ one8.s
end
set_option maxHeartbeats 4000000
section
variable {dk:Dk}{c:Cl}
theorem Kg{φ:R3->Bool}{rs:List R3}(h:∀r∈rs,φ r=false):rs.filter φ=[]:=by
 rw[List.filter_eq_nil_iff];intro r hr;rw[h r hr];exact Zzd
theorem fj{φ:R3->Bool}{rs:List R3}(h:∀r∈rs,φ r=true):rs.filter φ=rs:=by
 rw[List.filter_eq_self];exact h
theorem G6{α:Type}{φ:R3->Bool}{f:α->R3}{xs:List α}(h:∀x,φ (f x)=false):(xs.map f).filter φ=[]:=Kg λr hr=>by
 obtain⟨x,_,rfl⟩:=Zzo.mp hr;exact h x
theorem W5{α:Type}{φ:R3->Bool}{f:α->R3}{xs:List α}(h:∀x,φ (f x)=true):(xs.map f).filter φ=xs.map f:=fj λr hr=>by
 obtain⟨x,_,rfl⟩:=Zzo.mp hr;exact h x
theorem Hq{s n:Str}{r:R3}(h:r.1≠s\/r.2.1≠n):Hu s n r=false:=by
 unfold Hu;rcases h with h | h
 ·rw[FR h,Zw4]
 ·rw[FR h,Zva]
theorem Xk{s n:Str}:Hu s n (s,n,ks)=true:=by
 unfold Hu;rw[FQ rfl,FQ rfl];rfl
theorem Yk{α:Type}{g:Wr->List α}{w:Wr}:∀{ws:List Wr},(ws.map (·.name)).Nodup->w∈ws->(∀v∈ws,v.name≠w.name->g v=[])->ws.flatMap g=g w
 |[],_,h,_=>nomatch h
 |v::r,nd,h,k=>by
  have nd:=Zyg.mp (show (v.name::r.map (·.name)).Nodup from nd);rw[List.flatMap_cons];rcases Zzu.mp h with z | z
  ·subst z;have:r.flatMap g=[]:=by
    rw[List.flatMap_eq_nil_iff];exact λv hv=>k v (Zzl _ hv) λe=>nd.1 (by rw[<- e];exact Zzo.mpr ⟨v,hv,rfl⟩)
   rw[this,Zyw]
  ·rw[k v Zzj λe=>nd.1 (by rw[e];exact Zzo.mpr ⟨w,z,rfl⟩),Zx3,Yk nd.2 z λv hv=>k v (Zzl _ hv)]
theorem Qv(φ:R3->Bool):(Ca S).filter φ=S.wares.flatMap (λw=>(Dt w).filter φ)++(S.wants.map BB).filter φ:=by
 unfold Ca;rw[Zxu,List.filter_flatMap]
theorem Nk(φ:R3->Bool)(w:Wr):(Dt w).filter φ=(if φ (AL w)=true then [AL w] else [])++((w.coming.map (Kj w.name)).filter φ++(w.parts.map (Gh w.name)).filter φ):=by
 unfold Dt;rw[Zx0,Zxu];split<;>rfl
theorem zw(nd:(S.wares.map (·.name)).Nodup):wrD (Ca S)=S.d:=by
 have ne:("ware" : Str) ≠ "want" /\ ("coming" : Str) ≠ "want" /\ ("part" : Str) ≠ "want" /\ ("coming" : Str) ≠ "ware" /\ ("part" : Str) ≠ "ware" /\ ("coming" : Str) ≠ "part" := by decide +kernel
 obtain⟨n1,n2,n3,n4,n5,n6⟩:=ne;have ew:(Ca S).filter (isS "ware")=S.wares.map AL:=by
  rw[Qv,G6 (f:=BB) λu=>FR (Zza n1),Zyw];have:(λw=>(Dt w).filter (isS "ware"))=λw=>[AL w]:=funext λw=>by
   rw[Nk,G6 (f:=Kj w.name) λc=>FR n4,G6 (f:=Gh w.name) λc=>FR n5,FT (show isS "ware" (AL w)=true from FQ rfl)];rfl
  rw[this];exact(List.map_eq_flatMap ..).symm
 have eu:(Ca S).filter (isS "want")=S.wants.map BB:=by
  rw[Qv,W5 (f:=BB) λu=>FQ rfl];have:(λw=>(Dt w).filter (isS "want"))=λ_=>[]:=funext λw=>by
   rw[Nk,G6 (f:=Kj w.name) λc=>FR n2,G6 (f:=Gh w.name) λc=>FR n3,FS (by rw[show isS "want" (AL w)=false from FR n1];exact Zzd)];rfl
  rw[this,List.flatMap_eq_nil_iff.mpr λ_ _=>rfl,Zx3]
 have ep:∀{s:Str} (w:Wr),s ≠ "want" -> s ≠ "ware" -> w∈S.wares->(Ca S).filter (Hu s w.name)=(w.coming.map (Kj w.name)).filter (Hu s w.name)++(w.parts.map (Gh w.name)).filter (Hu s w.name):=λ{s} w h1 h2 hw=>by
  rw[Qv,G6 (f:=BB) λu=>Hq (.inl (Zza h1)),Zyw,Yk (g:=λv=>(Dt v).filter (Hu s w.name)) nd hw λv _ e=>Kg λr hr=>Hq (.inr (by rw[Qw hr];exact e)),Nk,FS (by rw[Hq (r:=AL w) (.inl (Zza h2))];exact Zzd)];rfl
 unfold wrD Sh.d;rw[ew,eu,Zyd,Zyd];have e1:S.wares.map (Gb (Ca S)∘AL)=S.wares.map Wr.d:=by
  refine Zx2 λw hw=>?_;show Gb (Ca S) (AL w)=w.d;unfold Gb;have n:(AL w).2.1=w.name:=rfl;rw[n,ep w n2 n4 hw,ep w n3 n5 hw,W5 (f:=Kj w.name) (λc=>Xk),G6 (f:=Gh w.name) (λc=>Hq (.inl (Zza n6))),G6 (f:=Kj w.name) (λc=>Hq (.inl n6)),W5 (f:=Gh w.name) (λc=>Xk),Zyw,Zx3,Zyd,Zyd];rfl
 rw[e1];rfl
theorem Ix(sd:SD0 S):S.wares.length<=(Ca S).length/\(Ca S).length<=400:=by
 have l1:=Nl sd (ws:=S.wares) λ_ h=>h;have l2:∀ws:List Wr,ws.length<=(ws.flatMap Dt).length:=λws=>by
  induction ws with
  |nil=>exact Zzx _
  |cons w r ih =>
   rw[List.flatMap_cons,Zzc,Zz3];have:1<=(Dt w).length:=Nat.le_add_left _ _;lia
 have l3:=l2 S.wares;have hn:=sd.n;have hu:=sd.un;unfold Ca;rw[Zzc,Zzz];lia
theorem Nj(sd:SD0 S)(nd:(S.wares.map (·.name)).Nodup):Na (Ca S) S:=by
 have hn:=sd.n;have hl:=Ix sd;refine⟨λz=>?_,hl.2,Hk sd,zw nd,sd,λob r hr=>?_⟩
 ·rw[z] at hl;have:S.wares.length<=0:=hl.1;lia
 ·rcases Zz2.mp hr with h | h
  ·obtain⟨w,hw,h⟩:=List.mem_flatMap.mp h;rw[Qw h];exact Zzo.mpr ⟨w,hw,rfl⟩
  ·obtain⟨u,hu,rfl⟩:=Zzo.mp h;unfold okS at ob;rw[Zyy,Zyu] at ob;exact FP (ob.2 u.1 (Zyk _ (Zzo.mpr ⟨u,hu,rfl⟩)))
end
set_option maxHeartbeats 4000000
section
variable {dk:Dk}{c:Cl}
def lets(x:Str):Prop:=∀c∈x.cps.toList,c∈AU
theorem lt26{d:Int}(h0:0<=d)(h1:d<26):∃c,("abcdefghijklmnopqrstuvwxyz" : Str).cps.toList[d.toNat]?=some c/\c∈AU:=by
 have hl:("abcdefghijklmnopqrstuvwxyz" : Str).cps.toList.length=26:=by decide +kernel
 have h:d.toNat<("abcdefghijklmnopqrstuvwxyz" : Str).cps.toList.length:=by rw[hl];lia
 exact⟨_,Zzp h,Zuz h⟩
theorem a8:AU.Nodup:=by decide +kernel
theorem Ou:AU.length=26:=by decide +kernel
def Jx(bs:List Int)(a k j:Nat):Int:=(bs.getD j 0+(k:Int)*(if j=a then 1 else 0)) % 26
def nmL(bs:List Int)(a k n:Nat):List Nat:=(Zyo n).map λj=>AU.getD (Jx bs a k j).toNat 0
theorem V0(bs:List Int)(a k j:Nat):0<=Jx bs a k j/\Jx bs a k j<26:=by unfold Jx;lia
theorem ww{bs:List Int}{a k k':Nat}(ha:a<n)(hk:k<26)(hk':k'<26)(h:nmL bs a k n=nmL bs a k' n):k=k':=by
 have h1:=congrArg (λl=>l[a]?) h;have e:∀q,(nmL bs a q n)[a]?=some (AU.getD (Jx bs a q a).toNat 0):=λq=>by
  unfold nmL;rw[Zzw,List.getElem?_range ha];rfl
 have h1:(nmL bs a k n)[a]?=(nmL bs a k' n)[a]?:=h1;rw[e,e] at h1;have h2:=Zzm h1;have l1:=V0 bs a k a;have l2:=V0 bs a k' a;have ll:=Ou;have g:∀{i:Nat},(hi:i<AU.length)->AU.getD i 0=AU[i]:=λ{i} hi=>by rw[Zz8,Zzp hi];rfl
 rw[g (by lia),g (by lia)] at h2;have h3:=(List.getElem_inj a8).mp h2;have h4:Jx bs a k a=Jx bs a k' a:=by lia
 unfold Jx at h4;rw[FT rfl] at h4;lia
structure CK(x:Str):Prop where
 lets:lets x
 ge:1<=x.length
 le:x.length<=8
theorem A1m{bs:List Int}{a k:Nat}(h0:1<=n)(hn:n<=8)(h:x.cps.toList=nmL bs a k n):CK x:=by
 have hl:x.length=n:=by
  have:=congrArg Zug h;unfold nmL at this;rw[Zzz,List.length_range] at this;rw[<- this];show x.cps.size=x.cps.toList.length;simp
 refine⟨λc hc=>?_,by lia,by lia⟩;rw[h] at hc;obtain⟨j,_,rfl⟩:=Zzo.mp hc;have l1:=V0 bs a k j;have ll:=Ou;rw[Zz8,Zzp (by lia)];exact Zuz _
inductive DB (vs:List V) (H:Hp) (Q:VK) (E:XK):Prop | mk (st m:_) (_:vs=[.ref st,.int m]) (_:AI H st) (_:0<=m) (_:m<=26) (_:∀(a:Addr) (xs:List Str) (H':Hp),xs.length=m.toNat->xs.Nodup->(∀x∈xs,CK x)->H' a=some (.lst (xs.map V.str))->H a=none->AI H' st->But st H H'->Q (.ref a) H')
inductive A2l (st:Addr) (H:Hp) (i:Nat) (acc:List V) (H':Hp):Prop | mk (bs:List Int) (_:acc=bs.map V.int) (_:bs.length=i) (_:(∀x∈bs,0<=x/\x<26)) (_:AI H' st) (_:But st H H')
inductive A2d (st l b:Addr) (m sz:Int) (bs:List Int) (a:Nat) (H:Hp) (k:Nat) (Z:St) (H':Hp):Prop | mk (xs:List Str) (o1 o2 o3:Option V) (_:Z=[some (.ref st),some (.int m),some (.str "abcdefghijklmnopqrstuvwxyz"),some (.int sz),some (.ref b),some (.int a),some (.ref l),o1,o2,o3]) (_:H' l=some (.lst (xs.map V.str))) (_:xs.length=k) (_:(∀(j:Nat) (x:Str),xs[j]?=some x->x.cps.toList=nmL bs a j sz.toNat)) (_:H' b=some (.lst (bs.map V.int))) (_:AI H' st) (_:But st H H')
inductive A2e (st l b:Addr) (m sz:Int) (bs:List Int) (a k:Nat) (H:Hp) (i:Nat) (Z:St) (H':Hp):Prop | mk (x:Str) (o3:Option V) (_:Z=[some (.ref st),some (.int m),some (.str "abcdefghijklmnopqrstuvwxyz"),some (.int sz),some (.ref b),some (.int a),some (.ref l),some (.int k),some (.str x),o3]) (_:x.cps.toList=nmL bs a k i) (_:H'=H)
theorem Vr(F:Fun K "_law_names" "_law_names" Of f fd)(T:Txt mg)(C:Exc K mg c)(Zua:Has P w K mg base "_law_next" 1 ["_law_state", "_law_many"] AW):Ax P w K mg base CX0 2 f fd ["_law_state", "_law_many"] DB:=by
 refine F.go ["_law_state", "_law_many", "_law_letters", "_law_size", "_law_base", "_law_at", "_law_names_here", "_law_k", "_law_name", "_law_i"] ?_ ?_ ?_;walk_at "f";obtain⟨st,m,rfl,hs,m0,m1,k⟩:=h;have hu:=Aw hr;refine⟨_,(A3 (Al (i:=2) Nd rfl (Zzq rfl) Ac)
 (A3 (Al (i:=3) Nd rfl (Zzq rfl) (Ai Dr A6 (A7 Zua hr.z rfl (A2 (pv 0) (A2 A6 A0)))))
 (A3 (E2 (own:=["_law_k"]) (cap:=[0]) (i:=4) rfl (Bz rfl) (At (by decide)) Nd rfl rfl (C9 rfl T.Zsc (A2 (pv 3) A0))
 (λ_ _ _ _ _ _=>⟨(Af (i:=0) (FP rfl) rfl (Zzq rfl) (.inr rfl)),Ba,(A7 Zua hr.z rfl (A2 (pv 1) (A2 A6 A0)))⟩))
 (A3 (Al (i:=5) Nd rfl (Zzq rfl) (A7 Zua hr.z rfl (A2 (pv 0) (A2 (pv 3) A0))))
 (A3 (Al (i:=6) Nd rfl (Zzq rfl) (B7 A0))
 (A3 (Bd PassesOwn.never rfl (C9 rfl T.Zsc (A2 (pv 1) A0)) (Af (i:=7) Nd rfl (Zzq rfl))
 (A3 (Al (i:=8) Nd rfl (Zzq rfl) Ac)
 (A3 (Bd PassesOwn.never rfl (C9 rfl T.Zsc (A2 (pv 3) A0)) (Af (i:=9) Nd rfl (Zzq rfl))
 (A8 (Jb (i:=8) Nd rfl (Zzq rfl) (Aa hu (pv 2) (Ai Li (Ai Dr (Aa hu (pv 4) (pv 9) (λ_ _=>rfl)) (Ai Po (pv 7) (Au Nz rfl T.Zps Sb (A2 (C3 (Bg hu) (pv 9) (pv 5) (Ao _)) A0)))) A6) (λ_ _=>rfl)) xi)))
 (A8 (Bf (Bw Zz7 Zyr Zyq By (pv 6) (A2 (pv 8) A0)))))))
 (A8 (Ag (pv 6))))))))),?_⟩
 walk_at "rd";refine⟨st,8,rfl,hs,by decide,by decide +kernel,λd H1 d0 d1 s1 b1=>⟨d,rfl,?_⟩⟩;refine⟨by lia,by lia,?_⟩;refine Ji (Le 0 _) (Ae (by lia)) (A2l st H) ⟨[],rfl,rfl,(λx hx=>nomatch hx),s1,b1⟩ (λ_ _ _ _ _=>trivial) (λj acc H' h=>by obtain⟨xs,rfl,e,_⟩:=h;rw[Zzz];exact Nat.le_of_eq e) (λj y acc H2 hj hy h=>?_) (λacc H2 h b hb=>?_)
 ·obtain⟨bs,rfl,hl,hn,s2,b2⟩:=h;walk_at "rd";refine⟨st,26,rfl,s2,by decide,by decide +kernel,λe H3 e0 e1 s3 b3=>⟨bs++[e],by rw[Zzi];rfl,by rw[Zzc,hl];rfl,λx hx=>?_,s3,b2.trans b3⟩⟩;rcases Zz2.mp hx with z | z
  ·exact hn x z
  ·rw[Zzr.mp z];exact⟨e0,e1⟩
 ·obtain⟨bs,rfl,hl,hn,s2,b2⟩:=h;have bst:b≠st:=Zza (s2.ne hb);have hb2:upd H2 b (.lst (bs.map V.int)) b=_:=A1;have s2:=s2.upd (o:=.lst (bs.map V.int)) (s2.ne hb);have b2:=b2.new (o:=.lst (bs.map V.int)) hb;generalize upd H2 b (.lst (bs.map V.int))=H2 at hb2 s2 b2;refine⟨st,1+d,rfl,s2,by lia,Int.lt_of_lt_of_le (b:=9) (by lia) (by decide +kernel),λa H3 a0 a1 s3 b3=>⟨Zym _,λl hl=>⟨by lia,by lia,?_⟩⟩⟩;obtain⟨a,rfl⟩:=Zxh a0;have hb3:=b3 _ _ bst hb2;have lst':l≠st:=Zza (s3.ne hl);have nbl:b≠l:=A9 hb3 hl;have fl:H l=none:=(b2.trans b3).none lst' hl;refine Cj (Le 0 _) (A2d st l b m (1+d) bs a H) ⟨[],_,_,_,rfl,A1,rfl,(λj x e=>by simp at e),by rw[Ab nbl];exact hb3,s3.upd (s3.ne hl),(b2.trans b3).new hl⟩ (λ_ _ _ _ _=>trivial) (λq y Z H4 hq hy h=>?_) (λZ H4 h=>?_)
  ·obtain⟨xs,o1,o2,o3,rfl,hl4,xl,hx,hb4,s4,b4⟩:=h;subst hy;walk_at "rd";have hq':(0+(q:Int))=(q:Int):=by lia
   rw[hq'];refine⟨by lia,by lia,?_⟩;refine Cj (Le 0 _) (A2e st l b m (1+d) bs a q H4) ⟨_,_,rfl,rfl,rfl⟩ (λ_ _ _ _ _=>trivial) (λi y Z H5 hi hy h=>?_) (λZ H5 h=>?_)
   ·obtain⟨x,o3,rfl,ex,rfl⟩:=h;subst hy;walk_at "rd";have hi:i<(1+d).toNat:=hi;obtain⟨bv,ebv⟩:∃bv,bs[i]?=some bv:=⟨_,Zzp (by lia)⟩;have i0:(0+(i:Int))=(i:Int):=by lia
    rw[i0];have ebd:bs.getD i 0=bv:=by rw[Zz8,ebv];rfl
    have espot:(bv+(q:Int)*if decide ((i:Int)=(a:Int))=true then 1 else 0) % 26=Jx bs a q i:=by
     unfold Jx;rw[ebd];by_cases z:i=a
     ·rw[FT (FQ (by lia)),FT z]
     ·rw[FS (λw=>z (by have:=FP w;lia)),FS z]
    have l26:=V0 bs a q i;obtain⟨cc,ec,_⟩:=lt26 l26.1 l26.2;have xl5:x.length=i:=by
     have:=congrArg Zug ex;unfold nmL at this;rw[Zzz,List.length_range] at this;rw[<- this];show x.cps.size=x.cps.toList.length;simp
    refine⟨_,Rv (.inl hb4) (by lia) (v:=.int bv) (by rw[Zzw,Zxq,ebv];rfl),rfl,.inr ⟨?_,?_⟩,bv,rfl,by decide,?_⟩
    ·exact Zze (m:=1000) (by lia) (by decide +kernel)
    ·exact Zze (m:=1000) (by split<;>decide) (by decide +kernel)
    rw[espot];refine⟨_,qg (by decide +kernel) l26.1 ec,_,rfl,Zzk (m:=1000) (by show x.length+1<=1000;lia) (Ae (Zzx _)),_,_,rfl,?_,rfl⟩;show (x.cps++#[cc]).toList=_;rw[Array.toList_append,ex];unfold nmL;rw[List.range_succ,Zzi];have:AU[(Jx bs a q i).toNat]?=some cc:=ec;rw[List.map_singleton,Zz8,this];rfl
   ·obtain⟨x,o3,rfl,ex,rfl⟩:=h;walk_at "rd";refine⟨Ck hl4,_,hl4,Zze (m:=1000) (by rw[Zzz];lia) (Ae (Zzx _)),xs++[x],_,_,_,rfl,by rw[A1,Zzi];rfl,by rw[Zzc,xl];rfl,λj y hy=>?_,by rw[Ab nbl];exact hb4,s4.upd (Zza lst'),b4.upd fl⟩;by_cases hj:j<xs.length
    ·rw[Zy0 hj] at hy;exact hx j y hy
    ·rw[Zyi (by lia)] at hy;have hj0:j - xs.length=0:=by
      cases e:j - xs.length with
      |zero=>rfl
      |succ n=>rw[e] at hy;simp at hy
     rw[hj0] at hy;have hy:x=y:=by simpa using hy
     have hje:j=q:=by lia
     subst hy hje;exact ex
  ·obtain⟨xs,o1,o2,o3,rfl,hl4,xl,hx,hb4,s4,b4⟩:=h;walk_at "rd";refine k l xs H4 xl ?_ (λx hx'=>?_) hl4 fl s4 b4
   ·refine Zwq.mpr λi j hi hj hij e=>?_;have h1:=hx i _ (Zzp hi);have h2:=hx j _ (Zzp hj);rw[e,h2] at h1;have:=ww (by lia) (by lia) (by lia) h1;lia
   ·obtain⟨j,hj⟩:=Zvw hx';exact A1m (by lia) (by lia) (hx j x hj)
end
set_option maxHeartbeats 4000000
section
variable {dk:Dk}{c:Cl}
structure W46(xs:List Str)(w:Wr):Prop where
 wb:WB w
 com:zu 11 w.coming
 own:∀p∈w.parts,p.1∈xs
inductive DJ (vs:List V) (H:Hp) (Q:VK) (E:XK):Prop | mk (st l:Addr) (nm:Str) (xs:List Str) (_:vs=[.ref st,.str nm,.ref l]) (_:AI H st) (_:H l=some (.lst (xs.map V.str))) (_:l≠st) (_:xs.length<=6) (_:xs.Nodup) (_:∀v (w:Wr) H',RD H' w.d v->w.name=nm->W46 xs w->AI H' st->But st H H'->Q v H')
inductive A2j (st l q:Addr) (nm:Str) (xs:List Str) (H:Hp) (i:Nat) (Z:St) (H':Hp):Prop | mk (cs:List (Int×Int)) (vs:List V) (o:Option V) (_:Z=[some (.ref st),some (.str nm),some (.ref l),some (.ref q),o,none,none,none,none]) (_:H' q=some (.lst vs)) (_:RDs H' (cs.map N7) vs) (_:cs.length=i) (_:(∀p∈cs,(0<=p.1/\p.1<8)/\0<=p.2/\p.2<9)) (_:H' l=some (.lst (xs.map V.str))) (_:AI H' st) (_:But st H H')
inductive A2b (st l q1 q:Addr) (nm:Str) (xs:List Str) (cs:List (Int×Int)) (H:Hp) (i:Nat) (Z:St) (H':Hp):Prop | mk (ps:List (Str×Int)) (vs vs1:List V) (o o2:Option V) (_:Z=[some (.ref st),some (.str nm),some (.ref l),some (.ref q1),o2,some (.ref q),o,none,none]) (_:H' q1=some (.lst vs1)) (_:RDs H' (cs.map N7) vs1) (_:H' q=some (.lst vs)) (_:RDs H' (ps.map Jq) vs) (_:(ps.map (·.1)).Sublist (xs.take i)) (_:(∀p∈ps,1<=p.2/\p.2<=3)) (_:H' l=some (.lst (xs.map V.str))) (_:AI H' st) (_:But st H H')
theorem Xq(F:Fun K "_law_ware" "_law_ware" Qk f fd)(T:Txt mg)(C:Exc K mg c)(Zua:Has P w K mg base "_law_next" 1 ["_law_state", "_law_many"] AW):Ax P w K mg base CX0 2 f fd ["_law_state", "_law_name", "_law_beneath"] DJ:=by
 refine F.go ["_law_state", "_law_name", "_law_beneath", "_law_coming", "_law_k", "_law_parts", "_law_part", "_law_floor", "_law_stock"] ?_ ?_ ?_;walk_at "f";obtain⟨st,l,nm,xs,rfl,hs,hl,lst',hx,nd,k⟩:=h;have hu:=Aw hr;refine⟨_,(A3 (Al (i:=3) Nd rfl (Zzq rfl) (B7 A0))
 (A3 (Bd PassesOwn.never rfl (C9 rfl T.Zsc (A2 (A7 Zua hr.z rfl (A2 (pv 0) (A2 A6 A0))) A0)) (Af (i:=4) Nd rfl (Zzq rfl))
 (A8 (Bf (Bw Zz7 Zyr Zyq By (pv 3) (A2 (As (A2 (A7 Zua hr.z rfl (A2 (pv 0) (A2 A6 A0))) (A2 (A7 Zua hr.z rfl (A2 (pv 0) (A2 A6 A0))) A0))) A0)))))
 (A3 (Al (i:=5) Nd rfl (Zzq rfl) (B7 A0))
 (A3 (Bd PassesOwn.never rfl (Dq (pv 2)) (Af (i:=6) Nd rfl (Zzq rfl))
 (A8 (B0 (An Oq (A7 Zua hr.z rfl (A2 (pv 0) (A2 A6 A0))) A6 (Ao _)) (A8 (Bf (Bw Zz7 Zyr Zyq By (pv 5) (A2 (As (A2 (pv 6) (A2 (Ai Dr A6 (A7 Zua hr.z rfl (A2 (pv 0) (A2 A6 A0)))) A0))) A0)))) Am)))
 (A3 (Al (i:=7) Nd rfl (Zzq rfl) (Ai Po (A7 Zua hr.z rfl (A2 (pv 0) (A2 A6 A0))) (Au Nz rfl T.Zps Sb (A2 (C3 (Bg hu) (A7 Zua hr.z rfl (A2 (pv 0) (A2 A6 A0))) A6 (Ao _)) A0))))
 (A3 (Al (i:=8) Nd rfl (Zzq rfl) (Ai Dr (pv 7) (A7 Zua hr.z rfl (A2 (pv 0) (A2 A6 A0)))))
 (A8 (Ag (As (A2 (pv 1) (A2 (A7 Zua hr.z rfl (A2 (pv 0) (A2 A6 A0))) (A2 (Ai Dr A6 (A7 Zua hr.z rfl (A2 (pv 0) (A2 A6 A0)))) (A2 (pv 7) (A2 (pv 8) (A2 (Au Bp rfl T.Ztf Cr (A2 (pv 3) A0)) (A2 (Au Bp rfl T.Ztf Cr (A2 (pv 5) A0)) A0)))))))))))))))),?_⟩
 walk_at "rd";refine⟨by decide,λq hq=>?_⟩;have qst:q≠st:=Zza (hs.ne hq);have lq:l≠q:=A9 hl hq;have hq1:upd H q (.lst []) q=_:=A1;have s1:=hs.upd (o:=.lst []) (hs.ne hq);have b1:But st H (upd H q (.lst [])):=L1 hq;have hl1:upd H q (.lst []) l=some (.lst (xs.map V.str)):=by rw[Ab lq];exact hl
 generalize upd H q (.lst [])=H1 at hq1 s1 b1 hl1;refine⟨st,3,rfl,s1,by decide,by decide +kernel,λn H2 n0 n1 s2 b2=>⟨n,rfl,by lia,by lia,?_⟩⟩;refine Cj (Le 0 _) (A2j st l q nm xs H) ⟨[],[],_,rfl,b2 _ _ qst hq1,RDs.nil,rfl,(λp hp=>nomatch hp),b2 _ _ lst' hl1,s2,b1.trans b2⟩ (λ_ _ _ _ _=>trivial) (λi y Z H3 hi hy h=>?_) (λZ H3 h=>?_)
 ·obtain⟨cs,vs,o,rfl,hq3,r3,cl,cb,hl3,s3,b3⟩:=h;walk_at "rd";refine⟨Ck hq3,st,8,rfl,s3,by decide,by decide +kernel,λd H4 d0 d1 s4 b4=>?_⟩;refine⟨st,9,rfl,s4,by decide,by decide +kernel,λe H5 e0 e1 s5 b5=>⟨by decide,λt ht=>?_⟩⟩;have b45:=b4.trans b5;have hq5:=b45 _ _ qst hq3;have u:=A5 (o:=.tup [V.int d,V.int e]) ht;have hlv:=Ap r3;refine⟨vs,u _ _ hq5,Zze (show vs.length<1000 by lia) (Ae (Zzx _)),cs++[(d,e)],_,_,rfl,A1,?_,by rw[Zzc,cl];rfl,λp hp=>?_,?_,(s5.same u).upd (Zza qst),((b3.trans b45).same u).upd hq⟩
  ·have kk:=((Dz b45 s3).trans u.ku).trans (Jg (ys:=vs++[V.ref t]) (u _ _ hq5))
   rw[Zzi];refine RDs.app (RDs.ku kk _ _ (Bu N7 Ro _) r3) (RDs.one (RD.tup_mk (xs:=[V.int d,V.int e]) ?_ (RDs.cons RD.int_mk (RDs.one RD.int_mk))));rw[Ab (Zza (A9 hq5 ht)),A1]
  ·rcases Zz2.mp hp with z | z
   ·exact cb p z
   ·rw[Zzr.mp z];exact⟨⟨d0,d1⟩,e0,e1⟩
  ·rw[Ab lq];exact u _ _ (b45 _ _ lst' hl3)
 ·obtain⟨cs,vs1,o,rfl,hq3,r3,cl,cb,hl3,s3,b3⟩:=h;have cl:cs.length<=12:=by lia
  walk_at "rd";refine⟨Zym _,λq2 hq2=>?_⟩;have q2st:q2≠st:=Zza (s3.ne hq2);have fq2:H q2=none:=b3.none q2st hq2;have u2:=A5 (o:=.lst []) hq2;have nqq:q≠q2:=A9 hq3 hq2;have lq2:l≠q2:=A9 hl3 hq2;refine⟨_,u2 _ _ hl3,?_⟩;refine Cj (Eu l _) (A2b st l q q2 nm xs cs H) ⟨[],[],vs1,_,_,rfl,u2 _ _ hq3,RDs.same u2 _ _ r3,A1,RDs.nil,List.nil_sublist _,(λp hp=>nomatch hp),u2 _ _ hl3,s3.same u2,b3.same u2⟩ (λi Z H' _ h=>by obtain⟨_,_,_,_,_,_,_,_,_,_,_,_,h,_⟩:=h;exact h) (λi x Z H4 hi hxx h=>?_) (λZ H4 h=>?_)
  ·obtain⟨ps,vs,vs1,o,o2,rfl,hq4,r4,hp4,rp4,sb,am,hl4,s4,b4⟩:=h;rw[Zzz] at hi;rw[Zzw] at hxx;cases en:xs[i]? with
   |none=>rw[en] at hxx;cases hxx
   |some y =>
   rw[en] at hxx;have hxx:V.str y=x:=Zzm hxx;subst hxx;have et:xs.take (i+1)=xs.take i++[y]:=by rw[Zz1,en];rfl
   walk_at "rd";refine⟨st,3,rfl,s4,by decide,by decide +kernel,λd H5 d0 d1 s5 b5=>?_⟩;walk_at "rd";have kk5:=Dz b5 s4;refine Du (λ_=>?_) (λ_=>⟨ps,vs,vs1,_,_,rfl,b5 _ _ qst hq4,RDs.ku kk5 _ _ (Bu N7 Ro _) r4,b5 _ _ q2st hp4,RDs.ku kk5 _ _ (Bu Jq Pp _) rp4,by rw[et];exact sb.trans (List.sublist_append_left _ _),am,b5 _ _ lst' hl4,s5,b4.trans b5⟩);have hp5:=b5 _ _ q2st hp4;refine⟨Ck hp5,st,3,rfl,s5,by decide,by decide +kernel,λe H6 e0 e1 s6 b6=>⟨e,rfl,by decide,λt ht=>?_⟩⟩;have b56:=b5.trans b6;have hp6:=b56 _ _ q2st hp4;have hq6:=b56 _ _ qst hq4;have u:=A5 (o:=.tup [V.str y,V.int (1+e)]) ht;have hlv:=Ap rp4;have hlp:=sb.length_le;rw[Zzz,Zz5] at hlp;have kk:=((Dz b56 s4).trans u.ku).trans (Jg (ys:=vs++[V.ref t]) (u _ _ hp6));refine⟨vs,u _ _ hp6,Zze (show vs.length<1000 by lia) (Ae (Zzx _)),ps++[(y,1+e)],_,vs1,_,_,rfl,?_,RDs.ku kk _ _ (Bu N7 Ro _) r4,A1,?_,?_,λp hp=>?_,?_,(s6.same u).upd (Zza q2st),((b4.trans b56).same u).upd fq2⟩
   ·rw[Ab nqq];exact u _ _ hq6
   ·rw[Zzi];refine RDs.app (RDs.ku kk _ _ (Bu Jq Pp _) rp4) (RDs.one (RD.tup_mk (xs:=[V.str y,V.int (1+e)]) ?_ (RDs.cons RD.str_mk (RDs.one RD.int_mk))));rw[Ab (Zza (A9 hp6 ht)),A1]
   ·rw[Zzi,et];exact sb.append (List.Sublist.refl _)
   ·rcases Zz2.mp hp with z | z
    ·exact am p z
    ·rw[Zzr.mp z];exact⟨show 1<=1+e by lia,show 1+e<=3 by lia⟩
   ·rw[Ab lq2];exact u _ _ (b56 _ _ lst' hl4)
  ·obtain⟨ps,vs,vs1,o,o2,rfl,hq4,r4,hp4,rp4,sb,am,hl4,s4,b4⟩:=h;rw[Zzz,Zxc (Zzx _)] at sb;walk_at "rd";refine⟨st,4,rfl,s4,by decide,by decide +kernel,λf H5 f0 f1 s5 b5=>?_⟩;walk_at "rd";refine⟨st,3,rfl,s5,by decide,by decide +kernel,λg H6 g0 g1 s6 b6=>?_⟩;have hm:DN f (if decide (V.int g=V.int 0)=true then 1 else 0):=.inr ⟨Zze (m:=1000) (by lia) (by decide +kernel),Zze (m:=1000) (by split<;>decide) (by decide +kernel)⟩;refine⟨rfl,hm,?_⟩;have hfl:0<=f*(if decide (V.int g=V.int 0)=true then (1:Int) else 0)/\f*(if decide (V.int g=V.int 0)=true then (1:Int) else 0)<=3:=by split<;>lia
   generalize f*(if decide (V.int g=V.int 0)=true then (1:Int) else 0)=fl at hfl;refine⟨st,8,rfl,s6,by decide,by decide +kernel,λa H7 a0 a1 s7 b7=>⟨a,rfl,st,3,rfl,s7,by decide,by decide +kernel,λb H8 b0 b1' s8 b8=>⟨st,4,rfl,s8,by decide,by decide +kernel,λc' H9 c0 c1 s9 b9=>⟨c',rfl,vs1,.inl ⟨?_,λt1 ht1=>⟨vs,.inl ⟨?_,λt2 ht2=>⟨by decide,λp hp=>?_⟩⟩⟩⟩⟩⟩⟩⟩
   ·exact b9 _ _ qst (b8 _ _ qst (b7 _ _ qst (b6 _ _ qst (b5 _ _ qst hq4))))
   ·exact A5 ht1 _ _ (b9 _ _ q2st (b8 _ _ q2st (b7 _ _ q2st (b6 _ _ q2st (b5 _ _ q2st hp4)))))
   have bb:=(((b5.trans b6).trans b7).trans b8).trans b9;have u1:=A5 (o:=.tup vs1) ht1;have u2:=A5 (o:=.tup vs) ht2;have u3:=A5 (o:=.tup [V.str nm,V.int b,V.int (1+c'),V.int fl,V.int (fl+a),V.ref t1,V.ref t2]) hp;have uu:=(u1.trans u2).trans u3;have kk:=(Dz bb s4).trans uu.ku;have hlp:=sb.length_le;rw[Zzz] at hlp;refine k (.ref p) ⟨nm,b,1+c',fl,fl+a,cs,ps⟩ _ ?_ rfl ⟨⟨⟨b0,by show b<=30;lia⟩,⟨by show 1<=1+c';lia,by show 1+c'<=100;lia⟩,⟨hfl.1,by show fl<=100;lia⟩,⟨by show 0<=fl+a;lia,Zxb (b:=1000) (by show fl+a<=1000;lia) (by decide +kernel)⟩,by show ps.length<=6;lia,λp hp=>⟨(am p hp).1,Zxb (am p hp).2 (by decide)⟩,sb.nodup nd⟩,⟨cl,λp hp=>⟨⟨(cb p hp).1.1,Zvc (cb p hp).1.2 (by decide)⟩,(cb p hp).2.1,Zvc (cb p hp).2.2 (by decide +kernel)⟩⟩,λp hp=>sb.subset (Zzo.mpr ⟨p,hp,rfl⟩)⟩ (s9.same uu) ((b4.trans bb).same uu);unfold Wr.d;exact RD.tup_mk A1 (RDs.cons RD.str_mk (RDs.cons RD.int_mk (RDs.cons RD.int_mk (RDs.cons RD.int_mk (RDs.cons RD.int_mk (RDs.cons (RD.tup_mk (u3 _ _ (u2 _ _ A1)) (RDs.ku kk _ _ (Bu N7 Ro _) r4)) (RDs.one (RD.tup_mk (u3 _ _ A1) (RDs.ku kk _ _ (Bu Jq Pp _) rp4)))))))))
end
set_option maxHeartbeats 4000000
section
variable {dk:Dk}{c:Cl}
theorem CK.name(h:CK x):Aq x=true:=by
 unfold Aq;rw[FQ h.ge,FQ h.le,Zyf,Zyf,Zyu];exact λc hc=>FQ (h.lets c hc)
theorem vg(H:Hp):RDs H [] []:=by rw[RDs]
theorem Mf:∀(k:Nat) {ds:List PyData} {vs:List V},RDs H ds vs->RDs H (ds.drop k) (vs.drop k)
 |0,_,_,h=>h
 |k+1,[],vs,h=>by
  rw[RDs] at h;rw[h];exact vg H
 |k+1,d::ds,vs,h=>by
  rw[RDs] at h;obtain⟨v,r,rfl,_,h2⟩:=h;exact Mf k h2
theorem Me:∀{ds:List PyData} {xs:List V} (n:Nat),RDs H ds xs->RDs H (ds.take n) (xs.take n)
 |_,_,0,_=>by rw[Zw2,Zw2];exact RDs.nil
 |[],xs,n+1,h=>by rw[RDs.nil_of h];exact RDs.nil
 |d::ds,xs,n+1,h=>by
  obtain⟨x,r,rfl,h1,h2⟩:=RDs.cons_of h;rw[Zul,Zul];exact RDs.cons h1 (Me n h2)
def uk(xs:List Str)(j:Nat)(w:Wr):Prop:=xs[j]?=some w.name/\W46 (xs.drop (j+1)) w
theorem A0t{xs:List Str}{ws ws':List Wr}{us:List Wt}(nd:xs.Nodup)(hx:∀x∈xs,CK x)(hl:1<=xs.length/\xs.length<=12)(hw:ws.length=xs.length)(hk:∀j w,ws[j]?=some w->uk xs j w)(hp:ws'.Perm ws)(hu:gm 11 xs us):AJ 11 ⟨ws',us⟩/\(ws'.map (·.name)).Perm xs:=by
 have en:ws.map (·.name)=xs:=by
  apply Zxg;intro i;rw[Zzw];by_cases hi:i<ws.length
  ·rw[Zzp hi];exact(hk i _ (Zzp hi)).1.symm
  ·rw[Zz0 (by lia),Zz0 (by lia)];rfl
 have hat:∀w∈ws',∃j,j<xs.length/\uk xs j w:=λw hm=>by
  obtain⟨j,hj⟩:=Zwv.mp (hp.mem_iff.mp hm);have:=(Zzb.mp hj).1;exact⟨j,by lia,hk j w hj⟩
 have pn:(ws'.map (·.name)).Perm xs:=by rw[<- en];exact hp.map _
 have hlen:ws'.length=xs.length:=by rw[hp.length_eq,hw]
 have own:∀w∈ws',∀p∈w.parts,∃i j,i<j/\xs[i]?=some w.name/\xs[j]?=some p.1:=λw hm p hpm=>by
  obtain⟨j,hj,k1,k3⟩:=hat w hm;obtain⟨i,hi⟩:=Zwv.mp (k3.own p hpm);rw[Zwb] at hi;exact⟨j,j+1+i,Zze (Zv1 j) (Zvz _ _),k1,hi⟩
 refine⟨⟨⟨pn.nodup_iff.mpr nd,λw hm=>?_,λw hm=>?_,λw hm p hpm=>?_,λx=>xs.length - 1 - xs.idxOf x,λw hm=>?_,λw hm p hpm=>?_⟩,by show 1<=ws'.length/\ws'.length<=12;lia,λw hm=>?_,hu.1,λu hum=>?_⟩,pn⟩
 ·obtain⟨j,_,k⟩:=hat w hm;exact k.2.wb
 ·obtain⟨j,_,k⟩:=hat w hm;exact(hx _ (Zzt k.1)).name
 ·obtain⟨i,j,_,_,h3⟩:=own w hm p hpm;exact pn.mem_iff.mpr (Zzt h3)
 ·show xs.length - 1 - xs.idxOf w.name<ws'.length
  lia
 ·obtain⟨i,j,h1,h2,h3⟩:=own w hm p hpm;obtain⟨hi,ei⟩:=Zzb.mp h2;obtain⟨hj,ej⟩:=Zzb.mp h3;have e1:xs.idxOf w.name=i:=by rw[<- ei];exact nd.idxOf_getElem i hi
  have e2:xs.idxOf p.1=j:=by rw[<- ej];exact nd.idxOf_getElem j hj
  show xs.length - 1 - xs.idxOf p.1<xs.length - 1 - xs.idxOf w.name;lia
 ·obtain⟨j,_,k⟩:=hat w hm;exact k.2.com
 ·obtain⟨h1,h2⟩:=hu.2 u hum;exact⟨pn.mem_iff.mpr h1,h2⟩
theorem mv{α:Type}(t:Nat)(ws:List α):(ws.drop t++ws.take t).Perm ws:=List.perm_append_comm.trans (by rw[Zux])
structure Td(xs:List Str)(S:Sh):Prop where
 good:AJ 11 S
 pn:(S.wares.map (·.name)).Perm (xs.take 3)
inductive CF (vs:List V) (H:Hp) (Q:VK) (E:XK):Prop | mk (st l:Addr) (xs:List Str) (_:vs=[.ref st,.ref l]) (_:AI H st) (_:H l=some (.lst (xs.map V.str))) (_:l≠st) (_:xs.length=4) (_:xs.Nodup) (_:(∀x∈xs,CK x)) (_:∀v (S:Sh) H',RD H' S.d v->Td xs S->S.wants.length<=4->AI H' st->But st H H'->Q v H')
inductive A26 (st l q:Addr) (xs:List Str) (H:Hp) (i:Nat) (Z:St) (H':Hp):Prop | mk (ws:List Wr) (vs:List V) (o:Option V) (_:Z=[some (.ref st),some (.ref l),some (.ref q),o,none,none]) (_:ws.length=i) (_:(∀j w,ws[j]?=some w->uk (xs.take 3) j w)) (_:H' q=some (.lst vs)) (_:RDs H' (ws.map Wr.d) vs) (_:H' l=some (.lst (xs.map V.str))) (_:AI H' st) (_:But st H H')
inductive A27 (st l q p:Addr) (t:Nat) (xs:List Str) (ws:List Wr) (H:Hp) (i:Nat) (Z:St) (H':Hp):Prop | mk (us:List Wt) (vs uv:List V) (o:Option V) (_:Z=[some (.ref st),some (.ref l),some (.ref q),o,some (.int t),some (.ref p)]) (_:us.length=i) (_:(∀u∈us,u.1∈xs.take 3/\(2<=u.2.1/\u.2.1<10)/\0<=u.2.2/\u.2.2<12)) (_:H' q=some (.lst vs)) (_:RDs H' (ws.map Wr.d) vs) (_:H' p=some (.lst uv)) (_:RDs H' (us.map L7) uv) (_:H' l=some (.lst (xs.map V.str))) (_:AI H' st) (_:But st H H')
theorem Xr(F:Fun K "_law_shop" "_law_shop" Ql f fd)(T:Txt mg)(C:Exc K mg c)(Zq3:Has P w K mg base "_law_ware" 2 ["_law_state", "_law_name", "_law_beneath"] DJ)(Zua:Has P w K mg base "_law_next" 1 ["_law_state", "_law_many"] AW):Ax P w K mg base CX0 3 f fd ["_law_state", "_law_names_here"] CF:=by
 refine F.go ["_law_state", "_law_names_here", "_law_wares", "_law_k", "_law_turn", "_law_wants"] ?_ ?_ ?_;walk_at "f";obtain⟨st,l,xs,rfl,hs,hl,lst',hx,nd,hnm,k⟩:=h;have hu:=Aw hr;refine⟨_,(A3 (Al (i:=2) Nd rfl (Zzq rfl) (B7 A0))
 (A3 (Bd PassesOwn.never rfl (C9 rfl T.Zsc (A2 A6 A0)) (Af (i:=3) Nd rfl (Zzq rfl))
 (A8 (Bf (Bw Zz7 Zyr Zyq By (pv 2) (A2 (A7 Zq3 hr.z rfl (A2 (pv 0) (A2 (Aa hu (pv 1) (pv 3) (λ_ _=>rfl)) (A2 (Bj Fg (pv 1) (Br (Ai Dr (pv 3) A6)) (Br A6)) A0)))) A0)))))
 (A3 (Al (i:=4) Nd rfl (Zzq rfl) (A7 Zua hr.z rfl (A2 (pv 0) (A2 A6 A0))))
 (A3 (Al (i:=5) Nd rfl (Zzq rfl) (B7 A0))
 (A3 (Bd PassesOwn.never rfl (C9 rfl T.Zsc (A2 (A7 Zua hr.z rfl (A2 (pv 0) (A2 A6 A0))) A0)) (Af (i:=3) Nd rfl (Zzq rfl))
 (A8 (Bf (Bw Zz7 Zyr Zyq By (pv 5) (A2 (As (A2 (Aa hu (pv 1) (A7 Zua hr.z rfl (A2 (pv 0) (A2 A6 A0))) (λ_ _=>rfl)) (A2 (Ai Dr A6 (A7 Zua hr.z rfl (A2 (pv 0) (A2 A6 A0)))) (A2 (A7 Zua hr.z rfl (A2 (pv 0) (A2 A6 A0))) A0)))) A0)))))
 (A8 (Ag (As (A2 (Au Bp rfl T.Ztf Cr (A2 (Ai Kb (Bj Fg (pv 2) (Br (pv 4)) Cc) (Bj Fg (pv 2) Cc (Br (pv 4)))) A0)) (A2 (Au Bp rfl T.Ztf Cr (A2 (pv 5) A0)) A0)))))))))),?_⟩
 walk_at "rd";refine⟨by decide,λq hq=>?_⟩;have qst:q≠st:=Zza (hs.ne hq);have lq:l≠q:=A9 hl hq;have hq1:upd H q (.lst []) q=some (.lst []):=A1;have s1:=hs.upd (o:=.lst []) (hs.ne hq);have b1:But st H (upd H q (.lst [])):=L1 hq;have hl1:upd H q (.lst []) l=some (.lst (xs.map V.str)):=by rw[Ab lq];exact hl
 generalize upd H q (.lst [])=H1 at hq1 s1 b1 hl1;refine⟨by decide,by decide,?_⟩;have xt:(xs.take 3).length=3:=by rw[Zz5];lia
 refine Cj (Le 0 _) (A26 st l q xs H) ⟨[],[],_,rfl,rfl,(λj w e=>by simp at e),hq1,RDs.nil,hl1,s1,b1⟩ (λ_ _ _ _ _=>trivial) (λi y Z H4 hi hy h=>?_) (λZ H4 h=>?_)
 ·obtain⟨ws,vs,o,rfl,wl,hk,hq4,r4,hl4,s4,b4⟩:=h;subst hy;walk_at "rd";have i0:(0+(i:Int))=(i:Int):=by lia
  rw[i0];have hi:i<3:=hi;obtain⟨nm,en⟩:∃nm,xs[i]?=some nm:=⟨_,Zzp (by lia)⟩;refine⟨Ck hq4,_,Rv (.inl hl4) (by lia) (v:=.str nm) (by rw[Zzw,Zxq,en];rfl),_,hl4,λc1 hc1=>?_⟩;have ecut:Ds (xs.map V.str) (some ((i:Int)+1)) (some 3)=((xs.take 3).drop (i+1)).map V.str:=by
   rw[yg (by lia) (by lia),List.drop_take,Zvq,Zvr];congr 1
  rw[ecut];have u4:=A5 (o:=.lst (((xs.take 3).drop (i+1)).map V.str)) hc1;refine⟨st,c1,nm,(xs.take 3).drop (i+1),rfl,s4.same u4,A1,Zza (s4.ne hc1),by rw[Zyj];lia,((List.drop_sublist _ _).trans (List.take_sublist _ _)).nodup nd,λv w H5 rw5 ew k5 s5 b5=>?_⟩;have b45:=(Iw u4).trans b5;have hq5:=b45 _ _ qst hq4;have hlv:=Ap r4;have kk:=(Dz b45 s4).trans (Jg (ys:=vs++[v]) hq5);refine⟨vs,hq5,Zze (show vs.length<1000 by lia) (Ae (Zzx _)),ws++[w],_,_,rfl,by rw[Zzc,wl];rfl,λj w' hj=>?_,A1,?_,?_,s5.upd (Zza qst),(b4.trans b45).upd hq⟩
  ·by_cases hjw:j<ws.length
   ·rw[Zy0 hjw] at hj;exact hk j w' hj
   ·rw[Zyi (by lia)] at hj;have hj0:j - ws.length=0:=by
     cases e:j - ws.length with
     |zero=>rfl
     |succ n=>rw[e] at hj;simp at hj
    rw[hj0] at hj;have hj:w=w':=by simpa using hj
    have hje:j=i:=by lia
    subst hj hje;exact⟨by rw[Zxx hi,en,ew],k5⟩
  ·rw[Zzi];exact RDs.app (RDs.ku kk _ _ (Bu Wr.d Kt _) r4) (RDs.one (RD.ku (Jg hq5) _ _ (Kt w) rw5))
  ·rw[Ab lq];exact b45 _ _ lst' hl4
 ·obtain⟨ws,vs,o,rfl,wl,hk,hq4,r4,hl4,s4,b4⟩:=h;walk_at "rd";refine⟨st,3,rfl,s4,by decide,by decide +kernel,λt H5 t0 t1 s5 b5=>?_⟩;obtain⟨t,rfl⟩:=Zxh t0;refine⟨Zym _,λp2 hp2=>?_⟩;have p2st:p2≠st:=Zza (s5.ne hp2);have hq5:=b5 _ _ qst hq4;have hl5:=b5 _ _ lst' hl4;have qp2:q≠p2:=A9 hq5 hp2;have lp2:l≠p2:=A9 hl5 hp2;have fp2:H p2=none:=(b4.trans b5).none p2st hp2;have u5:=A5 (o:=.lst []) hp2;have r5:=RDs.ku ((Dz b5 s4).trans u5.ku) _ _ (Bu Wr.d Kt _) r4;refine⟨st,5,rfl,s5.same u5,by decide,by decide +kernel,λm H6 m0 m1 s6 b6=>⟨m,rfl,by lia,by lia,?_⟩⟩;have kk6:=Dz b6 (s5.same u5);refine Cj (Le 0 _) (A27 st l q p2 t xs ws H) ⟨[],vs,[],_,rfl,rfl,(λu hu=>nomatch hu),b6 _ _ qst (u5 _ _ hq5),RDs.ku kk6 _ _ (Bu Wr.d Kt _) r5,b6 _ _ p2st A1,RDs.nil,b6 _ _ lst' (u5 _ _ hl5),s6,((b4.trans b5).same u5).trans b6⟩ (λ_ _ _ _ _=>trivial) (λi y Z H7 hi hy h=>?_) (λZ H7 h=>?_)
  ·obtain⟨us,vs,uv,o,rfl,ul,hus,hq7,r7,hp7,ru7,hl7,s7,b7⟩:=h;walk_at "rd";refine⟨Ck hp7,st,3,rfl,s7,by decide,by decide +kernel,λa H8 a0 a1 s8 b8=>?_⟩;obtain⟨nm,en⟩:∃nm,xs[a.toNat]?=some nm:=⟨_,Zzp (by lia)⟩;refine⟨_,Rv (.inl (b8 _ _ lst' hl7)) a0 (v:=.str nm) (by rw[Zzw,en];rfl),st,8,rfl,s8,by decide,by decide +kernel,λd H9 d0 d1 s9 b9=>⟨d,rfl,st,12,rfl,s9,by decide,by decide +kernel,λe H10 e0 e1 s10 b10=>⟨by decide,λtt ht=>?_⟩⟩⟩;have bb:=(b8.trans b9).trans b10;have hp10:=bb _ _ p2st hp7;have u:=A5 (o:=.tup [V.str nm,V.int (2+d),V.int e]) ht;have hlv:=Ap ru7;have kk:=((Dz bb s7).trans u.ku).trans (Jg (ys:=uv++[V.ref tt]) (u _ _ hp10));refine⟨uv,u _ _ hp10,Zze (show uv.length<1000 by lia) (Ae (Zzx _)),us++[(nm,2+d,e)],vs,_,_,rfl,by rw[Zzc,ul];rfl,λu' hu'=>?_,?_,RDs.ku kk _ _ (Bu Wr.d Kt _) r7,A1,?_,?_,(s10.same u).upd (Zza p2st),((b7.trans bb).same u).upd fp2⟩
   ·rcases Zz2.mp hu' with z | z
    ·exact hus u' z
    ·rw[Zzr.mp z];exact⟨Zzt (i:=a.toNat) (by rw[Zxx (by lia)];exact en),⟨by show 2<=2+d;lia,by show 2+d<10;lia⟩,e0,e1⟩
   ·rw[Ab qp2];exact u _ _ (bb _ _ qst hq7)
   ·rw[Zzi];refine RDs.app (RDs.ku kk _ _ (Bu L7 dh _) ru7) (RDs.one (RD.tup_mk (xs:=[V.str nm,V.int (2+d),V.int e]) ?_ (RDs.cons RD.str_mk (RDs.cons RD.int_mk (RDs.one RD.int_mk)))));rw[Ab (Zza (A9 hp10 ht)),A1]
   ·rw[Ab lp2];exact u _ _ (bb _ _ lst' hl7)
  ·obtain⟨us,vs,uv,o,rfl,ul,hus,hq7,r7,hp7,ru7,hl7,s7,b7⟩:=h;walk_at "rd";have ul:us.length<=4:=by lia
   have e1:Ds vs (some (t:Int)) none=vs.drop t:=by rw[Cu (by lia),Zxq]
   have e2:Ds vs none (some (t:Int))=vs.take t:=by rw[Wb (by lia),Zxq]
   have hlv:=Ap r7;have ll:(vs.drop t).length+(vs.take t).length<=sizeLine:=Zzk (m:=1000) (by rw[Zyj,Zz5];lia) (Ae (Zzx _));refine⟨vs,hq7,λa1 h1=>⟨vs,A5 h1 _ _ hq7,λa2 h2=>?_⟩⟩;rw[e1] at h2 ⊢;rw[e2];have v1:=A5 (o:=.lst (vs.drop t)) h1;have v2:=A5 (o:=.lst (vs.take t)) h2;refine⟨_,v2 _ _ A1,_,A1,ll,λa3 h3=>⟨_,.inl ⟨A1,λa4 h4=>⟨uv,.inl ⟨?_,λa5 h5=>⟨by decide,λa6 h6=>?_⟩⟩⟩⟩⟩⟩
   ·exact A5 h4 _ _ (A5 h3 _ _ (v2 _ _ (v1 _ _ hp7)))
   have v3:=A5 (o:=.lst (vs.drop t++vs.take t)) h3;have v4:=A5 (o:=.tup (vs.drop t++vs.take t)) h4;have v5:=A5 (o:=.tup uv) h5;have v6:=A5 (o:=.tup [V.ref a4,V.ref a5]) h6;have vv:=((((v1.trans v2).trans v3).trans v4).trans v5).trans v6;have r9:=RDs.same vv _ _ r7;have hg:=A0t (xs:=xs.take 3) (ws:=ws) (ws':=ws.drop t++ws.take t) (us:=us) ((List.take_sublist _ _).nodup nd) (λx hx=>hnm x (Zwp hx)) (by lia) (by lia) hk (mv t ws) ⟨by lia,λu hu=>⟨(hus u hu).1,⟨by have:=(hus u hu).2.1;lia,by have:=(hus u hu).2.1;lia⟩,(hus u hu).2.2.1,Zvc (hus u hu).2.2.2 (by decide +kernel)⟩⟩;refine k (.ref a6) ⟨ws.drop t++ws.take t,us⟩ _ ?_ ⟨hg.1,hg.2⟩ ul (s7.same vv) (b7.same vv);unfold Sh.d;refine RD.tup_mk A1 (RDs.cons (RD.tup_mk (v6 _ _ (v5 _ _ A1)) ?_) (RDs.one (RD.tup_mk (v6 _ _ A1) (RDs.same vv _ _ ru7))));show RDs _ ((ws.drop t++ws.take t).map Wr.d) _;rw[Zzi,Zvr,Zvq];exact RDs.app (Mf t r9) (Me t r9)
end
set_option maxHeartbeats 4000000
section
variable {dk:Dk}{c:Cl}
def Pe(u:Wt)(S:Sh):Sh:=⟨S.wares,S.wants++[u]⟩
def S4(i:Nat)(S:Sh):Sh:=⟨S.wares,S.wants.take i++S.wants.drop (i+1)⟩
inductive DC (vs:List V) (H:Hp) (Q:VK) (E:XK):Prop | mk (v:V) (S:Sh) (nm:Str) (d n:Int) (_:vs=[v,.str nm,.int d,.int n]) (_:RD H S.d v) (_:Sc S) (_:Ln S) (_:nm∈S.wares.map (·.name)) (_:S.wants.length<=1000) (_:∀x H',RD H' (Pe (nm,d,n) S).d x->AA H H'->Q x H')
theorem Vk(F:Fun K "with_want" "with_want" O9 f fd)(T:Txt mg)(C:Exc K mg c)(Zu0:Lo P w K mg base "check_rings" 4 ["shop"] (E7 c))(Zt1:Lo P w K mg base "ware_of" 1 ["shop", "name"] (J7 c)):Ax P w K mg base CX0 5 f fd ["shop", "name", "day", "amount"] DC:=by
 refine F.go ["shop", "name", "day", "amount"] ?_ ?_ ?_;walk_at "f";obtain⟨v,S,nm,d,n,rfl,rs,ok,no,hnm,hw,k⟩:=h;have hu:=Aw hr;refine⟨_,(A3 (Bf (Ch Zu0 U8 hr.z rfl (A2 (pv 0) A0)))
 (A3 (Bf (Ch Zt1 U8 hr.z rfl (A2 (pv 0) (A2 (pv 1) A0))))
 (A8 (Ag (As (A2 (Aa hu (pv 0) A6 (λ_ _=>rfl)) (A2 (Ai G3 (Aa hu (pv 0) A6 (λ_ _=>rfl)) (As (A2 (As (A2 (pv 1) (A2 (pv 2) (A2 (pv 3) A0)))) A0))) A0))))))),?_⟩
 obtain⟨a,b,cc,ws,us,rfl,ha,hb,hc,rws,rus⟩:=Bq rs;have hlu:=Ap rus;walk_at "rd";refine⟨.ref a,S,rfl,rs,ok,.inl ⟨no,λH1 s1=>⟨.ref a,S,nm,rfl,RD.same s1 _ _ rs,ok,.inl ⟨hnm,λx w hwm ew rw'=>?_⟩⟩⟩⟩;refine⟨_,Ah (j:=0) (s1 _ _ ha) rfl,_,Ah (j:=1) (s1 _ _ ha) rfl,?_⟩;refine⟨by decide,λp hp=>⟨by decide,λq hq=>⟨cc,rfl,us,?_⟩⟩⟩;have u1:=A5 (o:=.tup [.str nm,.int d,.int n]) hp;have u2:=A5 (o:=.tup [.ref p]) hq;have s3:=s1.trans (u1.trans u2);have hp3:=u2 _ _ (A1 (H:=H1) (a:=p) (o:=.tup [.str nm,.int d,.int n]));have hq3:=A1 (H:=upd H1 p (.tup [.str nm,.int d,.int n])) (a:=q) (o:=.tup [.ref p]);generalize upd (upd H1 p (.tup [.str nm,.int d,.int n])) q (.tup [.ref p])=H3 at s3 hp3 hq3 ⊢;refine⟨s3 _ _ hc,_,hq3,Zzk (m:=1001) (by rw[Zya];lia) (by decide),λr H4 hr4 s4 _=>⟨by decide,λt ht=>?_⟩⟩;have s5:=s4.trans (A5 (o:=.tup [.ref b,.ref r]) ht);have s05:=s3.trans s5;refine k _ _ ?_ s05;unfold Pe Sh.d;refine RD.tup_mk A1 (RDs.cons (RD.tup_mk (s05 _ _ hb) (RDs.same s05 _ _ rws)) (RDs.one (RD.tup_mk (A5 ht _ _ hr4) ?_)));rw[Zzi];exact RDs.app (RDs.same s05 _ _ rus) (RDs.one (RD.tup_mk (xs:=[.str nm,.int d,.int n]) (s5 _ _ hp3) (RDs.cons RD.str_mk (RDs.cons RD.int_mk (RDs.one RD.int_mk)))))
inductive CD (vs:List V) (H:Hp) (Q:VK) (E:XK):Prop | mk (v:V) (S:Sh) (i:Nat) (_:vs=[v,.int i]) (_:RD H S.d v) (_:S.wants.length<=1000) (_:i<S.wants.length) (_:∀x H',RD H' (S4 i S).d x->AA H H'->Q x H')
theorem P7(F:Fun K "without_want" "without_want" K2 f fd)(T:Txt mg)(C:Exc K mg c):Ax P w K mg base CX0 1 f fd ["shop", "place"] CD:=by
 refine F.go ["shop", "place"] ?_ ?_ ?_;walk_at "f";obtain⟨v,S,i,rfl,rs,hw,hi,k⟩:=h;have hu:=Aw hr;refine⟨_,(A8 (Ag (As (A2 (Aa hu (pv 0) A6 (λ_ _=>rfl)) (A2 (Ai G3 (Bj Ks (Aa hu (pv 0) A6 (λ_ _=>rfl)) Cc (Br (pv 1))) (Bj Ks (Aa hu (pv 0) A6 (λ_ _=>rfl)) (Br (Ai Dr (pv 1) A6)) Cc)) A0))))),?_⟩;obtain⟨a,b,cc,ws,us,rfl,ha,hb,hc,rws,rus⟩:=Bq rs;have hlu:=Ap rus;walk_at "rd";refine⟨_,Ah (j:=0) ha rfl,_,Ah (j:=1) ha rfl,cc,rfl,us,hc,λp1 H1 hp1 s1 _=>⟨_,Ah (j:=1) (s1 _ _ ha) rfl,cc,rfl,us,s1 _ _ hc,λp2 H2 hp2 s2 _=>?_⟩⟩;have e1:Ds us none (some (i:Int))=us.take i:=by rw[Wb (by lia),Zxq]
 have e2:Ds us (some ((i:Int)+1)) none=us.drop (i+1):=by rw[Cu (by lia)];rfl
 rw[e1] at hp1;rw[e2] at hp2;refine⟨_,s2 _ _ hp1,_,hp2,Zzk (m:=1000) (by rw[Zz5,Zyj];lia) (by decide),λr H3 hr3 s3 _=>⟨by decide,λt ht=>?_⟩⟩;have s4:=(s1.trans s2).trans s3;have s5:=s4.trans (A5 (o:=.tup [.ref b,.ref r]) ht);refine k _ _ ?_ s5;unfold S4 Sh.d;refine RD.tup_mk A1 (RDs.cons (RD.tup_mk (s5 _ _ hb) (RDs.same s5 _ _ rws)) (RDs.one (RD.tup_mk (A5 ht _ _ hr3) ?_)));rw[Zzi,Zvq,Zvr];have r5:=RDs.same s5 _ _ rus;exact RDs.app (Me i r5) (Mf (i+1) r5)
inductive Ek
 |text | shop | ring | name | day
def Cl.ek(c:Cl):Ek->Addr
 |.text=>c.NoText
 |.shop=>c.NoShop
 |.ring=>c.Ring
 |.name=>c.NoName
 |.day=>c.NoDay
def bh(t:Str)(e:Ek):Prop:=(∃x ws,A1b t x ws/\10∉t.cps.toList/\e=.text)\/∃rs S,t=Ew rs/\Na rs S/\((okS S=false/\e=.shop)\/(okS S=true/\Sc S/\∃x,gq S x/\x.length<=8/\e=.ring))
def Ir(c:Cl):Sp:=λvs H Q E=>∃t:Str,vs=[.str t]/\((∃S,t=Ew (Ca S)/\AJ 11 S/\∀q H',RD H' S.d (.ref q)->AA H H'->Q (.ref q) H')\/∃e,bh t e/\∀H',AA H H'->E (.ref (c.ek e)) none H')
theorem BW:Ce ["text", "shop"] ["text"] (Ar Gc):=by walk_at "sc"
theorem No(F:Fun K "read_ringless" "read_ringless" Gc f fd)(T:Txt mg)(C:Exc K mg c)(Zqd:Lo P w K mg base "read_shop" 9 ["text"] (Lu c))(Zu0:Lo P w K mg base "check_rings" 4 ["shop"] (E7 c)):Ax P w K mg base (CXE P w) 10 f fd ["text"] (Ir c):=by
 refine F.okX BW (λvs H Q E h=>?_) (λcdv A outer s H vs Q E hr h=>?_)
 ·obtain⟨t,rfl,_⟩:=h;rfl
 ·obtain⟨t,rfl,h⟩:=h;have hu:=Aw hr;refine⟨_,(A3 (Al (i:=1) BW.nd rfl (Zzq rfl) (Ch Zqd Op hr.z rfl (A2 (pv 0) A0)))
 (A3 (Bf (Ch Zu0 Op hr.z rfl (A2 (pv 1) A0)))
 (A8 (Ag (pv 1))))),?_⟩
  walk_at "rd";refine⟨t,rfl,?_⟩;rcases h with ⟨S,rfl,g,k⟩ | ⟨e,(⟨x,ws,bd,n10,rfl⟩ | ⟨rs,S,rfl,sr,h⟩),ke⟩
  ·refine .inl ⟨Ca S,S,rfl,Nj g.sd.weak g.ws.nd,λ_ q H1 rq s1=>?_,λz=>by rw[g.sd.okS] at z;cases z⟩;exact⟨_,S,rfl,rq,g.ok,.inl ⟨g.no,λH2 s2=>k q H2 (RD.same s2 _ _ rq) (s1.trans s2)⟩⟩
  ·exact .inr ⟨x,ws,bd,n10,ke⟩
  ·rcases h with ⟨ob,rfl⟩ | ⟨ob,so,x,r1,lx,rfl⟩
   ·exact .inl ⟨rs,S,rfl,sr,(λz=>by rw[ob] at z;cases z),λ_=>ke⟩
   ·exact .inl ⟨rs,S,rfl,sr,λ_ q H1 rq s1=>⟨_,S,rfl,rq,so,.inr ⟨x,r1,lx,λH2 s2=>ke H2 (s1.trans s2)⟩⟩,λz=>by rw[ob] at z;cases z⟩
end
set_option maxHeartbeats 4000000
section
variable {dk:Dk}{c:Cl}
inductive Qn
 |want (nm:Str) (d n:Int)
 |drop (i:Nat)
 |plan
def Qn.first:Qn->Str
 |.want .. => "want"
 |.drop _ => "drop"
 |.plan => "plan"
def Qn.keys:Qn->List Key
 |.want nm d n=>[.inr nm,.inl d,.inl n]
 |.drop i=>[.inl i]
 |.plan=>[]
def Qn.form:Qn->List Str
 |.want ..=>["name", "day", "number"]
 |.drop _=>["place"]
 |.plan=>[]
def Qn.due(S:Sh):Qn->Option Ek
 |.want nm d _=>if nm∉S.wares.map (·.name) then some .name else if 400<d then some .day else if 20<=S.wants.length then some .shop else none
 |.drop i=>if S.wants.length<=i then some .day else none
 |.plan=>none
def Qn.past(S:Sh)(i:Nat):Qn->Prop
 |.want nm d _=>(1<=i->nm∈S.wares.map (·.name))/\(2<=i->d<=400)
 |.drop j=>1<=i->j<S.wants.length
 |.plan=>True
def Qn.fit:Qn->Prop
 |.want nm d n=>Aq nm=true/\(0<=d/\d<10^60)/\0<=n/\n<10^60
 |.drop i=>(i:Int)<10^60
 |.plan=>True
def La(c:Cl):Sp:=λvs H Q E=>∃(v:V) (q:Qn) (a:Addr),vs=[v,.str q.first,.ref a]/\q.fit/\H a=some (.lst (q.keys.map kV))/\((v=.non/\E (.ref c.NoShop) none H)\/∃S,RD H S.d v/\Sc S/\S.wants.length<=1000/\(q.due S=none->∀H',AA H H'->Q .non H')/\∀e,q.due S=some e->∀H',AA H H'->E (.ref (c.ek e)) none H')
inductive A2k (v:V) (q:Qn) (a:Addr) (S:Sh) (H:Hp) (i:Nat) (Z:St) (H':Hp):Prop | mk (o3 o4:Option V) (_:Z=[some v,some (.str q.first),some (.ref a),o3,o4]) (_:q.past S i) (_:AA H H')
theorem my(h1:Jt K l "want" ["name", "day", "number"])(h2:Jt K l "drop" ["place"])(h3:Jt K l "plan" [])(q:Qn):∃fa,Gn l q.first=.ref fa/\∀H:Hp,SqT K H fa (q.form.map V.str):=by
 cases q
 ·exact N1 h1 (by show 3<=1000;decide)
 ·exact N1 h2 (by show 1<=1000;decide)
 ·exact N1 h3 (by show 0<=1000;decide)
theorem Y2(h:Aq x=true):∀c∈x.cps.toList,c<1114112:=λc hc=>by
 have k:∀c∈AU,c<1114112:=by decide +kernel
 exact k c ((dj h).2.2 c hc)
theorem mh{n:Int}(h0:0<=n)(h1:n<10^60)(hx:x.length<=100):n.natAbs<10^577/\(Str.empty++x++Bs n).length<=1000000:=by
 have h:0<=n/\n<10^577:=⟨h0,Zvc h1 (by decide +kernel)⟩;have:=(El h).2.2.2;refine⟨Gd h,?_⟩;rw[Str.empty_append,strLen_append];lia
theorem BQ:Ce ["shop", "first", "members", "member", "sort"] ["shop", "first", "members"] (Ar J9):=by walk_at "sc"
theorem Sx(F:Fun K "check_told" "check_told" J9 f fd)(T:Txt mg)(Fo:Fms w K mg)(C:Exc K mg c)(Zt1:Lo P w K mg base "ware_of" 1 ["shop", "name"] (J7 c)):Ax P w K mg base (CXE P w) 2 f fd ["shop", "first", "members"] (La c):=by
 refine F.okX BQ (λvs H Q E h=>?_) (λcdv A outer s H vs Q E hr h=>?_)
 ·obtain⟨v,q,a,rfl,_⟩:=h;rfl
 ·obtain⟨v,q,a,rfl,fit,hq,h⟩:=h;have hu:=Aw hr;obtain⟨F_a,F_l,F_m,F_t,f1,f2,f3,f4⟩:=Fo;refine⟨_,(A3 (B0 (An o8 (pv 0) Ka (Ao _)) (A8 (D8 Kd rfl rfl C.Zq7 C.Zro (A2 Ac A0))) Am)
 (A3 (Bd PassesOwn.leaving rfl (d8 rfl T.Zpq (A2 (pv 2) (A2 (A0f F_t (Fi (v:=.ref F_a) rfl F_m rfl) (pv 1) (λ_ _=>rfl)) A0))) (Hr (n:=2) rfl (B8 (Af (i:=3) BQ.nd rfl (Zzq rfl)) (B8 (Af (i:=4) BQ.nd rfl (Zzq rfl)) E9)))
 (A3 (B0 (An (Bg hu) (pv 4) Ac (Ao _)) (A8 (Bf (Ch Zt1 Op hr.z rfl (A2 (pv 0) (A2 (pv 3) A0))))) Am)
 (A3 (B0 (PW.pt (K9 (An (Bg hu) (pv 4) Ac (Ao _)) (Hy (An Oq (pv 3) (Ak rfl T.Zte) (Ao _))))) (A8 (D8 Kd rfl rfl C.Zpr C.Zqz (A2 (Ve (Mj (Mi (Ak rfl T.Zte) Pn))) A0))) Am)
 (A8 (B0 (PW.pt (K9 (An (Bg hu) (pv 4) Ac (Ao _)) (Hy (An o9 (pv 3) (Aj Bt rfl T.Ztg Cv (A2 (Aa hu (pv 0) A6 (λ_ _=>rfl)) A0)) (Ao _))))) (A8 (D8 Kd rfl rfl C.Zpr C.Zqz (A2 (Ve (Mj (Mi (pv 3) Pn))) A0))) Am)))))
 (A8 (B0 (PW.pt (K9 (An (Bg hu) (pv 1) Ac (Ao _)) (Hy (An o9 (Aj Bt rfl T.Ztg Cv (A2 (Aa hu (pv 0) A6 (λ_ _=>rfl)) A0)) (Ak rfl T.Ztj) (Ao _))))) (A8 (D8 Kd rfl rfl C.Zq7 C.Zro (A2 (Ve (Mj (Mi (Ak rfl T.Ztj) (Mj Pn)))) A0))) Am)))),?_⟩
  walk_at "rd";rcases h with ⟨rfl,ke⟩ | ⟨S,rs,so,hw,k,ke⟩
  ·rw[FT (by decide)];exact⟨by decide,ke⟩
  obtain⟨fa,q1,q2⟩:=my f1 f2 f3 q;obtain⟨sa,sb,sc,ws,us,rfl,ha,hb,hc,rws,rus⟩:=Bq rs;have hul:=Ap rus;rw[FS (λz=>by cases FP z)];refine⟨fa,q1,_,hq,_,q2 H,?_⟩;refine fg (qq _ a fa _ _) (A2k (.ref sa) q a S H) ⟨_,_,rfl,by cases q<;>simp[Qn.past],AA.refl _⟩ (λi Z H' _ h=>?_) (λi ys t Z H' hi hy h ht=>?_) (λZ H' h=>?_)
  ·obtain⟨_,_,_,_,s'⟩:=h;exact⟨s' _ _ hq,q2 H'⟩
  ·obtain⟨o1,o2,rfl,pa,s1⟩:=h;obtain⟨y,z,ey,ez,rfl⟩:=hy;have s2:=s1.trans (A5 (o:=.tup [y,z]) ht);refine gT2 ?_;generalize upd H' t (.tup [y,z])=H2 at s2;cases q with
   |plan=>cases ey
   |drop j =>
    have i0:i=0:=by
     cases i with
     |zero=>rfl
     |succ n=>cases ey
    subst i0;have ey:V.int j=y:=Zzm ey;have ez:V.str "place" = z:=Zzm ez;subst ey ez;walk_at "rd";refine⟨rfl,?_⟩;rw[FS (by decide +kernel)];refine⟨rfl,?_⟩;rw[FS (by decide +kernel)];refine⟨rfl,?_⟩;rw[FT (by decide)];refine⟨_,Ah (j:=1) (s2 _ _ ha) rfl,sc,rfl,us,.inr (s2 _ _ hc),Du (λz=>?_) (λz=>?_)⟩
    ·have z:=FP z
     obtain⟨l1,l2⟩:=mh (x := "no want has the number ") (Zvg j) fit (by decide);exact⟨by decide,l1,l2,l2,by decide,ke .day (FT (by lia)) _ s2⟩
    ·have z:¬ ((us.length:Nat):Int)<=j:=λy=>z (FQ y)
     exact⟨_,_,rfl,λ_=>by lia,s2⟩
   |want nm d n =>
    have no:∀{α:Type} {a b:α} {h:nm∈S.wares.map (·.name)},(if nm∉S.wares.map (·.name) then a else b)=b:=λ{_ _ _ h}=>FS λz=>z h;match i,ey,ez,pa with
    |0,ey,ez,pa =>
     have ey:V.str nm=y:=Zzm ey;have ez:V.str "name" = z:=Zzm ez;subst ey ez;walk_at "rd";refine⟨rfl,?_⟩;rw[FT (by decide)];refine⟨_,S,nm,rfl,RD.same s2 _ _ rs,so,?_⟩;by_cases hm:nm∈S.wares.map (·.name)
     ·refine .inl ⟨hm,λx w _ _ _=>⟨rfl,?_⟩⟩;rw[FS (by decide +kernel)];refine⟨rfl,?_⟩;rw[FS (by decide +kernel)];exact⟨_,_,rfl,⟨λ_=>hm,λz=>absurd z (by decide)⟩,s2⟩
     ·exact .inr ⟨hm,Zzk (Cq fit.1) (by decide),Y2 fit.1,ke .name (FT hm) _ s2⟩
    |1,ey,ez,pa =>
     have ey:V.int d=y:=Zzm ey;have ez:V.str "day" = z:=Zzm ez;subst ey ez;have hm:=pa.1 (Zzx _);walk_at "rd";refine⟨rfl,?_⟩;rw[FS (by decide +kernel)];refine⟨rfl,?_⟩;rw[FT (by decide)];refine Du (λz=>?_) (λz=>⟨rfl,?_⟩)
     ·have z:=FP z
      exact⟨by decide,by decide +kernel,by decide +kernel,by decide +kernel,by decide,ke .day ((no (h:=hm)).trans (FT z)) _ s2⟩
     ·rw[FS (by decide +kernel)];exact⟨_,_,rfl,⟨λ_=>hm,λ_=>Int.not_lt.mp λy=>z (FQ y)⟩,s2⟩
    |2,ey,ez,pa =>
     have ey:V.int n=y:=Zzm ey;have ez:V.str "number" = z:=Zzm ez;subst ey ez;walk_at "rd";refine⟨rfl,?_⟩;rw[FS (by decide +kernel)];refine⟨rfl,?_⟩;rw[FS (by decide +kernel)];refine⟨rfl,?_⟩;rw[FS (by decide +kernel)];exact⟨_,_,rfl,⟨λ_=>pa.1 (by decide),λ_=>pa.2 (Zzx _)⟩,s2⟩
    |n+3,ey,ez,pa=>cases ey
  ·obtain⟨o1,o2,rfl,pa,s1⟩:=h;walk_at "rd";refine⟨rfl,?_⟩;cases q with
   |plan =>
    rw[FS (by decide +kernel)];exact k rfl H' s1
   |drop j =>
    rw[FS (by show ¬ decide (("drop" : Str) = "want")=true;decide +kernel)];have pa:j<S.wants.length:=pa (by show 1<=min 1 1;decide);exact k (FS (by lia)) H' s1
   |want nm d n =>
    have h1:=pa.1 (by show 1<=min 3 3;decide);have h2:=pa.2 (by show 2<=min 3 3;decide);rw[FT (by show decide (("want" : Str) = "want")=true;decide +kernel)];refine⟨_,Ah (j:=1) (s1 _ _ ha) rfl,sc,rfl,us,.inr (s1 _ _ hc),Du (λz=>?_) (λz=>?_)⟩
    ·have z:=FP z
     exact⟨by decide,by decide +kernel,by decide +kernel,by decide +kernel,by decide +kernel,by decide,ke .shop ((FS λy=>y h1).trans ((FS (by lia)).trans (FT (by lia)))) _ s1⟩
    ·have z:¬ (20:Int)<=((us.length:Nat):Int):=λy=>z (FQ y)
     exact k ((FS λy=>y h1).trans ((FS (by lia)).trans (FS (by lia)))) H' s1
end
set_option maxHeartbeats 4000000
section
variable {dk:Dk}{c:Cl}
inductive Ts (Pt:Addr) (vs:List V) (H:Hp) (Q:VK) (E:XK):Prop | mk (v:V) (S:Sh) (a:Addr) (_:vs=[v,.str "plan",.ref a]) (_:RD H S.d v) (_:AJ 11 S) (_:Tb H Pt) (_:∀y H',Es S y->Tb H' Pt->But Pt H H'->Q (.str y) H')
theorem im(F:Fun K "answer" "answer" Xd f fd)(T:Txt mg)(C:Exc K mg c)(Zqr:Has P w K mg base "shown_plan" 8 ["shop"] (L9 Pt)):Ax P w K mg base CX0 9 f fd ["shop", "first", "members"] (Ts Pt):=by
 refine F.go ["shop", "first", "members", "days"] ?_ ?_ ?_;walk_at "f";obtain⟨v,S,a,rfl,rs,g,tb,k⟩:=h;have hu:=Aw hr;refine⟨_,(A3 (B0 (An (Bg hu) (pv 1) Ac (Ao _)) (A8 (Ag (A7 Zqr hr.z rfl (A2 (pv 0) A0)))) Am)
 U6),?_⟩
 walk_at "rd";refine⟨rfl,?_⟩;rw[FT (by decide)];exact⟨v,S,11,rfl,rs,g,by decide,by decide,tb,k⟩
def Kp(dk:Dk)(H:Hp)(x:Addr)(v:V):Prop:=∃dx,H x=some (.ins dk.C dx [("kept",v)])
def AR(dk:Dk)(H:Hp)(x:Addr):Option Sh->Prop
 |none=>Kp dk H x .non
 |some S=>∃v,Kp dk H x v/\RD H S.d v/\AJ 11 S
inductive Lb (dk:Dk) (vs:List V) (H:Hp) (Q:VK) (E:XK):Prop | mk (x dx:Addr) (_:vs=[.ref x]) (_:H x=some (.ins dk.C dx [])) (_:Q .non (upd H x (.ins dk.C dx [("kept",.non)])))
theorem Sz(F:Fun K "__init__" "Desk.__init__" E8 f fd)(T:Txt mg)(De:Dsk K mg dk)(C:Exc K mg c):Ax P w K mg base CX0 1 f fd ["self"] (Lb dk):=by
 refine F.go ["self"] ?_ ?_ ?_;walk_at "f";obtain⟨x,dx,rfl,hx,k⟩:=h;refine⟨_,(A8 (Vc (pv 0) Ka rfl)),?_⟩;walk_at "rd";exact⟨_,dx,_,hx,De.c,De.nk,by decide,k⟩
def Qn.text(q:Qn):Str:=Str.join (one 32) (q.first::q.keys.map AG)
def Qn.to(S:Sh):Qn->Option Sh
 |.want nm d n=>some (Pe (nm,d,n) S)
 |.drop i=>some (S4 i S)
 |.plan=>none
def Qn.dueO(q:Qn):Option Sh->Option Ek
 |none=>some .shop
 |some S=>q.due S
theorem d3{q:Qn}(h:q.fit):∀k∈q.keys,Iq k:=λk hk=>by
 cases q with
 |plan=>cases hk
 |drop i=>rw[Zzr.mp hk];exact⟨Zvg i,h⟩
 |want nm d n =>
  simp only[Qn.keys,Zzu,Zzf,or_false] at hk;rcases hk with rfl | rfl | rfl
  ·exact h.1
  ·exact h.2.1
  ·exact h.2.2
theorem cz:∀q:Qn,32∉q.first.cps.toList/\q.first.length<=60/\q.keys.length<=3/\q.form.length=q.keys.length
 |.want ..=>⟨by show 32∉("want" : Str).cps.toList;decide +kernel,by show ("want" : Str).length<=60;decide,by show 3<=3;decide,rfl⟩
 |.drop _=>⟨by show 32∉("drop" : Str).cps.toList;decide +kernel,by show ("drop" : Str).length<=60;decide,by show 1<=3;decide,rfl⟩
 |.plan=>by decide +kernel
theorem vp{q:Qn}(h:q.fit):Txt.split q.text (one 32)=q.first::q.keys.map AG/\q.text.length<=1000:=by
 obtain⟨f1,f2,f3,_⟩:=cz q;have ck:=d3 h;refine⟨Ey (by decide) (by simp) λx hx=>?_,?_⟩
 ·rcases Zzu.mp hx with rfl | hx
  ·exact f1
  ·obtain⟨k,hk,rfl⟩:=Zzo.mp hx;exact(Ih (ck k hk)).1.1
 ·have:=G7 (sep:=one 32) (B:=60) (xs:=q.first::q.keys.map AG) λx hx=>by
   rcases Zzu.mp hx with rfl | hx
   ·exact f2
   ·obtain⟨k,hk,rfl⟩:=Zzo.mp hx;exact(Ih (ck k hk)).2
  rw[Zz3,Zzz,show (one 32).length=1 from rfl] at this;show (Str.join (one 32) (q.first::q.keys.map AG)).length<=1000;lia
theorem Pj{y:Str}(h:5<=x.length)(e:Txt.startswith x "shop\n" = false):Txt.startswith (x++y) "shop\n" = false:=(PySem.W.KAf.starts_left (show ("shop\n" : Str).length<=x.length from h)).trans e
theorem mx:∀q:Qn,Txt.startswith q.text "shop\n" = false
 |.want nm d n=>Pj (x := "want" ++ one 32) (y:=Str.join (one 32) [nm,Bs d,Bs n]) (by decide) (by decide +kernel)
 |.drop i=>Pj (x := "drop" ++ one 32) (y:=Bs i) (by decide) (by decide +kernel)
 |.plan=>by decide +kernel
theorem Sa{s:Str}{n:Int}(hs:s ≠ "name")(h:Iq (.inl n)):G9 s (Bs n)=true/\Dv s (Bs n)=.inl n/\(if s = "name" then Aq (Bs n)=true else 1<=(Bs n).length/\(Bs n).length<=60):=by
 obtain⟨h1,h2,h3,h4⟩:=Ph h.1 h.2;unfold G9 Dv;rw[FS hs,FS hs,FS hs];exact⟨h1,congrArg Zvb (by show (Zxj (Bs n)).getD 0=n;rw[show Zxj (Bs n)=some n from h2];rfl),h3,h4⟩
theorem Q1{fs:List Str}(hl:ws.length=fs.length)(h1:∀z∈ws.zip fs,G9 z.2 z.1=true/\(if z.2 = "name" then Aq z.1=true else 1<=z.1.length/\z.1.length<=60))(h2:J4 ws fs=ks):Et ws fs=true/\J4 ws fs=ks/\P0 ws fs:=by
 refine⟨?_,h2,λz hz=>(h1 z hz).2⟩;unfold Et;rw[FQ hl,Zyf,Zyu];exact λz hz=>(h1 z hz).1
theorem Zd:∀{q:Qn},q.fit->Et (q.keys.map AG) q.form=true/\J4 (q.keys.map AG) q.form=q.keys/\P0 (q.keys.map AG) q.form
 |.plan,_=>Q1 rfl (λz hz=>by cases hz) rfl
 |.drop i,h=>by
  have a:=Sa (s := "place") (by decide +kernel) (d3 h _ (Zzr.mpr rfl));refine Q1 rfl (λz hz=>?_) ?_
  ·rw[Zzr.mp hz];exact⟨a.1,a.2.2⟩
  ·show [Dv "place" (Bs i)]=_
   rw[a.2.1];rfl
 |.want nm d n,h=>by
  have a:=Sa (s := "day") (by decide +kernel) (n:=d) h.2.1;have b:=Sa (s := "number") (by decide +kernel) (n:=n) h.2.2;refine Q1 rfl (λz hz=>?_) ?_
  ·have hz:z=(nm,("name" : Str))\/z=(Bs d,("day" : Str))\/z=(Bs n,("number" : Str)):=by
    have hz:z∈[(nm,("name" : Str)),(Bs d, "day"),(Bs n, "number")]:=hz;simpa using hz
   rcases hz with rfl | rfl | rfl
   ·exact⟨(FT rfl).trans h.1,by rw[FT rfl];exact h.1⟩
   ·exact⟨a.1,a.2.2⟩
   ·exact⟨b.1,b.2.2⟩
  ·show [Dv "name" nm,Dv "day" (Bs d),Dv "number" (Bs n)]=_
   rw[a.2.1,b.2.1];rfl
def N5:List Str:=["want", "drop", "plan", "late", "most", "stock", "serves", "buy"]
structure A2m(y x:Str)(ws:List Str):Prop where
 ns:Txt.startswith y "shop\n" = false
 sp:Txt.split y (one 32)=x::ws
 len:y.length<=1000
 few:ws.length<=100
 bad:x∉N5\/∃q:Qn,x=q.first/\(ws.length=q.form.length->P0 ws q.form)/\Et ws q.form=false
theorem Xa(y:Str):Txt.startswith ("shop\n" ++ y) "shop\n" = true:=by
 rw[PySem.W.KAf.starts_left (Zzx _)];decide +kernel
theorem se(y:Str):T8 ("shop\n" ++ y) (some 5) none=y:=by
 have e:(("shop\n" : Str)++y).cps.toList=("shop\n" : Str).cps.toList++y.cps.toList:=Zuo _ _;have l:(("shop\n" : Str)++y).length=5+y.length:=strLen_append ..;unfold T8;rw[e,l];have s1:HT.sIx (5+y.length) 0 (some 5)=5:=by show min 5 _=5;lia
 rw[s1,HT.mj,show 5+y.length - 5=y.length by lia];have d:(("shop\n" : Str).cps.toList++y.cps.toList).drop 5=y.cps.toList:=rfl;rw[d,Zxc (by rw[Zxz];exact Zzx _)]
inductive Tr
 |ok (S:Sh)
 |plan (S:Sh)
 |no (e:Ek)
inductive AQ (o:Option Sh):V->Tr->Prop
 |non:AQ o .non (.no .text)
 |int (i:Int):AQ o (.int i) (.no .text)
 |shop {S:Sh} (g:AJ 11 S):AQ o (.str ("shop\n" ++ Ew (Ca S))) (.ok S)
 |noshop {y:Str} {e:Ek} (l:y.length<=200000) (h:bh y e):AQ o (.str ("shop\n" ++ y)) (.no e)
 |bad {y x:Str} {ws:List Str} (h:A2m y x ws):AQ o (.str y) (.no .text)
 |due {q:Qn} {e:Ek} (f:q.fit) (h:q.dueO o=some e):AQ o (.str q.text) (.no e)
 |to {q:Qn} {S S':Sh} (f:q.fit) (h:o=some S) (d:q.due S=none) (t:q.to S=some S') (g:AJ 11 S'):AQ o (.str q.text) (.ok S')
 |plan {S:Sh} (h:o=some S):AQ o (.str (Qn.text .plan)) (.plan S)
def Aft(dk:Dk)(Pt x:Addr)(H:Hp)(Q:VK)(N:Ek->Hp->Prop):Tr->Prop
 |.ok S=>∀H',AR dk H' x (some S)->(∀b u,b≠x->H b=some u->H' b=some u)->Q (.str "ok") H'
 |.plan S=>∀y H',Es S y->Tb H' Pt->But Pt H H'->Q (.str y) H'
 |.no e=>∀H',AA H H'->N e H'
def Go(c:Cl)(dk:Dk)(Pt:Addr):Sp:=λvs H Q E=>∃(x:Addr) (t:V) (o:Option Sh) (r:Tr),vs=[.ref x,t]/\AR dk H x o/\Tb H Pt/\AQ o t r/\Aft dk Pt x H Q (λe H'=>E (.ref (c.ek e)) none H') r
theorem eh{dk:Dk}{x:Addr}:∀{o:Option Sh},AR dk H x o->∃v dx,H x=some (.ins dk.C dx [("kept",v)])/\(o=none->v=.non)/\∀S,o=some S->RD H S.d v/\AJ 11 S
 |none,h=>by obtain⟨dx,h⟩:=h;exact⟨_,dx,h,λ_=>rfl,λS z=>by cases z⟩
 |some S,h=>by obtain⟨v,⟨dx,h1⟩,h2⟩:=h;exact⟨v,dx,h1,(λz=>by cases z),λS' e=>by cases e;exact h2⟩
theorem Ru{dk:Dk}{x:Addr}{fs:List (Str×V)}(hx:H x=some (.ins dk.C dx fs))(rv:RD H S.d v)(g:AJ 11 S):AR dk (upd H x (.ins dk.C dx [("kept",v)])) x (some S) :=
 ⟨v,⟨dx,A1⟩,RD.ku (λb xs hb=>by rw[Ab λz=>by rw[z,hx] at hb;cases hb];exact hb) _ _ (Cn S) rv,g⟩
theorem BX:Ce ["self", "text", "words", "members"] ["self", "text"] (Ar E4):=by walk_at "sc"
theorem Vz(F:Fun K "tell" "Desk.tell" E4 f fd)(T:Txt mg)(Fo:Fms w K mg)(De:Dsk K mg dk)(C:Exc K mg c)(Zrg:Lo P w K mg base "read_ringless" 10 ["text"] (Ir c))(Zsq:Lo P w K mg base "read_words" 3 ["words", "form"] (Ii K c))(Zqq:Lo P w K mg base "check_told" 2 ["shop", "first", "members"] (La c))(Zqc:Has P w K mg base "with_want" 5 ["shop", "name", "day", "amount"] DC)(Zr9:Has P w K mg base "without_want" 1 ["shop", "place"] CD)(Zpt:Has P w K mg base "answer" 9 ["shop", "first", "members"] (Ts Pt)):Ax P w K mg base (CXE P w) 11 f fd ["self", "text"] (Go c dk Pt):=by
 refine F.okX BX (λvs H Q E h=>?_) (λcdv A outer s H vs Q E hr h=>?_)
 ·obtain⟨x,t,o,r,rfl,_⟩:=h;rfl
 ·obtain⟨x,t,o,r,rfl,kp,tb,tl,k⟩:=h;have hu:=Aw hr;obtain⟨F_a,F_l,F_m,F_t,f1,f2,f3,f4⟩:=Fo;refine⟨_,(A3 (B0 (Bk (Bm (Aj Dh rfl T.Zu7 B1 (A2 (pv 1) (A2 (Hz (v:=.ty "str") rfl T.Zsa Ep rfl) A0))))) (A8 (D8 Kd rfl rfl C.Zqy C.Zs2 (A2 Ac A0))) Am)
 (A3 (B0 (Bm (Bw Zyl PySem.F.slot_str_startswith PySem.F.type_str_startswith iq (pv 1) (A2 (Ml rfl T.Zs0) A0))) (A3 (Vc (pv 0) (Ch Zrg Op hr.z rfl (A2 (Bj vb (pv 1) (Br (Aj ax rfl T.Ztg Cv (A2 (Ml rfl T.Zs0) A0))) Cc) A0)) rfl)
 (A8 (Ag Ac))) Am)
 (A3 (Al (i:=2) BX.nd rfl (Zzq rfl) (Bw Zyl Zv3 Zv2 Rr (pv 1) (A2 Ac A0)))
 (A3 (Al (i:=3) BX.nd rfl (Zzq rfl) (Ch Zsq Op hr.z rfl (A2 (Bj Fg (pv 2) (Br A6) Cc) (A2 (da F_t (Fi (v:=.ref F_a) rfl F_m rfl) (Aa hu (pv 2) A6 (λ_ _=>rfl)) ⟨rfl,rfl,rfl,rfl⟩) A0))))
 (A3 (Bf (Ch Zqq Op hr.z rfl (A2 (Vf (pv 0) rfl) (A2 (Aa hu (pv 2) A6 (λ_ _=>rfl)) (A2 (pv 3) A0)))))
 (A3 (B0 (An (Bg hu) (Aa hu (pv 2) A6 (λ_ _=>rfl)) Ac (Ao _)) (A3 (Vc (pv 0) (A7 Zqc hr.z rfl (A2 (Vf (pv 0) rfl) (A2 (Aa hu (pv 3) A6 (λ_ _=>rfl)) (A2 (Aa hu (pv 3) A6 (λ_ _=>rfl)) (A2 (Aa hu (pv 3) A6 (λ_ _=>rfl)) A0))))) rfl)
 (A8 (Ag Ac))) Am)
 (A3 (B0 (An (Bg hu) (Aa hu (pv 2) A6 (λ_ _=>rfl)) Ac (Ao _)) (A3 (Vc (pv 0) (A7 Zr9 hr.z rfl (A2 (Vf (pv 0) rfl) (A2 (Aa hu (pv 3) A6 (λ_ _=>rfl)) A0))) rfl)
 (A8 (Ag Ac))) Am)
 (A8 (Ag (A7 Zpt hr.z rfl (A2 (Vf (pv 0) rfl) (A2 (Aa hu (pv 2) A6 (λ_ _=>rfl)) (A2 (pv 3) A0))))))))))))),?_⟩
  obtain⟨v,dx,hx,kn,ks⟩:=eh kp;have V2:Str.ofString " " = one 32:=by decide +kernel
  have h:((t=.non\/∃i,t=.int i)/\E (.ref c.NoText) none H)\/(∃y,t=.str ("shop\n" ++ y)/\y.length<=200000/\((∃S,y=Ew (Ca S)/\AJ 11 S/\Aft dk Pt x H Q (λe H'=>E (.ref (c.ek e)) none H') (.ok S))\/∃e,bh y e/\∀H',AA H H'->E (.ref (c.ek e)) none H'))\/∃y x' ws,t=.str y/\(Txt.startswith y "shop\n" = false/\Txt.split y (one 32)=x'::ws/\y.length<=1000/\ws.length<=100)/\((x'∉N5/\∀H',AA H H'->E (.ref c.NoText) none H')\/∃q:Qn,x'=q.first/\(ws.length=q.form.length->P0 ws q.form)/\((Et ws q.form=false/\∀H',AA H H'->E (.ref c.NoText) none H')\/(Et ws q.form=true/\J4 ws q.form=q.keys/\q.fit/\((∃e,q.dueO o=some e/\∀H',AA H H'->E (.ref (c.ek e)) none H')\/∃S,o=some S/\q.due S=none/\((∃S',q.to S=some S'/\AJ 11 S'/\Aft dk Pt x H Q (λe H'=>E (.ref (c.ek e)) none H') (.ok S'))\/(q=.plan/\Aft dk Pt x H Q (λe H'=>E (.ref (c.ek e)) none H') (.plan S))))))):=by
   have wd:∀{q:Qn},q.fit->(Txt.startswith q.text "shop\n" = false/\Txt.split q.text (one 32)=q.first::q.keys.map AG/\q.text.length<=1000/\(q.keys.map AG).length<=100):=λ{q} fit=>by
    obtain⟨s1,s2⟩:=vp fit;have f:=cz q;exact⟨mx q,s1,s2,by rw[Zzz];lia⟩
   cases tl with
   |non=>exact .inl ⟨.inl rfl,k H (AA.refl _)⟩
   |int i=>exact .inl ⟨.inr ⟨i,rfl⟩,k H (AA.refl _)⟩
   |shop g =>
    have l1:=Jw (Hk g.sd.weak);have l2:=Ix g.sd.weak;exact .inr (.inl ⟨_,rfl,by lia,.inl ⟨_,rfl,g,k⟩⟩)
   |noshop l h=>exact .inr (.inl ⟨_,rfl,l,.inr ⟨_,h,k⟩⟩)
   |bad b =>
    refine .inr (.inr ⟨_,_,_,rfl,⟨b.ns,b.sp,b.len,b.few⟩,?_⟩);rcases b.bad with b | ⟨q,b1,b2,b3⟩
    ·exact .inl ⟨b,k⟩
    ·exact .inr ⟨q,b1,b2,.inl ⟨b3,k⟩⟩
   |due f h=>obtain⟨g1,g2,g3⟩:=Zd f;exact .inr (.inr ⟨_,_,_,rfl,wd f,.inr ⟨_,rfl,λ_=>g3,.inr ⟨g1,g2,f,.inl ⟨_,h,k⟩⟩⟩⟩)
   |to f h d e g=>obtain⟨g1,g2,g3⟩:=Zd f;exact .inr (.inr ⟨_,_,_,rfl,wd f,.inr ⟨_,rfl,λ_=>g3,.inr ⟨g1,g2,f,.inr ⟨_,h,d,.inl ⟨_,e,g,k⟩⟩⟩⟩⟩)
   |plan h=>obtain⟨g1,g2,g3⟩:=Zd (q:=.plan) trivial;exact .inr (.inr ⟨_,_,_,rfl,wd (q:=.plan) trivial,.inr ⟨.plan,rfl,λ_=>g3,.inr ⟨g1,g2,trivial,.inr ⟨_,h,rfl,.inr ⟨rfl,k⟩⟩⟩⟩⟩)
  rcases h with ⟨ht,ke⟩ | h
  ·rcases ht with rfl | ⟨i,rfl⟩
   ·walk_at "rd";refine⟨_,rfl,?_⟩;rw[FT (by decide)];exact⟨by decide,ke⟩
   ·walk_at "rd";refine⟨_,rfl,?_⟩;rw[FT (by decide)];exact⟨by decide,ke⟩
  rcases h with ⟨y,rfl,ly,h⟩ | ⟨y,x',ws,rfl,⟨ns,hsp,hly,few⟩,h⟩
  ·walk_at "rd";refine⟨_,rfl,?_⟩;rw[FS (by decide)];refine⟨rfl,?_⟩;rw[FT (Xa _)];refine⟨by decide,by rw[strLen_append];show 5+_<=16777216;lia,?_⟩;rw[show some (((Str.ofString "shop\n").length:Nat):Int)=some 5 from rfl,se];refine⟨y,rfl,?_⟩;rcases h with ⟨S,rfl,g,k⟩ | ⟨e,no,ke⟩
   ·refine .inl ⟨S,rfl,g,λq H1 rq s1=>⟨_,dx,_,s1 _ _ hx,De.c,De.nk,(by show 1<1000;decide),k _ (Ru (s1 _ _ hx) rq g) λb u nb hb=>?_⟩⟩;rw[Ab nb];exact s1 _ _ hb
   ·exact .inr ⟨e,no,ke⟩
  ·walk_at "rd";refine⟨_,rfl,?_⟩;rw[FS (by decide)];refine⟨rfl,?_⟩;rw[FS (by rw[show Str.ofString "shop\n" = "shop\n" from rfl,ns];decide)];refine⟨rfl,32,by rw[V2],by lia,λp hp=>⟨_,A1,λp1 hp1=>?_⟩⟩;rw[hsp,Zz9,Cu (by decide)] at *;have u1:=A5 (o:=.lst (V.str x'::ws.map V.str)) hp;have u2:=A5 (o:=.lst ((V.str x'::ws.map V.str).drop (Int.toNat 1))) hp1;have uu:=u1.trans u2;have h2p:=u2 _ _ (A1 (H:=H) (a:=p) (o:=.lst (V.str x'::ws.map V.str)));have h2p1:upd (upd H p (.lst (V.str x'::ws.map V.str))) p1 (.lst ((V.str x'::ws.map V.str).drop (Int.toNat 1))) p1=some (.lst (ws.map V.str)):=A1;generalize upd (upd H p (.lst (V.str x'::ws.map V.str))) p1 (.lst ((V.str x'::ws.map V.str).drop (Int.toNat 1)))=H2 at uu h2p h2p1;refine⟨_,B3 (j:=0) h2p rfl,x',rfl,?_⟩;rcases h with ⟨nf,ke⟩ | ⟨q,rfl,fine,h⟩
   ·rw[Wp (by rw[f4];exact nf)];exact⟨p1,.non,ws,rfl,h2p1,few,.inl ⟨rfl,ke _ uu⟩⟩
   obtain⟨fa,e1,e2⟩:=my f1 f2 f3 q;rw[e1];refine⟨p1,.ref fa,ws,rfl,h2p1,few,.inr ⟨fa,_,rfl,e2 _,fine,λgd p3 H3 _ hp3 s3=>?_,λgb H3 s3=>?_⟩⟩;rotate_left
   ·rcases h with ⟨_,ke⟩ | ⟨g1,_⟩
    ·exact ke _ (uu.trans s3)
    ·rw[g1] at gb;cases gb
   rcases h with ⟨gf,_⟩ | ⟨_,ek,fit,h⟩
   ·rw[gf] at gd;cases gd
   rw[ek] at hp3;have s03:=uu.trans s3;have hx3:=s03 _ _ hx;have hpp:=s3 _ _ h2p;have lk:Zx7 (Str.ofString "kept") [(Str.ofString "kept",v)]=some v:=by simp
   refine⟨_,dx,_,hx3,De.c,De.nk,v,lk,_,B3 (j:=0) hpp rfl,v,q,p3,rfl,fit,hp3,?_⟩;cases o with
   |none =>
    rcases h with ⟨e,he,ke⟩ | ⟨S,z,_⟩
    ·cases Zzm he;exact .inl ⟨kn rfl,ke _ s03⟩
    ·cases z
   |some S =>
   obtain⟨rv,g⟩:=ks S rfl;have w20:=g.wants.1;refine .inr ⟨S,RD.same s03 _ _ rv,g.ok,by lia,λdn H4 s4=>?_,λe de H4 s4=>?_⟩;rotate_left
   ·rcases h with ⟨e',he,ke⟩ | ⟨S',z,dn,_⟩
    ·cases Zzm (de.symm.trans he);exact ke _ (s03.trans s4)
    ·cases z;rw[dn] at de;cases de
   rcases h with ⟨e',he,_⟩ | ⟨S',z,_,h⟩
   ·cases dn.symm.trans he
   cases z;have s04:=s03.trans s4;have hx4:=s4 _ _ hx3;have hpp4:=s4 _ _ hpp;have hp34:=s4 _ _ hp3;have rv4:=RD.same s04 _ _ rv;refine⟨_,B3 (j:=0) hpp4 rfl,rfl,?_⟩;cases q with
   |want nm d n =>
    rw[FT (by exact FQ rfl)];rcases h with ⟨S',e,g',k⟩ | ⟨z,_⟩
    ·cases e;have hm:nm∈S.wares.map (·.name):=by
      by_cases z:nm∈S.wares.map (·.name)
      ·exact z
      ·rw[show Qn.due S (.want nm d n)=some .name from FT z] at dn;cases dn
     refine⟨_,dx,_,hx4,De.c,De.nk,v,lk,_,B3 (j:=0) hp34 rfl,_,B3 (j:=1) hp34 rfl,_,B3 (j:=2) hp34 rfl,v,S,nm,d,n,rfl,rv4,g.ok,g.no,hm,by lia,λv' H5 rv5 s5=>⟨_,dx,_,s5 _ _ hx4,De.c,De.nk,(by show 1<1000;decide),k _ (Ru (s5 _ _ hx4) rv5 g') λb u nb hb=>?_⟩⟩;rw[Ab nb];exact s5 _ _ (s04 _ _ hb)
    ·cases z
   |drop i =>
    rw[FS (λz=>absurd (V.str.inj (FP z)) (by show ¬ ("drop" : Str) = "want";decide +kernel))];refine⟨_,B3 (j:=0) hpp4 rfl,rfl,?_⟩;rw[FT (by exact FQ rfl)];rcases h with ⟨S',e,g',k⟩ | ⟨z,_⟩
    ·cases e;have hm:i<S.wants.length:=by
      by_cases z:S.wants.length<=i
      ·rw[show Qn.due S (.drop i)=some .day from FT z] at dn;cases dn
      ·lia
     refine⟨_,dx,_,hx4,De.c,De.nk,v,lk,_,B3 (j:=0) hp34 rfl,v,S,i,rfl,rv4,by lia,hm,λv' H5 rv5 s5=>⟨_,dx,_,s5 _ _ hx4,De.c,De.nk,(by show 1<1000;decide),k _ (Ru (s5 _ _ hx4) rv5 g') λb u nb hb=>?_⟩⟩;rw[Ab nb];exact s5 _ _ (s04 _ _ hb)
    ·cases z
   |plan =>
    rw[FS (λz=>absurd (V.str.inj (FP z)) (by show ¬ ("plan" : Str) = "want";decide +kernel))];refine⟨_,B3 (j:=0) hpp4 rfl,rfl,?_⟩;rw[FS (λz=>absurd (V.str.inj (FP z)) (by show ¬ ("plan" : Str) = "drop";decide +kernel))];rcases h with ⟨S',e,_⟩ | ⟨_,k⟩
    ·cases e
    ·exact⟨_,dx,_,hx4,De.c,De.nk,v,lk,_,B3 (j:=0) hpp4 rfl,v,S,p3,rfl,rv4,g,tb.same s04,λy H5 a t b=>k y H5 a t ((Iw s04).trans b)⟩
end
set_option maxHeartbeats 4000000
section
variable {dk:Dk}{c:Cl}
theorem U7(nd:(S.wares.map (·.name)).Nodup){y y':Str}(h:Es S y)(h':Es S y'):y=y':=by
 obtain⟨ys,i,sb,hn,h⟩:=h;obtain⟨ys',i',sb',hn',h'⟩:=h';cases Ng sb sb';have mem:∀{j k:Nat} {nm:Str},ys[j]?=some nm->j<k->nm∈ys.take k:=λe l=>Zzt (by rw[Zxx l];exact e);rcases h with ⟨e1,rfl⟩ | ⟨w,d,hw,e1,e2,rfl⟩
 ·rcases h' with ⟨e1',rfl⟩ | ⟨w',d',hw',e1',e2',rfl⟩
  ·rfl
  ·have l:=(Zzb.mp e1').1
   rw[hn w' hw' (mem e1' (by lia))] at e2';cases e2'
 ·have l:=(Zzb.mp e1).1
  rcases h' with ⟨e1',rfl⟩ | ⟨w',d',hw',e1',e2',rfl⟩
  ·rw[hn' w hw (mem e1 (by lia))] at e2;cases e2
  ·have ei:i=i':=by
    by_cases z:i<i'
    ·rw[hn' w hw (mem e1 z)] at e2;cases e2
    ·by_cases z':i'<i
     ·rw[hn w' hw' (mem e1' z')] at e2';cases e2'
     ·lia
   subst ei;have ew:=Te nd hw hw' (Zzm (e1.symm.trans e1'));subst ew;cases Zzm (e2.symm.trans e2');rfl
theorem Y9:∀{xs:List Str},(∀x∈xs,PyData.strOk x=true)->PyData.canLayAll0 (xs.map .str)=true/\PyData.depthAll (xs.map .str)<=1
 |[],_=>by rw[Zxs,PyData.canLayAll0,PyData.depthAll];exact⟨rfl,by decide⟩
 |x::r,h=>by
  have ih:=Y9 (xs:=r) λy hy=>h y (Zzl _ hy);rw[Zz9,PyData.canLayAll0,PyData.depthAll,PyData.canLay0,h x Zzj,PyData.depth,ih.1];exact⟨rfl,Nat.max_le.mpr ⟨by decide,ih.2⟩⟩
theorem Mp{xs:List Str}(h:∀x∈xs,PyData.strOk x=true):okD (.list (xs.map .str))=true/\okD (.tuple (xs.map .str))=true:=by
 obtain⟨a,b⟩:=Y9 h;unfold okD;rw[PyData.canLay0,PyData.depth,PyData.canLay0,PyData.depth,a,Zyf];exact⟨FQ (by lia),FQ (by lia)⟩
theorem Iy:∀xs:List Str,RDs H (xs.map .str) (xs.map V.str)
 |[]=>RDs.nil
 |_::r=>RDs.cons RD.str_mk (Iy r)
theorem RD.lst_mk(h:H a=some (.lst xs))(r:RDs H ds xs):RD H (.list ds) (.ref a):=by rw[RD];exact⟨a,xs,rfl,h,r⟩
theorem BM:PyData.strOk x=true↔∀c∈x.cps.toList,c<0x110000:=by
 unfold PyData.strOk;rw[<- Array.all_toList,Zyu];exact⟨λh c hc=>FP (h c hc),λh c hc=>FQ (h c hc)⟩
theorem Hl{s:Nat}(hs:s<256):∀{xs:List Str},(∀x∈xs,PyData.strOk x=true)->PyData.strOk (Str.join (one s) xs)=true
 |[],_=>by show PyData.strOk Str.empty=true;decide +kernel
 |[x],h=>h x Zzj
 |x::y::r,h=>by
  have ih:=BM.mp (Hl hs (xs:=y::r) λz hz=>h z (Zzl _ hz));have h1:=BM.mp (h x Zzj);refine BM.mpr λc hc=>?_;rw[J5] at hc;rcases Zz2.mp hc with z | z
  ·exact h1 c z
  ·rcases Zzu.mp z with z | z
   ·lia
   ·exact ih c z
theorem W1{n:Int}(h:0<=n/\n<10^577):PyData.strOk (Bs n)=true:=BM.mpr λc hc=>by
 have:=(El h).1 c hc;lia
theorem g9(h:Sd row):∀x∈Dp row row.length,PyData.strOk x=true:=λx hx=>by
 obtain⟨d,n,h1,h2,rfl⟩:=Ll h _ (Zzx _) x hx;refine Hl (by decide) λy hy=>?_;simp only[Zzu,Zzf,or_false] at hy;rcases hy with rfl | rfl
 ·exact W1 (Ip h1)
 ·exact W1 h2
theorem gl4(a b c d:Str):a++one 32++b++one 32++c++one 32++d=Str.join (one 32) [a,b,c,d]:=by
 apply Pi;show _=(a++one 32++(b++one 32++(c++one 32++d))).cps.toList;simp only[Zuo,Zwt]
theorem Be(h:n<=10000):n<=sizeLine:=Zzk h (by decide)
inductive Ez (Pt:Addr) (vs:List V) (H:Hp) (Q:VK) (E:XK):Prop | mk (v:V) (S:Sh) (_:vs=[v]) (_:RD H S.d v) (_:AJ 11 S) (_:Tb H Pt) (_:∀y H',Es S y->Tb H' Pt->But Pt H H'->Q (.str y) H')
theorem Np(F:Fun K "_law_plan_text" "_law_plan_text" Jo f fd)(T:Txt mg)(C:Exc K mg c)(Zrk:Has P w K mg base "planned" 7 ["shop"] (Lg Pt))(Zsm:Has P w K mg base "worked" 6 ["shop"] (Kr Pt)):Ax P w K mg base CX0 8 f fd ["_law_shop_here"] (Ez Pt):=by
 refine F.go ["_law_shop_here", "_law_told", "_law_lines", "_law_name", "_law_some"] ?_ ?_ ?_;walk_at "f";obtain⟨v,S,rfl,rs,g,tb,k⟩:=h;have hu:=Aw hr;have hu4:=Py hr;refine⟨_,(A3 (Al (i:=1) Nd rfl (Zzq rfl) (A7 Zrk hr.z rfl (A2 (pv 0) A0)))
 (A3 (B0 (An (Bg hu) (Aa hu (pv 1) A6 (λ_ _=>rfl)) Ac (Ao _)) (A8 (Ag (Ai Ad (Ai Ad (Ai Ad (Ai Ad (Ai Ad Ac (Aa hu (pv 1) A6 (λ_ _=>rfl))) Ac) (Au L0 rfl T.Zsa Ep (A2 (Aa hu (pv 1) A6 (λ_ _=>rfl)) A0))) Ac) (Au L0 rfl T.Zsa Ep (A2 (Aa hu (pv 1) A6 (λ_ _=>rfl)) A0))))) Am)
 (A3 (Al (i:=2) Nd rfl (Zzq rfl) (B7 A0))
 (A3 (Bd PassesOwn.never rfl (Dq (A7 Zsm hr.z rfl (A2 (pv 0) A0))) (Af (i:=3) Nd rfl (Zzq rfl))
 (A3 (E2 (own:=["_law_day", "_law_many"]) (cap:=[]) (i:=4) rfl (Bz rfl) Nu Nd rfl rfl (Vd rfl T.Zqn (A2 (Aa hu (Aa hu (pv 1) A6 (λ_ _=>rfl)) (pv 3) (λ_ _=>rfl)) A0))
 (λ_ _ _ _ _ _=>⟨(Hr (n:=2) rfl (B8 (Af (i:=0) (FP rfl) rfl (Zzq rfl) (.inr rfl)) (B8 (Af (i:=1) (FP rfl) rfl (Zzq rfl) (.inr rfl)) E9))),(Mh (An (Rc hu) (pv 1) A6 (Ao _))),(Ai Ad (Ai Ad (Au Fd rfl T.Zsa Ep (A2 (pv 0) A0)) Ac) (Au Fd rfl T.Zsa Ep (A2 (pv 1) A0)))⟩))
 (A8 (B0 (An (Rb hu4) (pv 4) (B7 A0) (Ao _)) (A8 (Bf (Bw Zz7 Zyr Zyq By (pv 2) (A2 (Ai Ad (Ai Ad (pv 3) Ac) (Bw Zyl Zxm Zxl Je Ac (A2 (pv 4) A0))) A0)))) Am))))
 (A8 (Ag (Bw Zyl Zxm Zxl Je Ac (A2 (pv 2) A0)))))))),?_⟩
 walk_at "rd";have L:=Mz g;have z0:(0:Int)<11:=by decide
 have z1:(11:Int)<=30:=by decide
 refine⟨v,S,11,rfl,rs,g,z0,by decide,tb,λt p ys i H1 ht hp tp sb ra hne tb1 bt1 hcase=>?_⟩;rcases hcase with ⟨hi,h2⟩ | ⟨wr,d,hwr,hi,hed,h2⟩
 rotate_left
 ·refine⟨_,Ah (j:=0) h2 rfl,rfl,?_⟩;rw[FT (by decide)];have r:=Sg g z0 z1 hwr;have h1:=(G8 (show Dg (LR S wr.name) wr.lag (LR S wr.name).length=some d from hed)).1;have h30:=r.1;have hd:d<=30:=by lia
  have n1:=Cq (g.ws.txt wr hwr);have n2:(Str.ofString (toString (d:Int))).length<=577:=(El (Ip hd)).2.2.2;have n3:(Str.ofString (toString ((LR S wr.name).getD d 0))).length<=577:=(El (r.2 d)).2.2.2;have l6:(Str.ofString "short ").length=6:=rfl;have l1:(Str.ofString " ").length=1:=rfl;refine⟨_,Ah (j:=2) h2 rfl,wr.name,rfl,Be (by lia),Be (by simp only[strLen_append];lia),_,Ah (j:=3) h2 rfl,.inl ⟨(d:Int),rfl,Gd (Ip hd),Be (by simp only[strLen_append];lia),Be (by simp only[strLen_append];lia),_,Ah (j:=4) h2 rfl,.inl ⟨_,rfl,Gd (r.2 d),Be (by simp only[strLen_append];lia),?_⟩⟩⟩;refine k _ H1 ⟨ys,i,sb,hne,.inr ⟨wr,d,hwr,hi,hed,?_⟩⟩ tb1 bt1;rw[V2,show Str.ofString "short " = "short" ++ one 32 by decide +kernel];exact gl4 ..
 refine⟨_,Ah (j:=0) h2 rfl,rfl,?_⟩;rw[FS (by decide)];refine⟨Zym _,λq hq=>?_⟩;have u1:=A5 (o:=.lst []) hq;refine⟨v,S,rfl,RD.same u1 _ _ (RD.ku (Tn tb bt1) _ _ (Cn S) rs),L,tb1.same u1,λp2 ys2 H2 fp2 hp2 _ sb2 tb2 bt2=>⟨p2,rfl,_,hp2,?_⟩⟩;rw[Ng sb2 sb] at hp2 ⊢;subst hi;rw[Zz4] at ra hne;obtain⟨kvs,hkv,hk,rows,ap⟩:=ra;have qPt:q≠Pt:=λz=>by obtain⟨u,e⟩:=tb1.at;rw[<- z,hq] at e;cases e
 have tPt:t≠Pt:=Jn tb1 h2 λu z=>by cases z
 have pPt:p≠Pt:=Jn tb1 hkv λu z=>by cases z
 have k12:∀b o,b≠Pt->H1 b=some o->H2 b=some o:=λb o nb e=>bt2 b o nb (u1 b o e);have q1:∀{b o},H1 b=some o->b≠q:=λe=>A9 e hq;have q2p:p2≠q:=λz=>by rw[z,A1] at fp2;cases fp2
 have mem:∀y∈ys,∃w∈S.wares,w.name=y:=λy hy=>Zzo.mp ((Hg sb).1.mem_iff.mp hy);have len:ys.length<=12:=by rw[(Hg sb).1.length_eq,F9];exact g.len.2
 have lines:∀j,(Io S (ys.take j)).length<=12:=λj=>by
  unfold Io;rw[Zzz];exact Zzk (Zxw _ _) (by rw[Zz5];lia)
 refine Cj (Eu p2 _) (zk v t q S ys H2) ⟨_,_,rfl,bt2 _ _ qPt A1,λ_ _ _ e=>e⟩ (λj Z H' _ h=>by obtain⟨_,_,_,_,e⟩:=h;exact e _ _ q2p hp2) (λj x Z H3 hj hx h=>?_) (λZ H3 h=>?_)
 ·obtain⟨o3,o4,rfl,hq3,k3⟩:=h;rw[Zzw] at hx;cases en:ys[j]? with
  |none=>rw[en] at hx;cases hx
  |some nm =>
  rw[en] at hx;have hx:V.str nm=x:=Zzm hx;subst hx;have hm:=Zzt en;obtain⟨w',hw',rfl⟩:=mem nm hm;obtain⟨la,_,_,e1,e2⟩:=rows w'.name hm;have laPt:la≠Pt:=Jn tb1 e2 λu z=>by cases z
  have k13:∀b o,b≠Pt->H1 b=some o->H3 b=some o:=λb o nb e=>k3 b o (q1 e) (k12 b o nb e);have r:=Sg g z0 z1 hw';have et:ys.take (j+1)=ys.take j++[w'.name]:=by rw[Zz1,en];rfl
  have dl:(Em S w'.name).length<=30:=Zzk (Hh _ _) r.1;have hla:=k13 _ _ laPt e2;walk_at "rd";refine⟨_,Ah (j:=1) (k13 _ _ tPt h2) rfl,_,Lj (.inl (k13 _ _ pPt hkv)) e1,la,rfl,_,hla,?_⟩;have h30:=r.1;refine aq (qu la _) (Ae (by rw[Zzz];lia)) (λi acc H'=>acc=(Dp (LR S w'.name) i).map V.str/\AA H3 H') ⟨rfl,AA.refl _⟩ (λi acc H' _ h=>h.2 _ _ hla) (λi acc H' h=>by rw[h.1,Zzz];exact Hh _ i) (λi us p acc H' hi hy h hp=>?_) (λacc H4 h p4 hp4=>?_)
  ·obtain⟨rfl,s'⟩:=h;obtain⟨y,ey,rfl⟩:=hy;rw[Ig ey];rw[Zzz] at hi;refine gT2 ?_;have s2:=s'.trans (A5 (o:=.tup [.int i,.int ((LR S w'.name).getD i 0)]) hp);generalize upd H' p (.tup [.int i,.int ((LR S w'.name).getD i 0)])=H4 at s2;walk_at "rd";have hn:=r.2 i;refine⟨rfl,Du (λz=>?_) (λz=>?_)⟩
   ·have z:(LR S w'.name).getD i 0≠0:=λe=>by rw[e] at z;exact absurd z (by decide)
    have i30:i<=30:=by lia
    have l1:(Str.ofString (toString (i:Int))).length<=577:=(El (Ip i30)).2.2.2;have l2:(Str.ofString (toString ((LR S w'.name).getD i 0))).length<=577:=(El hn).2.2.2;have l3:(Str.ofString ":").length=1:=rfl;refine⟨Gd (Ip i30),Be (by lia),Gd hn,Be (by simp only[strLen_append];lia),?_,s2⟩;rw[Dp,FT (by lia),Zzi];rfl
   ·have z:(LR S w'.name).getD i 0=0:=by
     by_cases e:(LR S w'.name).getD i 0=0
     ·exact e
     ·exact absurd (by rw[FR e];rfl) z
    exact⟨by rw[Dp,FS (by lia),Zyw],s2⟩
  obtain⟨rfl,s4⟩:=h;rw[Zzz] at *;have u4:=A5 (o:=.lst ((Dp (LR S w'.name) (LR S w'.name).length).map V.str)) hp4;refine⟨Zym _,λp5 hp5=>?_⟩;have u5:=A5 (o:=.lst []) hp5;have hd5:upd (upd H4 p4 (.lst ((Dp (LR S w'.name) (LR S w'.name).length).map V.str))) p5 (.lst []) p4=some (.lst ((Dp (LR S w'.name) (LR S w'.name).length).map V.str)):=u5 _ _ A1;have he5:=A1 (H:=upd H4 p4 (.lst ((Dp (LR S w'.name) (LR S w'.name).length).map V.str))) (a:=p5) (o:=.lst []);have s35:=s4.trans (u4.trans u5);generalize upd (upd H4 p4 (.lst ((Dp (LR S w'.name) (LR S w'.name).length).map V.str))) p5 (.lst [])=H5 at hd5 he5 s35;refine⟨_,RD.lst_mk hd5 (Iy _),_,RD.lst_mk he5 RDs.nil,(Mp (g9 r)).1,by decide +kernel,?_⟩;have emp:(!PyData.eqv (.list ((Em S w'.name).map .str)) (.list []))=Yj S w'.name:=by
   rw[PyData.eqv];unfold Yj;cases Em S w'.name with
   |nil=>rw[Zxs,PyData.eqvAll];rfl
   |cons a l=>rw[Zz9,PyData.eqvAll];rfl
  rw[show (!PyData.eqv (.list ((Dp (LR S w'.name) (LR S w'.name).length).map .str)) (.list []))=Yj S w'.name from emp];have k25:∀b o,b≠q->H2 b=some o->H5 b=some o:=λb o nb e=>s35 b o (k3 b o nb e);refine Du (λz=>?_) (λz=>?_)
  ·have ln:=Cq (g.ws.txt w' hw')
   have lj:=G7 (sep:=one 32) (B:=1200) (xs:=Em S w'.name) λy hy=>Ky r hy;rw[show (one 32).length=1 from rfl] at lj;rw[V2];have l1:(one 32).length=1:=rfl;refine⟨Ck (s35 _ _ hq3),Be (by lia),rfl,p4,rfl,Em S w'.name,hd5,1200,λy hy=>Ky r hy,by rw[l1];lia,Zzk (m:=100000) (by rw[strLen_append];lia) (by decide),_,s35 _ _ hq3,Zy6 (m:=12) (by rw[Zzz];exact lines j) (by decide),_,_,rfl,?_,λb o nb e=>by rw[Ab nb];exact k25 b o nb e⟩;rw[A1,et];unfold Io;rw[Zxu,Zx0,FT z,Zup,Zzi,Zzi];have hl:ee S w'.name=w'.name++one 32++Str.join (one 32) (Em S w'.name):=by
    unfold ee;unfold Yj at z;cases e:Em S w'.name with
    |nil=>rw[e] at z;exact absurd z (by decide)
    |cons a l=>rfl
   rw[<- hl];rfl
  ·refine⟨_,_,rfl,?_,k25⟩;rw[s35 _ _ hq3,et];unfold Io;rw[Zxu,Zx0,FS z,Zup,Zyw]
 ·obtain⟨o3,o4,rfl,hq3,k3⟩:=h;walk_at "rd";rw[Zzz,Zz4] at hq3;have ll:=lines ys.length;rw[Zz4] at ll;rw[n10];refine⟨rfl,_,hq3,40000,λy hy=>?_,?_,k _ _ ⟨ys,ys.length,sb,by rw[Zz4];exact hne,.inl ⟨rfl,rfl⟩⟩ ?_ λb o nb e=>?_⟩
  ·obtain⟨nm,hnm,rfl⟩:=Zzo.mp hy;obtain⟨w',hw',rfl⟩:=mem nm (Zx5.mp hnm).1;exact Y8 g z0 z1 hw'
  ·show _*40000+_*1<=_
   lia
  ·rcases tb2 with e | ⟨c,e,e2⟩
   ·exact .inl (k3 _ _ (Zza qPt) e)
   ·exact .inr ⟨c,k3 _ _ (Zza qPt) e,k3 _ _ (λz=>by rw[z,bt2 _ _ qPt A1] at e2;cases e2) e2⟩
  ·have e1:=bt1 b o nb e
   exact k3 b o (q1 e1) (k12 b o nb e1)
theorem vf(g:AJ 11 S){y:Str}(h:Es S y):PyData.strOk y=true:=by
 obtain⟨ys,i,sb,hn,h⟩:=h;have z0:(0:Int)<11:=by decide
 have z1:(11:Int)<=30:=by decide
 have nm:∀w∈S.wares,PyData.strOk w.name=true:=λw hw=>BM.mpr (Y2 (g.ws.txt w hw));rcases h with ⟨_,rfl⟩ | ⟨w,d,hw,_,hed,rfl⟩
 ·refine Hl (by decide) λx hx=>?_;obtain⟨n,hn,rfl⟩:=Zzo.mp hx;obtain⟨w,hw,rfl⟩:=Zzo.mp ((Hg sb).1.mem_iff.mp (Zx5.mp hn).1);refine Hl (by decide) λy hy=>?_;rcases Zzu.mp hy with rfl | hy
  ·exact nm w hw
  ·exact g9 (Sg g z0 z1 hw) y hy
 ·have r:=Sg g z0 z1 hw
  have h1:=(G8 (show Dg (LR S w.name) w.lag (LR S w.name).length=some d from hed)).1;have h30:=r.1;refine Hl (by decide) λy hy=>?_;simp only[Zzu,Zzf,or_false] at hy;rcases hy with rfl | rfl | rfl | rfl
  ·decide +kernel
  ·exact nm w hw
  ·exact W1 (Ip (by lia))
  ·exact W1 (r.2 d)
end
set_option maxHeartbeats 4000000
section
variable {dk:Dk}{c:Cl}
def Ek.word:Ek->Str
 |.text => "no text"
 |.shop => "no shop"
 |.ring => "ring"
 |.name => "no name"
 |.day => "no day"
inductive Hx (dk:Dk) (Pt:Addr) (vs:List V) (H:Hp) (Q:VK) (E:XK):Prop | mk (x:Addr) (t:V) (o:Option Sh) (r:Tr) (_:vs=[.ref x,t]) (_:AR dk H x o) (_:Tb H Pt) (_:AQ o t r) (_:Aft dk Pt x H Q (λe H'=>∀p H2,H2 p=some (.tup [.str e.word])->AA H' H2->Q (.ref p) H2) r)
theorem Df{dk:Dk}{x:Addr}(h:AR dk H x o):∃dx v,H x=some (.ins dk.C dx [("kept",v)]):=by
 obtain⟨v,dx,h,_⟩:=eh h;exact⟨dx,v,h⟩
def Ek.ix:Ek->Nat
 |.text=>0
 |.shop=>1
 |.ring=>2
 |.name=>3
 |.day=>4
def Ek.bits(e:Ek):List Bool:=[decide (e.ix=0),decide (e.ix=1),decide (e.ix=2),decide (e.ix=3),decide (e.ix=4)]
theorem rh{c:Cl}(C:Exc K mg c)(e:Ek):exmOne K (.ref (c.ek e)) (.ref c.NeedError)=some true/\Ga K (c.ek e)/\kitOne K (.ref (c.ek e)) (.ref c.NoText)=some (decide (e.ix=0))/\kitOne K (.ref (c.ek e)) (.ref c.NoShop)=some (decide (e.ix=1))/\kitOne K (.ref (c.ek e)) (.ref c.Ring)=some (decide (e.ix=2))/\kitOne K (.ref (c.ek e)) (.ref c.NoName)=some (decide (e.ix=3))/\kitOne K (.ref (c.ek e)) (.ref c.NoDay)=some (decide (e.ix=4))/\kitOne K (.ref (c.ek e)) (.type "ValueError")=some true:=by
 cases e
 ·exact⟨C.Ztp,C.Zqv,C.Zt8,C.Zt7,C.Zsf,C.Zt6,C.Zsw,C.Ztt⟩
 ·exact⟨C.Zto,C.Zqu,C.Zt4,C.Zt3,C.Zse,C.Zt2,C.Zsv,C.Zts⟩
 ·exact⟨C.Zth,C.Zpz,C.Zsi,C.Zsh,C.Zrs,C.Zsg,C.Zs3,C.Ztl⟩
 ·exact⟨C.Ztq,C.Zqw,C.Ztc,C.Ztb,C.Zsj,C.Zta,C.Zsx,C.Ztu⟩
 ·exact⟨C.Ztk,C.Zq8,C.Zsu,C.Zst,C.Zs1,C.Zss,C.Zsd,C.Ztn⟩
theorem jn{bs:List Bool}{Q:VK}(hl:bs.length<=1000)(hp:H p=some (.lst (bs.map V.bl)))(he:H ea=some (Lk ea cls))(k:∀q,H q=none->Q (.ref q) (upd H q (.lst ((bs.map λb=>if b=true then (1:Int) else 0).map V.int)))) :
  Ux (yx ea p (bs.map V.bl)) ["_law_one"] [] (Eh 0) EF (tCB (λxs H Q=>(∃i,xs=[V.int i]/\Q (V.int i) H)\/∃k,xs=[V.bl k]/\Q (V.int (if k=true then 1 else 0)) H) (Qc (Z6 0) EB)) Z H Q:=by
 refine Ji (A0u ea p _) (Ae (by rw[Zzz];exact hl)) (λi acc H'=>H'=H/\acc=((bs.take i).map λb=>if b=true then (1:Int) else 0).map V.int) ⟨rfl,rfl⟩ (λi acc H' _ h=>by rw[h.1];exact⟨hp,cls,he⟩) (λi acc H' h=>by rw[h.2,Zzz,Zzz,Zz5];lia) (λi x acc H' hi hx h=>?_) (λacc H' h q hq=>?_)
 ·obtain⟨rfl,rfl⟩:=h;rw[Zzw] at hx;cases e:bs[i]? with
  |none=>rw[e] at hx;cases hx
  |some b =>
   rw[e] at hx;cases hx;walk_at "rd";rw[Zz1,e,Zzi,Zzi];rfl
 ·obtain⟨rfl,rfl⟩:=h;rw[Zzz,Zz4];exact k q hq
theorem Xs(F:Fun K "_law_said" "_law_said" Qm f fd)(T:Txt mg)(De:Dsk K mg dk)(C:Exc K mg c)(Ztr:Yy P w K mg base dk.ft 11 ["self", "text"] (Go c dk Pt)):Ax P w K mg base CX0 12 f fd ["_law_desk", "_law_text"] (Hx dk Pt):=by
 refine F.go ["_law_desk", "_law_text", "_law_word", "e", "_law_some"] ?_ ?_ ?_;walk_at "f";obtain⟨x,t,o,r,rfl,kp,tb,tl,k⟩:=h;have hu:=Aw hr;refine⟨_,(A3 (A0a (i:=3) (fits:=λcls=>exmOne K cls (.ref c.NeedError)=some true) Nd rfl rfl rfl rfl rfl C.Zpm (λ_ h=>h) (λ_ _ _ hp=>(A8 (Al (i:=2) Nd rfl (Zzq rfl) (Vg Ztr hp (pv 0) De.c De.mt hr.z (A2 (pv 1) A0))))) (λ_=>(A3 (Al (i:=4) Nd rfl (Zzq rfl) (B7 (A2 (Aj (Hi (K0:=K) rfl) rfl T.Zu7 B1 (A2 (pv 3) (A2 (Fi (v:=.ref c.NoText) rfl C.Zqy rfl) A0))) (A2 (Aj (Hi (K0:=K) rfl) rfl T.Zu7 B1 (A2 (pv 3) (A2 (Fi (v:=.ref c.NoShop) rfl C.Zq7 rfl) A0))) (A2 (Aj (Hi (K0:=K) rfl) rfl T.Zu7 B1 (A2 (pv 3) (A2 (Fi (v:=.ref c.Ring) rfl C.Zpj rfl) A0))) A0)))))
 (A3 (Jb (i:=4) Nd rfl (Zzq rfl) (B7 (A2 (Aj (Hi (K0:=K) rfl) rfl T.Zu7 B1 (A2 (pv 3) (A2 (Fi (v:=.ref c.NoName) rfl C.Zpo rfl) A0))) (A2 (Aj (Hi (K0:=K) rfl) rfl T.Zu7 B1 (A2 (pv 3) (A2 (Fi (v:=.ref c.NoDay) rfl C.Zpr rfl) A0))) A0))) Nt)
 (A3 (Al (i:=2) Nd rfl (Zzq rfl) (As (A2 Ac A0)))
 (A8 (B0 (PW.pt (K9 (An (Bg hu) (Aj (jq rfl) rfl T.Zpf A11 (A2 (ny (own:=["_law_one"]) (cap:=[]) rfl (Bz rfl) (At (by decide)) (pv 4)
 (λ_ _ _ _ _ _=>⟨(Af (i:=0) (FP rfl) rfl (Zzq rfl) (.inr rfl)),Ba,(Au Nz rfl T.Zps Sb (A2 (pv 0) A0))⟩)) A0)) A6 (Ao _)) (Hy (Bm (Aj (Hi (K0:=K) rfl) rfl T.Zu7 B1 (A2 (pv 3) (A2 (Hz (v:=.ty "ValueError") rfl T.Zpp Tc rfl) A0))))))) (A8 (Al (i:=2) Nd rfl (Zzq rfl) (As (A2 (Aa hu (B7 (A2 Ac (A2 Ac (A2 Ac (A2 Ac (A2 Ac A0)))))) (Bw Zz7 PySem.F.slot_list_index PySem.F.type_list_index ir (pv 4) (A2 Gg A0)) (λ_ _=>rfl)) A0)))) Am)))))))
 (A8 (Ag (pv 2)))),?_⟩
 obtain⟨dx,v,hx⟩:=Df kp;walk_at "rd";refine⟨dx,_,hx,rfl,x,t,o,r,rfl,kp,tb,tl,?_⟩;cases r with
 |ok S=>exact k
 |plan S=>exact k
 |no e =>
  intro H1 s1;have k:=k H1 s1;obtain⟨x0,x1,x2,x3,x4,x5,x6,x7⟩:=rh C e;refine⟨x0,λea hea=>⟨_,A1,x1,_,.inl x2,_,A1,x1,_,.inl x3,_,A1,x1,_,.inl x4,by decide,λp hp=>⟨_,A5 hp _ _ A1,x1,_,.inl x5,_,A5 hp _ _ A1,x1,_,.inl x6,by decide,λp2 hp2=>?_⟩⟩⟩;refine⟨_,A5 hp2 _ _ A1,_,A1,(by show 5<=sizeLine;decide),by decide,λp3 hp3=>?_⟩;rw[show ([V.bl (decide (e.ix=0)),V.bl (decide (e.ix=1)),V.bl (decide (e.ix=2))]++[V.bl (decide (e.ix=3)),V.bl (decide (e.ix=4))]:List V)=e.bits.map V.bl from rfl] at hp3 ⊢;have s2:=A5 (o:=Lk ea (.ref (c.ek e))) hea;have s4:=(s2.trans (A5 (o:=.lst [V.bl (decide (e.ix=0)),V.bl (decide (e.ix=1)),V.bl (decide (e.ix=2))]) hp)).trans (A5 (o:=.lst [V.bl (decide (e.ix=3)),V.bl (decide (e.ix=4))]) hp2);have s5:AA H1 (upd (upd (upd (upd H1 ea (Lk ea (.ref (c.ek e)))) p (.lst [V.bl (decide (e.ix=0)),V.bl (decide (e.ix=1)),V.bl (decide (e.ix=2))])) p2 (.lst [V.bl (decide (e.ix=3)),V.bl (decide (e.ix=4))])) p (.lst (e.bits.map V.bl))):=λb u z=>by rw[Ab (A9 (s2 _ _ z) hp)];exact s4 b u z
  have h4e:upd (upd (upd (upd H1 ea (Lk ea (.ref (c.ek e)))) p (.lst [V.bl (decide (e.ix=0)),V.bl (decide (e.ix=1)),V.bl (decide (e.ix=2))])) p2 (.lst [V.bl (decide (e.ix=3)),V.bl (decide (e.ix=4))])) p (.lst (e.bits.map V.bl)) ea=some (Lk ea (.ref (c.ek e))):=by
   rw[Ab (A9 A1 hp)];exact A5 hp2 _ _ (A5 hp _ _ A1)
  have h4p:=A1 (H:=upd (upd (upd H1 ea (Lk ea (.ref (c.ek e)))) p (.lst [V.bl (decide (e.ix=0)),V.bl (decide (e.ix=1)),V.bl (decide (e.ix=2))])) p2 (.lst [V.bl (decide (e.ix=3)),V.bl (decide (e.ix=4))])) (a:=p) (o:=.lst (e.bits.map V.bl));generalize upd (upd (upd (upd H1 ea (Lk ea (.ref (c.ek e)))) p (.lst [V.bl (decide (e.ix=0)),V.bl (decide (e.ix=1)),V.bl (decide (e.ix=2))])) p2 (.lst [V.bl (decide (e.ix=3)),V.bl (decide (e.ix=4))])) p (.lst (e.bits.map V.bl))=H4 at s5 h4e h4p hp3;have u3:=A5 (o:=.tup [V.str (Str.ofString "other")]) hp3;have e5:=u3 _ _ h4e;have p5:=u3 _ _ h4p;have s6:=s5.trans u3;refine⟨_,p5,?_⟩;generalize upd H4 p3 (.tup [V.str (Str.ofString "other")])=H5 at e5 p5 s6;refine jn (bs:=e.bits) (by show 5<=1000;decide) p5 e5 (λq hq=>?_);have u6:=A5 (o:=.lst ((e.bits.map λb=>if b=true then (1:Int) else 0).map V.int)) hq;refine⟨q,rfl,_,A1,_,u6 _ _ e5,rfl,?_⟩;rw[FT (by cases e<;>decide)];refine⟨_,u6 _ _ e5,x1,_,x7,?_⟩;rw[FT rfl];refine⟨by decide,λp6 hp6=>?_⟩;have u7:=A5 (o:=.lst [V.str (Str.ofString "no text"),V.str (Str.ofString "no shop"),V.str (Str.ofString "ring"),V.str (Str.ofString "no name"),V.str (Str.ofString "no day")]) hp6;have p7:=u7 _ _ (u6 _ _ p5);exact⟨Ck p7,e.bits,p7,e.ix,by cases e<;>rfl,by cases e<;>decide,.str e.word,B3 (j:=e.ix) A1 (by cases e<;>rfl),by decide,λp8 hp8=>k p8 _ A1 (((s6.trans u6).trans u7).trans (A5 hp8))⟩
end
set_option maxHeartbeats 4000000
section
variable {dk:Dk}{c:Cl}
theorem P5(a b c:Str):a++b++c=a++(b++c):=Pi (by simp only[Zuo,Zwt])
def w1(x:Str)(ps:List (Str×Int)):Wr:=⟨x,1,1,0,0,[],ps⟩
def K8(x:Str):Str := "ware " ++ x ++ " 1 1 0 0"
theorem lit:("want " : Str) = "want" ++ one 32/\(" 1" : Str)=one 32 ++ "1" /\ (" 1 1" : Str)=one 32++("1" ++ (one 32 ++ "1"))/\(" 401 1" : Str)=one 32++("401" ++ (one 32 ++ "1"))/\(" 01 1" : Str)=one 32++("01" ++ (one 32 ++ "1"))/\("drop " : Str) = "drop" ++ one 32/\("ware " : Str) = "ware" ++ one 32/\(" 1 1 0 0" : Str)=one 32++("1" ++ (one 32++("1" ++ (one 32++("0" ++ (one 32 ++ "0"))))))/\(" 0" : Str)=one 32 ++ "0" /\ ("\nwant " : Str)=one 10++("want" ++ one 32)/\("\npart " : Str)=one 10++("part" ++ one 32)/\("\n" : Str)=one 10/\(" " : Str)=one 32:=by decide +kernel
theorem Zt:Bs 0 = "0" /\ Bs 1 = "1" /\ Bs 401 = "401" /\ Bs 10000000000 = "10000000000" := by decide +kernel
theorem V5(x:Str):K8 x=G2 (r3 (AL (w1 x []))):=by
 obtain⟨n0,n1,_⟩:=Zt;show _ = "ware" ++ one 32++(x++one 32++(Bs 1++one 32++(Bs 1++one 32++(Bs 0++one 32++Bs 0))));unfold K8;rw[n0,n1,lit.2.2.2.2.2.2.1,lit.2.2.2.2.2.2.2.1];simp only[P5]
theorem yz(h:Aq x=true){ps:List (Str×Int)}(hp:ps=[]\/ps=[(x,1)]):Aq (w1 x ps).name=true/\yt (w1 x ps)/\∀p∈(w1 x ps).parts,Aq p.1=true:=by
 refine⟨h,⟨⟨by show (0:Int)<=1;decide,by show (1:Int)<=30;decide⟩,⟨by show (1:Int)<=1;decide,by show (1:Int)<=100;decide⟩,⟨by show (0:Int)<=0;decide,by show (0:Int)<=100;decide⟩,⟨by show (0:Int)<=0;decide,by show (0:Int)<=10^42;decide +kernel⟩,?_,?_,?_,by show 0<=12;decide,λc hc=>by cases hc⟩,?_⟩<;>rcases hp with rfl | rfl
 ·show 0<=6;decide
 ·show 1<=6;decide
 ·exact λp hp=>by cases hp
 ·exact λp hp=>by rw[Zzr.mp hp];exact⟨by show (1:Int)<=1;decide,by show (1:Int)<=100;decide⟩
 ·exact Zwo
 ·show [x].Nodup;simp
 ·exact λp hp=>by cases hp
 ·exact λp hp=>by rw[Zzr.mp hp];exact h
theorem sd1{ws:List Wr}{us:List Wt}(h:Aq x=true)(hw:(∀w∈ws,w=w1 x []\/w=w1 x [(x,1)])/\1<=ws.length/\ws.length<=2)(hu:us=[]\/∃y,us=[(y,1,1)]/\Aq y=true):SD0 ⟨ws,us⟩:=by
 refine⟨⟨hw.2.1,Zzk hw.2.2 (by decide)⟩,λw hm=>?_,?_,λu hm=>?_⟩
 ·rcases hw.1 w hm with rfl | rfl
  ·exact yz h (.inl rfl)
  ·exact yz h (.inr rfl)
 ·rcases hu with rfl | ⟨y,rfl,_⟩
  ·show 0<=20;decide
  ·show 1<=20;decide
 ·rcases hu with rfl | ⟨y,rfl,hy⟩
  ·cases hm
  ·rw[Zzr.mp hm];exact⟨hy,⟨by show (0:Int)<=1;decide,by show (1:Int)<=400;decide⟩,by show (0:Int)<=1;decide,by show (1:Int)<10^41;decide +kernel⟩
theorem Pq(h:Aq x=true):32∉x.cps.toList/\10∉x.cps.toList/\x.length<=8:=⟨(Ih (k:=.inr x) h).1.1,(Ih (k:=.inr x) h).1.2,Cq h⟩
theorem O0{y:Str}(e:y=Str.join (one 32) (x::ws))(ns:Txt.startswith y "shop\n" = false)(hw:∀w∈x::ws,32∉w.cps.toList/\w.length<=60)(few:ws.length<=5)(bad:x∉N5\/∃q:Qn,x=q.first/\(ws.length=q.form.length->P0 ws q.form)/\Et ws q.form=false):A2m y x ws:=by
 refine⟨ns,by rw[e];exact Ey (by decide) (by simp) λw hm=>(hw w hm).1,?_,by lia,bad⟩;have:=G7 (sep:=one 32) (B:=60) (xs:=x::ws) λw hm=>(hw w hm).2;rw[Zz3,show (one 32).length=1 from rfl] at this;rw[e];lia
theorem bad2(h:Aq x=true):AQ o (.str ("want " ++ x ++ " 1")) (.no .text):=by
 obtain⟨n1,_,n3⟩:=Pq h;refine .bad (x := "want") (ws:=[x, "1"]) (O0 ?_ ?_ (λw hm=>?_) (by show 2<=5;decide) (.inr ⟨.want x 0 0,rfl,(λz=>by cases z),W9 (by show 2≠3;decide)⟩))
 ·show _ = "want" ++ one 32++(x++one 32 ++ "1")
  rw[lit.1,lit.2.1];simp only[P5]
 ·rw[P5];exact Pj (by decide) (by decide +kernel)
 ·simp only[Zzu,Zzf,or_false] at hm;rcases hm with rfl | rfl | rfl
  ·decide +kernel
  ·exact⟨n1,by lia⟩
  ·decide +kernel
theorem A1y(h:Aq x=true):AQ o (.str ("want " ++ x ++ " 01 1")) (.no .text):=by
 obtain⟨n1,_,n3⟩:=Pq h;have nd:("day" : Str) ≠ "name" /\ ("number" : Str) ≠ "name" := by decide +kernel
 refine .bad (x := "want") (ws:=[x, "01", "1"]) (O0 ?_ ?_ (λw hm=>?_) (by show 3<=5;decide) (.inr ⟨.want x 0 0,rfl,λ_ z hz=>?_,?_⟩))
 ·show _ = "want" ++ one 32++(x++one 32++("01" ++ one 32 ++ "1"))
  rw[lit.1,lit.2.2.2.2.1];simp only[P5]
 ·rw[P5];exact Pj (by decide) (by decide +kernel)
 ·simp only[Zzu,Zzf,or_false] at hm;rcases hm with rfl | rfl | rfl | rfl
  ·decide +kernel
  ·exact⟨n1,by lia⟩
  ·decide +kernel
  ·decide +kernel
 ·have hz:z∈[(x,("name" : Str)),("01", "day"),("1", "number")]:=hz
  simp only[Zzu,Zzf,or_false] at hz;rcases hz with rfl | rfl | rfl
  ·show if ("name" : Str) = "name" then _ else _
   rw[FT rfl];exact h
  ·show if ("day" : Str) = "name" then _ else _
   rw[FS nd.1];decide
  ·show if ("number" : Str) = "name" then _ else _
   rw[FS nd.2];decide
 ·show (true&&(G9 "name" x&&(G9 "day" "01" && _)))=false
  rw[show G9 "day" "01" = false by decide +kernel,Zw4,Zva,Zva]
theorem bad7(h:Aq x=true):AQ o (.str ("shop\n" ++ K8 x ++ " 0")) (.no .text):=by
 obtain⟨n1,n2,n3⟩:=Pq h;have e:K8 x ++ " 0" = Str.join (one 32) ["ware",x, "1", "1", "0", "0", "0"]:=by
  show _ = "ware" ++ one 32++(x++one 32++("1" ++ one 32++("1" ++ one 32++("0" ++ one 32++("0" ++ one 32 ++ "0")))));unfold K8;rw[lit.2.2.2.2.2.2.1,lit.2.2.2.2.2.2.2.1,lit.2.2.2.2.2.2.2.2.1];simp only[P5]
 have hw:∀w∈(["ware",x, "1", "1", "0", "0", "0"]:List Str),(32∉w.cps.toList/\10∉w.cps.toList)/\w.length<=60:=λw hm=>by
  simp only[Zzu,Zzf,or_false] at hm;rcases hm with rfl | rfl | rfl | rfl | rfl | rfl | rfl
  ·decide +kernel
  ·exact⟨⟨n1,n2⟩,by lia⟩
  all_goals decide +kernel
 have l:=G7 (sep:=one 32) (B:=60) (xs:=["ware",x, "1", "1", "0", "0", "0"]) λw hm=>(hw w hm).2;rw[show (one 32).length=1 from rfl] at l;have l:(Str.join (one 32) ["ware",x, "1", "1", "0", "0", "0"]).length<=7*60+7*1:=l;rw[P5,e];refine .noshop (by lia) (.inl ⟨"ware",[x, "1", "1", "0", "0", "0"],⟨Ey (by decide) (by simp) λw hm=>(hw w hm).1.1,by lia,(by show 6<=100;decide),.inr ⟨rfl,by show 6≠5;decide⟩⟩,?_,rfl⟩);exact Ua _ λw hm=>(hw w hm).1.2
theorem W2(sd:SD0 S){e:Ek}(h:Na (Ca S) S/\((okS S=false/\e=.shop)\/(okS S=true/\Sc S/\∃x,gq S x/\x.length<=8/\e=.ring))):AQ o (.str ("shop\n" ++ Ew (Ca S))) (.no e):=by
 have l1:=Jw (Hk sd);have l2:=Ix sd;exact .noshop (by lia) (.inr ⟨_,S,rfl,h⟩)
theorem bad8{y:Str}(hx:Aq x=true)(hy:Aq y=true)(ne:y≠x):AQ o (.str ("shop\n" ++ K8 x ++ "\nwant " ++ y ++ " 1 1")) (.no .shop):=by
 have sd:SD0 ⟨[w1 x []],[(y,1,1)]⟩:=sd1 hx ⟨λw hm=>.inl (Zzr.mp hm),by show 1<=1;decide,by show 1<=2;decide⟩ (.inr ⟨y,rfl,hy⟩);have e : "shop\n" ++ K8 x ++ "\nwant " ++ y ++ " 1 1" = "shop\n" ++ Ew (Ca ⟨[w1 x []],[(y,1,1)]⟩):=by
  show _ = "shop\n" ++ (G2 (r3 (AL (w1 x [])))++one 10++("want" ++ one 32++(y++one 32++(Bs 1++one 32++Bs 1))));rw[<- V5,Zt.2.1,lit.2.2.1,lit.2.2.2.2.2.2.2.2.2.1];simp only[P5]
 rw[e];refine W2 sd ⟨Nj sd (by show [x].Nodup;simp),.inl ⟨Zw5.mpr λz=>?_,rfl⟩⟩;unfold okS at z;rw[Zyy,Zyu] at z;exact ne (Zzr.mp (FP (z.2 y (Zyk _ (Zzr.mpr rfl)))))
theorem bad9(hx:Aq x=true):AQ o (.str ("shop\n" ++ K8 x ++ "\n" ++ K8 x)) (.no .shop):=by
 have sd:SD0 ⟨[w1 x [],w1 x []],[]⟩:=sd1 hx ⟨λw hm=>.inl (by simpa using hm),by show 1<=2;decide,by show 2<=2;decide⟩ (.inl rfl);have e : "shop\n" ++ K8 x ++ "\n" ++ K8 x = "shop\n" ++ Ew (Ca ⟨[w1 x [],w1 x []],[]⟩):=by
  show _ = "shop\n" ++ (G2 (r3 (AL (w1 x [])))++one 10++G2 (r3 (AL (w1 x []))));rw[<- V5,lit.2.2.2.2.2.2.2.2.2.2.2.1];simp only[P5]
 have ob:okS ⟨[w1 x [],w1 x []],[]⟩=false:=Zw5.mpr λz=>by
  unfold okS at z;rw[Zyy] at z;have nd:[x,x].Nodup:=FP z.1;simp at nd
 have all:∀r∈Ca ⟨[w1 x [],w1 x []],[]⟩,r=AL (w1 x []):=λr hr=>by
  have hr:r∈[AL (w1 x []),AL (w1 x [])]:=hr;simpa using hr
 have nn:("ware" : Str) ≠ "want" /\ ("ware" : Str) ≠ "coming" /\ ("ware" : Str) ≠ "part" := by decide +kernel
 have eq:wrD (Ca ⟨[w1 x [],w1 x []],[]⟩)=Sh.d ⟨[w1 x [],w1 x []],[]⟩:=by
  have d5:Gb (Ca ⟨[w1 x [],w1 x []],[]⟩) (AL (w1 x []))=(w1 x []).d:=by
   unfold Gb;rw[Kg λr hr=>by rw[all r hr];exact Hq (.inl nn.2.1),Kg λr hr=>by rw[all r hr];exact Hq (.inl nn.2.2)];rfl
  unfold wrD Sh.d;rw[fj λr hr=>by rw[all r hr];exact FQ rfl,Kg λr hr=>by rw[all r hr];exact FR nn.1];show PyData.tuple [.tuple [Gb _ (AL (w1 x [])),Gb _ (AL (w1 x []))],_]=_;rw[d5];rfl
 rw[e];exact W2 sd ⟨⟨(λz=>by cases z),(Ix sd).2,Hk sd,eq,sd,λz=>by rw[ob] at z;cases z⟩,.inl ⟨ob,rfl⟩⟩
theorem A21(hx:Aq x=true):AQ o (.str ("shop\n" ++ K8 x ++ "\npart " ++ x ++ " " ++ x ++ " 1")) (.no .ring):=by
 have sd:SD0 ⟨[w1 x [(x,1)]],[]⟩:=sd1 hx ⟨λw hm=>.inr (Zzr.mp hm),by show 1<=1;decide,by show 1<=2;decide⟩ (.inl rfl);have e : "shop\n" ++ K8 x ++ "\npart " ++ x ++ " " ++ x ++ " 1" = "shop\n" ++ Ew (Ca ⟨[w1 x [(x,1)]],[]⟩):=by
  show _ = "shop\n" ++ (G2 (r3 (AL (w1 x [])))++one 10++("part" ++ one 32++(x++one 32++(x++one 32++Bs 1))));rw[<- V5,Zt.2.1,lit.2.1,lit.2.2.2.2.2.2.2.2.2.2.1,lit.2.2.2.2.2.2.2.2.2.2.2.2];simp only[P5]
 have nd:((Sh.wares ⟨[w1 x [(x,1)]],[]⟩).map (·.name)).Nodup:=by show [x].Nodup;simp
 rw[e];refine W2 sd ⟨Nj sd nd,.inr ⟨?_,⟨nd,by show 1<=1000;decide,λw hm=>?_⟩,x,?_,(Pq hx).2.2,rfl⟩⟩
 ·unfold okS;rw[FQ nd,Zyf,Zyu];intro z hz;have hz:z∈[x]:=hz;exact FQ hz
 ·rw[Zzr.mp hm];exact⟨by show 1<=1000;decide,by show 0<=1000;decide⟩
 ·show N6 1 [(x,[x])]=_
  simp[N6,ao,Ci,Pd,Ay]
theorem Km(x:Str)(d n:Int) : "want " ++ x++(one 32++(Bs d++(one 32++Bs n)))=(Qn.want x d n).text:=by
 show _ = "want" ++ one 32++(x++one 32++(Bs d++one 32++Bs n));rw[lit.1];simp only[P5]
theorem A20(hx:Aq x=true)(h:x∉S.wares.map (·.name)):AQ (some S) (.str ("want " ++ x ++ " 1 1")) (.no .name):=by
 have e:=Km x 1 1;rw[Zt.2.1,<- lit.2.2.1] at e;rw[e];exact .due ⟨hx,⟨by decide,by decide +kernel⟩,by decide,by decide +kernel⟩ (FT h)
theorem zi(hx:Aq x=true)(h:x∈S.wares.map (·.name)):AQ (some S) (.str ("want " ++ x ++ " 401 1")) (.no .day):=by
 have e:=Km x 401 1;rw[Zt.2.1,Zt.2.2.1,<- lit.2.2.2.1] at e;rw[e];exact .due ⟨hx,⟨by decide,by decide +kernel⟩,by decide,by decide +kernel⟩ ((FS λz=>z h).trans (FT (by decide)))
theorem Ul(i:Nat) : "drop " ++ Bs i=(Qn.drop i).text:=by
 show _ = "drop" ++ one 32++Bs i;rw[lit.2.2.2.2.2.1]
theorem zh(h:S.wants.length<=i)(l:i<=10000000000):AQ (some S) (.str ("drop " ++ Bs i)) (.no .day):=by
 rw[Ul];exact .due (show (i:Int)<10^60 from Zyh (b:=10000000000) (by lia) (by decide +kernel)) (FT h)
theorem A1z(h:S.wants.length<=1000):AQ (some S) (.str "drop 10000000000") (.no .day):=by
 have:=zh (S:=S) (i:=10000000000) (by lia) (Zzx _);rwa [show ("drop " : Str)++Bs (10000000000:Nat) = "drop 10000000000" by decide +kernel] at this
theorem sy{y:Str}(e:y=Str.join (one 32) (x::ws))(ns:Txt.startswith y "shop\n" = false)(hw:∀w∈x::ws,32∉w.cps.toList/\w.length<=60)(few:ws.length<=5)(bad:x∉N5\/∃q:Qn,x=q.first/\(ws.length=q.form.length->P0 ws q.form)/\Et ws q.form=false):AQ o (.str y) (.no .text):=.bad (O0 e ns hw few bad)
theorem bad0:AQ o (.str "") (.no .text):=sy (x := "") (ws:=[]) (by decide +kernel) (by decide +kernel) (by decide +kernel) (by decide) (.inl (by decide +kernel))
theorem bad1:AQ o (.str "wants") (.no .text):=sy (x := "wants") (ws:=[]) (by decide +kernel) (by decide +kernel) (by decide +kernel) (by decide) (.inl (by decide +kernel))
theorem bad5:AQ o (.str "shop") (.no .text):=sy (x := "shop") (ws:=[]) (by decide +kernel) (by decide +kernel) (by decide +kernel) (by decide) (.inl (by decide +kernel))
theorem bad3:AQ o (.str "plan ") (.no .text):=sy (x := "plan") (ws:=[""]) (by decide +kernel) (by decide +kernel) (by decide +kernel) (by decide) (.inr ⟨.plan,rfl,(λz=>by cases z),W9 (by decide)⟩)
theorem bad4:AQ o (.str "drop -1") (.no .text):=sy (x := "drop") (ws:=["-1"]) (by decide +kernel) (by decide +kernel) (by decide +kernel) (by decide) (.inr ⟨.drop 0,rfl,λ_ z hz=>by rw[Zzr.mp hz];decide +kernel,by decide +kernel⟩)
theorem bad6:AQ o (.str "shop\n") (.no .text):=by
 have:=AQ.noshop (o:=o) (y := "") (e:=.text) (by decide) (.inl ⟨"",[],⟨by decide +kernel,by decide,by decide,.inl rfl⟩,by decide +kernel,rfl⟩);rwa [show ("shop\n" : Str) ++ "" = "shop\n" by decide +kernel] at this
end
set_option maxHeartbeats 4000000
section
variable {dk:Dk}{c:Cl}
def DD(S:Sh)(H:Hp)(vs:List V):Prop:=∀v∈vs,∃(p:Addr) (t:V) (e:Ek),v=.ref p/\H p=some (.tup [t,.str e.word])/\AQ (some S) t (.no e)
theorem DD.ku{vs:List V}(h:DD S H vs)(k:AV H H'):DD S H' vs:=λv hv=>by
 obtain⟨p,t,e,h1,h2,h3⟩:=h v hv;exact⟨p,t,e,h1,k _ _ h2,h3⟩
theorem DD.nil:DD S H []:=λv hv=>by cases hv
structure Tw(S:Sh)(H H':Hp)(us:List V):Prop where
 s:AA H H'
 ws:DD S H' us
theorem Tw.put{us:List V}(h:Tw S H H' us)(hp:H' p=none){t:V}{e:Ek}(tl:AQ (some S) t (.no e)):Tw S H (upd H' p (.tup [t,.str e.word])) (us++[.ref p]):=by
 have u:=A5 (o:=.tup [t,.str e.word]) hp;refine⟨h.s.trans u,λv hv=>?_⟩;rcases Zz2.mp hv with z | z
 ·exact h.ws.ku u.ku v z
 ·rw[Zzr.mp z];exact⟨p,t,e,rfl,A1,tl⟩
theorem Tw.lst{us:List V}(h:Tw S H H' us)(hp:H' p=none){o:HO}:Tw S H (upd H' p o) us:=⟨h.s.trans (A5 hp),h.ws.ku (A5 hp).ku⟩
theorem Tw.z:Tw S H H []:=⟨AA.refl _,DD.nil⟩
structure Wq(S:Sh)(q:Addr)(H H':Hp)(k:Nat)(vs:List V):Prop where
 hq:H' q=some (.lst vs)
 fr:H q=none
 len:vs.length=k
 ws:DD S H' vs
 s:AA H H'
theorem Wq.more{q:Addr}{k:Nat}{vs us:List V}(h:Wq S q H H' k vs)(w:Tw S H' H2 us):Wq S q H (upd H2 q (.lst (vs++us))) (k+us.length) (vs++us) where
 hq:=A1
 fr:=h.fr
 len:=by rw[Zzc,h.len]
 ws:=λv hv=>by
  have ku:=Jg (ys:=vs++us) (w.s _ _ h.hq);rcases Zz2.mp hv with z | z
  ·exact(h.ws.ku w.s.ku).ku ku v z
  ·exact w.ws.ku ku v z
 s:=λb u e=>by rw[Ab (A9 e h.fr)];exact w.s _ _ (h.s _ _ e)
inductive DE (vs:List V) (H:Hp) (Q:VK) (E:XK):Prop | mk (st l:Addr) (v:V) (xs:List Str) (S:Sh) (_:vs=[.ref st,.ref l,v]) (_:AI H st) (_:H l=some (.lst (xs.map V.str))) (_:l≠st) (_:xs.length=4) (_:xs.Nodup) (_:(∀x∈xs,CK x)) (_:RD H S.d v) (_:Td xs S) (_:∀(p:Addr) (t:V) (e:Ek) H',H' p=some (.tup [t,.str e.word])->AQ (some S) t (.no e)->AI H' st->But st H H'->Q (.ref p) H')
inductive O1 (st l:Addr) (v:V) (S:Sh) (x:Str) (k:Nat) (H:Hp) (Z:St) (H':Hp):Prop | mk (q:Addr) (vs:List V) (_:Z=[some (.ref st),some (.ref l),some v,some (.str x),some (.str (K8 x)),some (.int S.wants.length),some (.ref q)]) (_:Wq S q H H' k vs)
theorem Vq(F:Fun K "_law_wrong" "_law_wrong" Oe f fd)(T:Txt mg)(C:Exc K mg c)(Zua:Has P w K mg base "_law_next" 1 ["_law_state", "_law_many"] AW):Ax P w K mg base CX0 2 f fd ["_law_state", "_law_names_here", "_law_shop_here"] DE:=by
 refine F.go ["_law_state", "_law_names_here", "_law_shop_here", "_law_one", "_law_row", "_law_wants", "_law_some"] ?_ ?_ ?_;walk_at "f";obtain⟨st,l,v,xs,S,rfl,hs,hl,lst',xl,nd,hnm,rs,sh,k⟩:=h;have hu:=Aw hr;refine⟨_,(A3 (Al (i:=3) Nd rfl (Zzq rfl) (Aa hu (pv 1) A6 (λ_ _=>rfl)))
 (A3 (Al (i:=4) Nd rfl (Zzq rfl) (Ai Ad (Ai Ad Ac (pv 3)) Ac))
 (A3 (Al (i:=5) Nd rfl (Zzq rfl) (Aj Bt rfl T.Ztg Cv (A2 (Aa hu (pv 2) A6 (λ_ _=>rfl)) A0)))
 (A3 (Al (i:=6) Nd rfl (Zzq rfl) (B7 (A2 (As (A2 Ac (A2 Ac A0))) (A2 (As (A2 Ac (A2 Ac A0))) (A2 (As (A2 (Ai Ad (Ai Ad Ac (pv 3)) Ac) (A2 Ac A0))) (A2 (As (A2 Ac (A2 Ac A0))) A0))))))
 (A3 (Jb (i:=6) Nd rfl (Zzq rfl) (B7 (A2 (As (A2 Ac (A2 Ac A0))) (A2 (As (A2 Ac (A2 Ac A0))) (A2 (As (A2 Ac (A2 Ac A0))) (A2 (As (A2 (Ai Ad (Ai Ad Ac (pv 4)) Ac) (A2 Ac A0))) A0))))) Nt)
 (A3 (Jb (i:=6) Nd rfl (Zzq rfl) (B7 (A2 (As (A2 (Ai Ad (Ai Ad (Ai Ad (Ai Ad Ac (pv 4)) Ac) (Aa hu (pv 1) A6 (λ_ _=>rfl))) Ac) (A2 Ac A0))) (A2 (As (A2 (Ai Ad (Ai Ad (Ai Ad Ac (pv 4)) Ac) (pv 4)) (A2 Ac A0))) A0))) Nt)
 (A3 (Jb (i:=6) Nd rfl (Zzq rfl) (B7 (A2 (As (A2 (Ai Ad (Ai Ad (Ai Ad (Ai Ad (Ai Ad (Ai Ad Ac (pv 4)) Ac) (pv 3)) Ac) (pv 3)) Ac) (A2 Ac A0))) (A2 (As (A2 Ka (A2 Ac A0))) (A2 (As (A2 A6 (A2 Ac A0))) A0)))) Nt)
 (A3 (Jb (i:=6) Nd rfl (Zzq rfl) (B7 (A2 (As (A2 (Ai Ad (Ai Ad Ac (Aa hu (pv 1) A6 (λ_ _=>rfl))) Ac) (A2 Ac A0))) (A2 (As (A2 (Ai Ad (Ai Ad Ac (pv 3)) Ac) (A2 Ac A0))) A0))) Nt)
 (A3 (Jb (i:=6) Nd rfl (Zzq rfl) (B7 (A2 (As (A2 (Ai Ad Ac (Au Fd rfl T.Zsa Ep (A2 (pv 5) A0))) (A2 Ac A0))) (A2 (As (A2 Ac (A2 Ac A0))) (A2 (As (A2 (Ai Ad (Ai Ad Ac (pv 3)) Ac) (A2 Ac A0))) A0)))) Nt)
 (A8 (Ag (Aa hu (pv 6) (A7 Zua hr.z rfl (A2 (pv 0) (A2 A6 A0))) (λ_ _=>rfl))))))))))))),?_⟩
 obtain⟨x0,x1,x2,x3,rfl⟩:∃a b c d,xs=[a,b,c,d]:=by
  match xs,xl with
  |[a,b,c,d],_=>exact⟨a,b,c,d,rfl⟩
 have n0:=(hnm x0 (by simp)).name;have n1:=(hnm x1 (by simp)).name;have n3:=(hnm x3 (by simp)).name;have l0:=Cq n0;have l1:=Cq n1;have l3:=Cq n3;obtain⟨sa,sb,sc,ws,us,rfl,ha,hb,hc,rws,rus⟩:=Bq rs;have hul:=Ap rus;have w20:=sh.good.wants.1;have hl0:H l=some (.lst [.str x0,.str x1,.str x2,.str x3]):=hl;have ll:∀{a b:Str} {n m:Nat},a.length<=n->b.length<=m->n+m<=10000->a.length+b.length<=sizeLine:=λh1 h2 h3=>Be (by lia);have lr:(K8 x0).length<=30:=by
  unfold K8;rw[strLen_append,strLen_append];show 5+_+8<=30;lia
 have z1:(Str.ofString "shop\n").length=5/\(Str.ofString "\nwant ").length=6/\(Str.ofString " 1 1").length=4/\(Str.ofString "\n").length=1/\(Str.ofString "\npart ").length=6/\(Str.ofString " ").length=1/\(Str.ofString " 1").length=2/\(Str.ofString "want ").length=5/\(Str.ofString " 401 1").length=6/\(Str.ofString "drop ").length=5/\(Str.ofString " 01 1").length=5:=by decide +kernel
 have ne10:x1≠x0:=λz=>by rw[z] at nd;simp at nd
 have in0:x0∈S.wares.map (·.name):=sh.pn.mem_iff.mpr (by simp);have no3:x3∉S.wares.map (·.name):=λz=>by
  have z:=sh.pn.mem_iff.mp z;simp only[Zul,Zw2,Zzu,Zzf,or_false] at z;simp only[Zyg,Zzu,Zzf,or_false,not_or] at nd;rcases z with z | z | z
  ·exact nd.1.2.2 z.symm
  ·exact nd.2.1.2 z.symm
  ·exact nd.2.2.1 z.symm
 have la:∀{a b:Str} {n m:Nat},a.length<=n->b.length<=m->(a++b).length<=n+m:=λh1 h2=>by rw[strLen_append];lia
 refine cut3 (λZ' H'=>H'=H/\Z'=[some (.ref st),some (.ref l),some (.ref sa),some (.str x0),some (.str (K8 x0)),some (.int S.wants.length),none]) ?_ (λKK hK=>?_);rotate_left
 ·walk_at "rd";refine⟨_,B3 (j:=0) hl0 rfl,x0,rfl,ll (n:=5) (by decide) l0 (by decide),ll (la (n:=5) (by decide) l0) (m:=8) (by decide) (by decide),_,Ah (j:=1) ha rfl,sc,rfl,us,.inr hc,hK _ _ ⟨rfl,?_⟩⟩;rw[hul];rfl
 rintro Z' H' ⟨rfl,rfl⟩;refine Ny (O1 st l (.ref sa) S x0 4 H') ?_ (λKK hK=>?_);rotate_left
 ·walk_at "rd";refine⟨by decide,λp1 h1=>⟨by decide,λp2 h2=>⟨ll (n:=5) (by decide) l0 (by decide),ll (la (n:=5) (by decide) l0) (m:=2) (by decide) (by decide),by decide,λp3 h3=>⟨by decide,λp4 h4=>⟨by decide,λp5 h5=>hK _ _ ⟨p5,[.ref p1,.ref p2,.ref p3,.ref p4],rfl,?_⟩⟩⟩⟩⟩⟩;have w:=((((Tw.z (S:=S) (H:=H')).put h1 bad0).put h2 bad1).put h3 (bad2 n0)).put h4 bad3;exact⟨A1,AA.free w.s h5,rfl,(w.lst h5).ws,(w.lst h5).s⟩
 rintro Z' H1 ⟨q,vs,rfl,wq⟩;have lv:=wq.len;refine Ny (O1 st l (.ref sa) S x0 8 H') ?_ (λKK hK=>?_);rotate_left
 ·walk_at "rd";refine⟨by decide,λp1 h1=>⟨by decide,λp2 h2=>⟨by decide,λp3 h3=>⟨ll (n:=5) (by decide) lr (by decide),ll (la (n:=5) (by decide) lr) (m:=2) (by decide) (by decide),by decide,λp4 h4=>⟨by decide,λp5 h5=>?_⟩⟩⟩⟩⟩;have w:=(((((Tw.z (S:=S) (H:=H1)).put h1 bad4).put h2 bad5).put h3 bad6).put h4 (bad7 n0)).lst h5 (o:=.lst [.ref p1,.ref p2,.ref p3,.ref p4]);exact⟨vs,w.s _ _ wq.hq,_,A1,Ae (by show vs.length+4<=1000;lia),hK _ _ ⟨q,_,rfl,wq.more w⟩⟩
 clear wq lv;rintro Z' H1 ⟨q,vs,rfl,wq⟩;have lv:=wq.len;have hl1:=wq.s _ _ hl0;refine Ny (O1 st l (.ref sa) S x0 10 H') ?_ (λKK hK=>?_);rotate_left
 ·walk_at "rd";refine⟨Be (by lia),Be (by simp only[strLen_append];lia),_,B3 (j:=1) hl1 rfl,x1,rfl,Be (by simp only[strLen_append];lia),Be (by simp only[strLen_append];lia),by decide,λp1 h1=>⟨Be (by lia),Be (by simp only[strLen_append];lia),Be (by simp only[strLen_append];lia),by decide,λp2 h2=>⟨by decide,λp5 h5=>?_⟩⟩⟩;have w:=(((Tw.z (S:=S) (H:=H1)).put h1 (bad8 n0 n1 ne10)).put h2 (bad9 n0)).lst h5 (o:=.lst [.ref p1,.ref p2]);exact⟨vs,w.s _ _ wq.hq,_,A1,Ae (by show vs.length+2<=1000;lia),hK _ _ ⟨q,_,rfl,wq.more w⟩⟩
 clear wq lv hl1;rintro Z' H1 ⟨q,vs,rfl,wq⟩;have lv:=wq.len;refine Ny (O1 st l (.ref sa) S x0 13 H') ?_ (λKK hK=>?_);rotate_left
 ·walk_at "rd";refine⟨Be (by lia),Be (by simp only[strLen_append];lia),Be (by simp only[strLen_append];lia),Be (by simp only[strLen_append];lia),Be (by simp only[strLen_append];lia),Be (by simp only[strLen_append];lia),by decide,λp1 h1=>⟨by decide,λp2 h2=>⟨by decide,λp3 h3=>⟨by decide,λp5 h5=>?_⟩⟩⟩⟩;have w:=((((Tw.z (S:=S) (H:=H1)).put h1 (A21 n0)).put h2 .non).put h3 (.int 7)).lst h5 (o:=.lst [.ref p1,.ref p2,.ref p3]);exact⟨vs,w.s _ _ wq.hq,_,A1,Ae (by show vs.length+3<=1000;lia),hK _ _ ⟨q,_,rfl,wq.more w⟩⟩
 clear wq lv;rintro Z' H1 ⟨q,vs,rfl,wq⟩;have lv:=wq.len;have hl1:=wq.s _ _ hl0;refine Ny (O1 st l (.ref sa) S x0 15 H') ?_ (λKK hK=>?_);rotate_left
 ·walk_at "rd";refine⟨_,B3 (j:=3) hl1 rfl,x3,rfl,Be (by lia),Be (by simp only[strLen_append];lia),by decide,λp1 h1=>⟨Be (by lia),Be (by simp only[strLen_append];lia),by decide,λp2 h2=>⟨by decide,λp5 h5=>?_⟩⟩⟩;have w:=(((Tw.z (S:=S) (H:=H1)).put h1 (A20 n3 no3)).put h2 (zi n0 in0)).lst h5 (o:=.lst [.ref p1,.ref p2]);exact⟨vs,w.s _ _ wq.hq,_,A1,Ae (by show vs.length+2<=1000;lia),hK _ _ ⟨q,_,rfl,wq.more w⟩⟩
 clear wq lv hl1;rintro Z' H1 ⟨q,vs,rfl,wq⟩;have lv:=wq.len;refine Ny (O1 st l (.ref sa) S x0 18 H') ?_ (λKK hK=>?_);rotate_left
 ·walk_at "rd";have wn:0<=((S.wants.length:Nat):Int)/\((S.wants.length:Nat):Int)<10^577:=⟨by lia,Zyh (b:=20) (by lia) (by decide +kernel)⟩;have ln:(Str.ofString (toString ((S.wants.length:Nat):Int))).length<=577:=(El wn).2.2.2;refine⟨Gd wn,Be (by lia),by decide,λp1 h1=>⟨by decide,λp2 h2=>⟨Be (by lia),Be (by simp only[strLen_append];lia),by decide,λp3 h3=>⟨by decide,λp5 h5=>?_⟩⟩⟩⟩;have w:=((((Tw.z (S:=S) (H:=H1)).put h1 (zh (Zzx _) (by lia))).put h2 (A1z (by lia))).put h3 (A1y n0)).lst h5 (o:=.lst [.ref p1,.ref p2,.ref p3]);exact⟨vs,w.s _ _ wq.hq,_,A1,Ae (by show vs.length+3<=1000;lia),hK _ _ ⟨q,_,rfl,wq.more w⟩⟩
 clear wq lv;rintro Z' H1 ⟨q,vs,rfl,wq⟩;have lv:=wq.len;walk_at "rd";have hs1:=hs.same wq.s;have qst:q≠st:=Zza (hs.ne wq.fr);refine⟨st,18,rfl,hs1,by decide,by decide +kernel,λd H2 d0 d1 s2 b2=>?_⟩;obtain⟨v,ev⟩:∃v,vs[d.toNat]?=some v:=⟨_,Zzp (by lia)⟩;obtain⟨p,t,e,rfl,hp,tl⟩:=wq.ws.ku (Dz b2 hs1) v (Zzt ev);exact⟨_,Rv (.inl (b2 _ _ qst wq.hq)) d0 ev,k p t e H2 hp tl s2 ((Iw wq.s).trans b2)⟩
end
set_option maxHeartbeats 4000000
section
variable {dk:Dk}{c:Cl}
theorem AR.ku{dk:Dk}{x:Addr}(h:AR dk H x o)(k:AV H H')(hx:∀u,H x=some u->H' x=some u):AR dk H' x o:=by
 cases o with
 |none=>obtain⟨dx,h⟩:=h;exact⟨dx,hx _ h⟩
 |some S=>obtain⟨v,⟨dx,h1⟩,h2,h3⟩:=h;exact⟨v,⟨dx,hx _ h1⟩,RD.ku k _ _ (Cn S) h2,h3⟩
theorem AR.same{dk:Dk}{x:Addr}(h:AR dk H x o)(s:AA H H'):AR dk H' x o:=h.ku s.ku λu=>s x u
theorem AR.st{dk:Dk}{x st:Addr}(h:AR dk H x o)(s:AI H st)(b:But st H H'):AR dk H' x o:=h.ku (Dz b s) λu e=>b x u (λz=>by
 obtain⟨dx,v,hx⟩:=Df h
 obtain⟨ns,_,es⟩:=s
 rw[z,es] at hx
 cases hx) e
theorem AR.tb{dk:Dk}{x:Addr}(h:AR dk H x o)(t:Tb H Pt)(b:But Pt H H'):AR dk H' x o:=h.ku (Tn t b) λu e=>b x u (by
 obtain⟨dx,v,hx⟩:=Df h
 exact Jn t hx λu z=>by cases z) e
theorem AR.but{dk:Dk}{x:Addr}(h:AR dk H x o)(b:But x H H'):AV H H'/\(∀st,AI H st->AI H' st)/\∀Pt,Tb H Pt->Tb H' Pt:=by
 obtain⟨dx,v,hx⟩:=Df h;have ne:∀{a:Addr} {u:HO},H a=some u->(∀y z w,u≠.ins y z w)->a≠x:=λe n z=>by rw[z,hx] at e;exact n _ _ _ (Zzm e).symm
 refine⟨λa xs e=>b a _ (ne e λ_ _ _ z=>by cases z) e,λst s=>?_,λPt t=>?_⟩
 ·obtain⟨ns,h1,h2⟩:=s;exact⟨ns,h1,b _ _ (ne h2 λ_ _ _ z=>by cases z) h2⟩
 ·rcases t with e | ⟨c,e,e2⟩
  ·exact .inl (b _ _ (ne e λ_ _ _ z=>by cases z) e)
  ·exact .inr ⟨c,b _ _ (ne e λ_ _ _ z=>by cases z) e,b _ _ (ne e2 λ_ _ _ z=>by cases z) e2⟩
theorem AJ.add(g:AJ 11 S){u:Wt}(h20:S.wants.length<20)(hn:u.1∈S.wares.map (·.name))(hd:0<=u.2.1/\u.2.1<11)(ha:0<=u.2.2/\u.2.2<10^41):AJ 11 (Pe u S):=by
 refine⟨g.ws,g.len,g.com,?_,λx hx=>?_⟩
 ·show (S.wants++[u]).length<=20
  rw[Zzc,Zya];lia
 ·rcases Zz2.mp hx with z | z
  ·exact g.wants.2 x z
  ·rw[Zzr.mp z];exact⟨hn,hd,ha⟩
theorem AJ.drop(g:AJ 11 S)(i:Nat):AJ 11 (S4 i S):=by
 refine⟨g.ws,g.len,g.com,?_,λx hx=>?_⟩
 ·have:=g.wants.1
  show (S.wants.take i++S.wants.drop (i+1)).length<=20;rw[Zzc,Zz5,Zyj];lia
 ·rcases Zz2.mp hx with z | z
  ·exact g.wants.2 x (Zwp z)
  ·exact g.wants.2 x (List.mem_of_mem_drop z)
structure D71(dk:Dk)(x st Pt l sa:Addr)(xs:List Str)(S:Sh)(H H':Hp):Prop where
 kp:AR dk H' x (some S)
 rs:RD H' S.d (.ref sa)
 hs:AI H' st
 tb:Tb H' Pt
 hl:H' l=some (.lst (xs.map V.str))
 fr:∀b u,b≠x->b≠st->b≠Pt->H b=some u->H' b=some u
theorem D71.st{dk:Dk}{x st l sa:Addr}{xs:List Str}(h:D71 dk x st Pt l sa xs S H H')(n:l≠st)(s:AI H2 st)(b:But st H' H2):D71 dk x st Pt l sa xs S H H2:=⟨h.kp.st h.hs b,RD.ku (Dz b h.hs) _ _ (Cn S) h.rs,s,Z5 h.tb b h.hs,b _ _ n h.hl,λa u n1 n2 n3 e=>b _ _ n2 (h.fr a u n1 n2 n3 e)⟩
theorem D71.same{dk:Dk}{x st l sa:Addr}{xs:List Str}(h:D71 dk x st Pt l sa xs S H H')(s:AA H' H2):D71 dk x st Pt l sa xs S H H2:=⟨h.kp.same s,RD.same s _ _ h.rs,h.hs.same s,h.tb.same s,s _ _ h.hl,λa u n1 n2 n3 e=>s _ _ (h.fr a u n1 n2 n3 e)⟩
theorem rf(x:Str):PyData.eqv (.tuple [.str x]) (.tuple [.str x])=true:=by simp[PyData.eqv,PyData.eqvAll]
theorem okT(h:PyData.strOk x=true):okD (.tuple [.str x])=true:=(Mp (xs:=[x]) λy hy=>by rw[Zzr.mp hy];exact h).2
theorem Ff(e:Ek):PyData.strOk e.word=true:=by cases e<;>decide +kernel
theorem rd1(h:H p=some (.tup [.str x])):RD H (.tuple [.str x]) (.ref p):=RD.tup_mk h (RDs.one RD.str_mk)
inductive O8 (dk:Dk) (Pt:Addr) (vs:List V) (H:Hp) (Q:VK) (E:XK):Prop | mk (x st l:Addr) (v:V) (xs:List Str) (S:Sh) (n:Nat) (_:vs=[.ref x,v,.ref st,.ref l]) (_:AR dk H x (some S)) (_:RD H S.d v) (_:AI H st) (_:Tb H Pt) (_:H l=some (.lst (xs.map V.str))) (_:l≠st) (_:xs.length=4) (_:xs.Nodup) (_:(∀x∈xs,CK x)) (_:Td xs S) (_:S.wants.length<=n) (_:4<=n) (_:n<20) (_:∀(p:Addr) (v':V) (S':Sh) H',H' p=some (.tup [.bl true,v'])->RD H' S'.d v'->Td xs S'->S'.wants.length<=n+1->AR dk H' x (some S')->AI H' st->Tb H' Pt->(∀b u,b≠x->b≠st->b≠Pt->H b=some u->H' b=some u)->Q (.ref p) H')
theorem Xv(F:Fun K "_law_deed" "_law_deed" Qr f fd)(T:Txt mg)(C:Exc K mg c)(Zua:Has P w K mg base "_law_next" 1 ["_law_state", "_law_many"] AW)(Zqb:Has P w K mg base "_law_wrong" 2 ["_law_state", "_law_names_here", "_law_shop_here"] DE)(Zu8:Has P w K mg base "_law_said" 12 ["_law_desk", "_law_text"] (Hx dk Pt))(Zru:Has P w K mg base "_law_shop" 3 ["_law_state", "_law_names_here"] CF)(Zso:Has P w K mg base "shown_shop" 2 ["shop"] BP):Ax P w K mg base CX0 13 f fd ["_law_desk", "_law_shop_here", "_law_state", "_law_names_here"] (O8 dk Pt):=by
 refine F.go ["_law_desk", "_law_shop_here", "_law_state", "_law_names_here", "_law_way", "_law_text", "_law_due", "_law_at", "_law_other", "_law_want"] ?_ ?_ ?_;walk_at "f";obtain⟨x,st,l,v,xs,S,n,rfl,kp,rs,hs,tb,hl,lst',xl,nd,hnm,sh,wn,n4,n20,k⟩:=h;have hu:=Aw hr;have hu4:=Py hr;refine⟨_,(A3 (Al (i:=4) Nd rfl (Zzq rfl) (A7 Zua hr.z rfl (A2 (pv 2) (A2 A6 A0))))
 (A3 (B0 (An (Bg hu) (pv 4) A6 (Ao _)) (A3 (Il (A7 Zqb hr.z rfl (A2 (pv 2) (A2 (pv 3) (A2 (pv 1) A0)))) (Hr (n:=2) rfl (B8 (Af (i:=5) Nd rfl (Zzq rfl)) (B8 (Af (i:=6) Nd rfl (Zzq rfl)) E9))))
 (A8 (Ag (As (A2 (C3 (oh hu4) (A7 Zu8 hr.z rfl (A2 (pv 0) (A2 (pv 5) A0))) (As (A2 (pv 6) A0)) (Ao _)) (A2 (pv 1) A0)))))) Am)
 (A3 (B0 (PW.pt (K9 (An (Bg hu) (pv 4) A6 (Ao _)) (Hy (An Oq (Aj Bt rfl T.Ztg Cv (A2 (Aa hu (pv 1) A6 (λ_ _=>rfl)) A0)) A6 (Ao _))))) (A3 (Al (i:=7) Nd rfl (Zzq rfl) (A7 Zua hr.z rfl (A2 (pv 2) (A2 (Aj Bt rfl T.Ztg Cv (A2 (Aa hu (pv 1) A6 (λ_ _=>rfl)) A0)) A0))))
 (A8 (Ag (As (A2 (C3 (Bg hu) (A7 Zu8 hr.z rfl (A2 (pv 0) (A2 (Ai Ad Ac (Au Fd rfl T.Zsa Ep (A2 (pv 7) A0))) A0))) Ac (Ao _)) (A2 (As (A2 (Aa hu (pv 1) A6 (λ_ _=>rfl)) (A2 (Ai G3 (Bj Ks (Aa hu (pv 1) A6 (λ_ _=>rfl)) Cc (Br (pv 7))) (Bj Ks (Aa hu (pv 1) A6 (λ_ _=>rfl)) (Br (Ai Dr (pv 7) A6)) Cc)) A0))) A0)))))) Am)
 (A3 (B0 (An (Bg hu) (pv 4) A6 (Ao _)) (A3 (Al (i:=8) Nd rfl (Zzq rfl) (A7 Zru hr.z rfl (A2 (pv 2) (A2 (pv 3) A0))))
 (A8 (Ag (As (A2 (C3 (Bg hu) (A7 Zu8 hr.z rfl (A2 (pv 0) (A2 (Ai Ad Ac (A7 Zso hr.z rfl (A2 (pv 8) A0))) A0))) Ac (Ao _)) (A2 (pv 8) A0)))))) Am)
 (A3 (Al (i:=9) Nd rfl (Zzq rfl) (As (A2 (Aa hu (pv 3) (A7 Zua hr.z rfl (A2 (pv 2) (A2 A6 A0))) (λ_ _=>rfl)) (A2 (Ai Dr A6 (A7 Zua hr.z rfl (A2 (pv 2) (A2 A6 A0)))) (A2 (A7 Zua hr.z rfl (A2 (pv 2) (A2 A6 A0))) A0)))))
 (A3 (Al (i:=5) Nd rfl (Zzq rfl) (Ai Ad (Ai Ad (Ai Ad (Ai Ad (Ai Ad Ac (Aa hu (pv 9) A6 (λ_ _=>rfl))) Ac) (Au Fd rfl T.Zsa Ep (A2 (Aa hu (pv 9) A6 (λ_ _=>rfl)) A0))) Ac) (Au Fd rfl T.Zsa Ep (A2 (Aa hu (pv 9) A6 (λ_ _=>rfl)) A0))))
 (A8 (Ag (As (A2 (C3 (Bg hu) (A7 Zu8 hr.z rfl (A2 (pv 0) (A2 (pv 5) A0))) Ac (Ao _)) (A2 (As (A2 (Aa hu (pv 1) A6 (λ_ _=>rfl)) (A2 (Ai G3 (Aa hu (pv 1) A6 (λ_ _=>rfl)) (As (A2 (pv 9) A0))) A0))) A0))))))))))),?_⟩
 obtain⟨sa,sb,sc,ws,us,rfl,ha,hb,hc,rws,rus⟩:=Bq rs;have hul:=Ap rus;have d0:D71 dk x st Pt l sa xs S H H:=⟨kp,rs,hs,tb,hl,λ_ _ _ _ _ e=>e⟩;have g:=sh.good;refine Ny (λZ' H'=>∃d:Int,Z'=[some (.ref x),some (.ref sa),some (.ref st),some (.ref l),some (.int d),none,none,none,none,none]/\D71 dk x st Pt l sa xs S H H') ?_ (λKK hK=>?_);rotate_left
 ·walk_at "rd";exact⟨st,6,rfl,hs,by decide,by decide +kernel,λd H1 _ _ s1 b1=>hK _ _ ⟨d,rfl,d0.st lst' s1 b1⟩⟩
 rintro Z' H1 ⟨d,rfl,D1⟩;refine Ny (λZ' H'=>Z'=[some (.ref x),some (.ref sa),some (.ref st),some (.ref l),some (.int d),none,none,none,none,none]/\H'=H1) ?_ (λKK hK=>?_);rotate_left
 ·walk_at "rd";refine⟨rfl,Du (λz=>?_) (λz=>hK _ _ ⟨rfl,rfl⟩)⟩;refine⟨st,l,.ref sa,xs,S,rfl,D1.hs,D1.hl,lst',xl,nd,hnm,D1.rs,sh,λp t e H2 hp tl s2 b2=>?_⟩;have D2:=D1.st lst' s2 b2;refine⟨p,_,rfl,SqT.of hp,rfl,_,_,rfl,_,_,rfl,rfl,?_⟩;walk_at "rd";refine⟨x,t,some S,.no e,rfl,D2.kp,D2.tb,tl,λH3 s3 p4 H4 hp4 s4=>⟨by decide,λp5 hp5=>?_⟩⟩;have u5:=A5 (o:=.tup [.str e.word]) hp5;have D5:=((D2.same s3).same s4).same u5;refine⟨_,rd1 (u5 _ _ hp4),_,rd1 A1,okT (Ff e),okT (Ff e),by decide,λp6 hp6=>?_⟩;rw[rf];have D6:=D5.same (A5 (o:=.tup [.bl true,.ref sa]) hp6);exact k p6 _ S _ A1 D6.rs sh (by lia) D6.kp D6.hs D6.tb D6.fr
 rintro Z' H' ⟨rfl,rfl⟩;refine Ny (λZ' H''=>Z'=[some (.ref x),some (.ref sa),some (.ref st),some (.ref l),some (.int d),none,none,none,none,none]/\H''=H') ?_ (λKK hK=>?_);rotate_left
 ·walk_at "rd";obtain⟨sa',sb,sc,ws,us,e,ha,hb,hc,rws,rus⟩:=Bq D1.rs;cases e;have hul:=Ap rus;refine⟨rfl,Du (λz=>?_) (λz=>hK _ _ ⟨rfl,rfl⟩)⟩;refine⟨_,Ah (j:=1) ha rfl,sc,rfl,us,.inr hc,Du (λz2=>?_) (λz2=>hK _ _ ⟨rfl,rfl⟩)⟩;have z2:=FP z2;refine⟨_,Ah (j:=1) ha rfl,sc,rfl,us,.inr hc,st,_,rfl,D1.hs,z2,Zyh (b:=20) (by have:=g.wants.1;lia) (by decide +kernel),λi H2 i0 i1 s2 b2=>?_⟩;obtain⟨i,rfl⟩:=Zxh i0;have hi:i<S.wants.length:=by lia
  have w20:=g.wants.1;have iN:0<=(i:Int)/\(i:Int)<10^577:=⟨by lia,Zyh (b:=20) (by lia) (by decide +kernel)⟩;have li:(Str.ofString (toString (i:Int))).length<=577:=(El iN).2.2.2;have l5:(Str.ofString "drop ").length=5:=rfl;have D2:=D1.st lst' s2 b2;refine⟨i,rfl,Gd iN,Be (by lia),x,_,some S,.ok (S4 i S),rfl,D2.kp,D2.tb,?_,λH3 kp3 b3=>?_⟩
  ·rw[show Str.ofString "drop " ++ Str.ofString (toString (i:Int))=(Qn.drop i).text from Ul i];exact .to (show (i:Int)<10^60 from Zyh (b:=20) (by lia) (by decide +kernel)) rfl (FS (by lia)) rfl (g.drop i)
  obtain⟨ku,ks,kt⟩:=D2.kp.but b3;obtain⟨sa',sb,sc,ws,us,e,ha,hb,hc,rws,rus⟩:=Bq (RD.ku ku _ _ (Cn S) D2.rs);cases e;refine⟨rfl,_,Ah (j:=0) ha rfl,_,Ah (j:=1) ha rfl,i,rfl,sc,rfl,us,hc,λp1 H4 hp1 s4 _=>⟨_,Ah (j:=1) (s4 _ _ ha) rfl,i,rfl,sc,rfl,us,s4 _ _ hc,λp2 H5 hp2 s5 _=>?_⟩⟩;have hlu:=Ap rus;rw[show Ds us none (some (i:Int))=us.take i by rw[Wb (by lia),Zxq]] at hp1;rw[show Ds us (some ((i:Int)+1)) none=us.drop (i+1) by rw[Cu (by lia)];rfl] at hp2;refine⟨_,s5 _ _ hp1,_,hp2,Ae (by rw[Zz5,Zyj];lia),λr H6 hr6 s6 _=>⟨by decide,λt ht=>⟨by decide,λt2 ht2=>?_⟩⟩⟩;rw[show decide (V.str (Str.ofString "ok")=V.str (Str.ofString "ok"))=true from FQ rfl];have u1:=A5 (o:=.tup [.ref sb,.ref r]) ht;have u2:=A5 (o:=.tup [.bl true,.ref t]) ht2;have s:=(((s4.trans s5).trans s6).trans u1).trans u2;refine k t2 (.ref t) (S4 i S) _ A1 ?_ ⟨g.drop i,sh.pn⟩ ?_ (kp3.same s) ((ks st D2.hs).same s) ((kt Pt D2.tb).same s) λb u n1 n2 n3 e=>s _ _ (b3 b u n1 (D2.fr b u n1 n2 n3 e))
  ·unfold S4 Sh.d;refine RD.tup_mk (u2 _ _ A1) (RDs.cons (RD.tup_mk (s _ _ hb) (RDs.same s _ _ rws)) (RDs.one (RD.tup_mk (u2 _ _ (u1 _ _ hr6)) ?_)));rw[Zzi,Zvq,Zvr];have r5:=RDs.same s _ _ rus;exact RDs.app (Me i r5) (Mf (i+1) r5)
  ·show (S.wants.take i++S.wants.drop (i+1)).length<=n+1
   rw[Zzc,Zz5,Zyj];lia
 rintro Z' H1 ⟨rfl,rfl⟩;walk_at "rd";refine⟨rfl,Du (λz=>?_) (λz=>?_)⟩
 ·refine⟨st,l,xs,rfl,D1.hs,D1.hl,lst',xl,nd,hnm,λv2 S2 H2 rv2 sh2 w4 s2 b2=>⟨v2,S2,rfl,rv2,sh2.good.sd.weak,λH3 s3=>?_⟩⟩;have D3:=(D1.st lst' s2 b2).same s3;have rv3:=RD.same s3 _ _ rv2;have tl:=Jw (Hk sh2.good.sd.weak);have rl:=Ix sh2.good.sd.weak;refine⟨_,rfl,Zzk (m:=200000) (by show 5+_<=_;lia) (by decide),x,_,some S,.ok S2,rfl,D3.kp,D3.tb,.shop sh2.good,λH4 kp4 b4=>⟨rfl,by decide,λt ht=>?_⟩⟩;obtain⟨ku,ks,kt⟩:=D3.kp.but b4;rw[show decide (V.str (Str.ofString "ok")=V.str (Str.ofString "ok"))=true from FQ rfl];have u1:=A5 (o:=.tup [.bl true,v2]) ht;exact k t v2 S2 _ A1 (RD.same u1 _ _ (RD.ku ku _ _ (Cn S2) rv3)) sh2 (by lia) (kp4.same u1) ((ks st D3.hs).same u1) ((kt Pt D3.tb).same u1) λb u n1 n2 n3 e=>u1 _ _ (b4 b u n1 (D3.fr b u n1 n2 n3 e))
 ·refine⟨st,3,rfl,D1.hs,by decide,by decide +kernel,λa H2 a0 a1 s2 b2=>?_⟩;have D2:=D1.st lst' s2 b2;obtain⟨nm,en⟩:∃nm,xs[a.toNat]?=some nm:=⟨_,Zzp (by lia)⟩;have inm:nm∈S.wares.map (·.name):=sh.pn.mem_iff.mpr (Zzt (i:=a.toNat) (by rw[Zxx (by lia)];exact en));have nn:=(hnm nm (Zzt en)).name;have ln:=Cq nn;refine⟨_,Rv (.inl D2.hl) a0 (v:=.str nm) (by rw[Zzw,en];rfl),st,9,rfl,D2.hs,by decide,by decide +kernel,λdd H3 d0 d1 s3 b3=>⟨dd,rfl,st,14,rfl,s3,by decide,by decide +kernel,λm H4 m0 m1 s4 b4=>⟨by decide,λp hp=>?_⟩⟩⟩;have u:=A5 (o:=.tup [V.str nm,V.int (2+dd),V.int m]) hp;have D4:=((D2.st lst' s3 b3).st lst' s4 b4).same u;have hp4:=A1 (H:=H4) (a:=p) (o:=.tup [V.str nm,V.int (2+dd),V.int m]);generalize upd H4 p (.tup [V.str nm,V.int (2+dd),V.int m])=H5 at D4 hp4;have dN:0<=2+dd/\2+dd<10^577:=⟨by lia,Zyh (b:=20) (by lia) (by decide +kernel)⟩;have mN:0<=m/\m<10^577:=⟨by lia,Zyh (b:=20) (by lia) (by decide +kernel)⟩;have l1:(Str.ofString (toString (2+dd))).length<=577:=(El dN).2.2.2;have l2:(Str.ofString (toString m)).length<=577:=(El mN).2.2.2;have l5:(Str.ofString "want ").length=5:=rfl;have l6:(Str.ofString " ").length=1:=rfl;have gA:AJ 11 (Pe (nm,2+dd,m) S):=g.add (by lia) inm ⟨by show 0<=2+dd;lia,by show 2+dd<11;lia⟩ ⟨m0,Zvc m1 (by decide +kernel)⟩;refine⟨_,Ah (j:=0) hp4 rfl,nm,rfl,Be (by lia),Be (by simp only[strLen_append];lia),_,Ah (j:=1) hp4 rfl,_,rfl,Gd dN,Be (by simp only[strLen_append];lia),Be (by simp only[strLen_append];lia),_,Ah (j:=2) hp4 rfl,_,rfl,Gd mN,Be (by simp only[strLen_append];lia),x,_,some S,.ok (Pe (nm,2+dd,m) S),rfl,D4.kp,D4.tb,?_,λH6 kp6 b6=>?_⟩
  ·have e:=Km nm (2+dd) m
   rw[V2,show Str.ofString "want " ++ nm++one 32++Str.ofString (toString (2+dd))++one 32++Str.ofString (toString m)=(Qn.want nm (2+dd) m).text by rw[<- e];simp only[P5]];exact .to ⟨nn,⟨dN.1,Zyh (b:=20) (by lia) (by decide +kernel)⟩,m0,Zyh (b:=20) (by lia) (by decide +kernel)⟩ rfl ((FS λy=>y inm).trans ((FS (by lia)).trans (FS (by lia)))) rfl gA
  obtain⟨ku,ks,kt⟩:=D4.kp.but b6;obtain⟨sa',sb,sc,ws,us,e,ha,hb,hc,rws,rus⟩:=Bq (RD.ku ku _ _ (Cn S) D4.rs);cases e;have hp6:=ku _ _ hp4;have hlu:=Ap rus;refine⟨rfl,_,Ah (j:=0) ha rfl,_,Ah (j:=1) ha rfl,by decide,λp7 hp7=>⟨sc,rfl,us,A5 hp7 _ _ hc,_,A1,Ae (by show us.length+1<=1000;lia),λr H8 hr8 s8 _=>⟨by decide,λt ht=>⟨by decide,λt2 ht2=>?_⟩⟩⟩⟩;rw[show decide (V.str (Str.ofString "ok")=V.str (Str.ofString "ok"))=true from FQ rfl];have u1:=A5 (o:=.tup [.ref sb,.ref r]) ht;have u2:=A5 (o:=.tup [.bl true,.ref t]) ht2;have s:=(((A5 (o:=.tup [.ref p]) hp7).trans s8).trans u1).trans u2;refine k t2 (.ref t) (Pe (nm,2+dd,m) S) _ A1 ?_ ⟨gA,sh.pn⟩ ?_ (kp6.same s) ((ks st D4.hs).same s) ((kt Pt D4.tb).same s) λb u n1 n2 n3 e=>s _ _ (b6 b u n1 (D4.fr b u n1 n2 n3 e))
  ·unfold Pe Sh.d;refine RD.tup_mk (u2 _ _ A1) (RDs.cons (RD.tup_mk (s _ _ hb) (RDs.same s _ _ rws)) (RDs.one (RD.tup_mk (u2 _ _ (u1 _ _ hr8)) ?_)));rw[Zzi];exact RDs.app (RDs.same s _ _ rus) (RDs.one (RD.tup_mk (xs:=[.str nm,.int (2+dd),.int m]) (s _ _ hp6) (RDs.cons RD.str_mk (RDs.cons RD.int_mk (RDs.one RD.int_mk)))))
  ·show (S.wants++[_]).length<=n+1
   rw[Zzc,Zya];lia
end
set_option maxHeartbeats 4000000
section
variable {dk:Dk}{c:Cl}
inductive O7 (dk:Dk) (Pt:Addr) (vs:List V) (H:Hp) (Q:VK) (E:XK):Prop | mk (x:Addr) (v:V) (nm:Str) (S:Sh) (_:vs=[.ref x,v,.str nm]) (_:AR dk H x (some S)) (_:RD H S.d v) (_:Tb H Pt) (_:AJ 11 S) (_:nm∈S.wares.map (·.name)) (_:∀H',Q (.bl true) H')
inductive A2i (dk:Dk) (Pt x:Addr) (nm:Str) (m:Nat) (Z:St) (H:Hp):Prop | mk (v:V) (S:Sh) (_:Z=[some (.ref x),some v,some (.str nm)]) (_:AR dk H x (some S)) (_:RD H S.d v) (_:Tb H Pt) (_:AJ 11 S) (_:nm∈S.wares.map (·.name)) (_:m+S.wants.length=20)
theorem A1u(h:Aq nm=true):(Qn.want nm 9 1).fit:=⟨h,⟨by decide,by decide +kernel⟩,by decide,by decide +kernel⟩
theorem z7(nm:Str) : "want " ++ nm ++ " 9 1" = (Qn.want nm 9 1).text:=by
 have e:=Km nm 9 1;rw[show Bs 9 = "9" by decide +kernel,Zt.2.1,show one 32++("9" ++ (one 32 ++ "1")) = " 9 1" by decide +kernel] at e;exact e
theorem Xu(F:Fun K "_law_full" "_law_full" Qq f fd)(T:Txt mg)(De:Dsk K mg dk)(C:Exc K mg c)(Zu8:Has P w K mg base "_law_said" 12 ["_law_desk", "_law_text"] (Hx dk Pt))(Ztr:Yy P w K mg base dk.ft 11 ["self", "text"] (Go c dk Pt))(Ztm:Has P w K mg base "_law_plan_text" 8 ["_law_shop_here"] (Ez Pt)):Ax P w K mg base CX0 13 f fd ["_law_desk", "_law_shop_here", "_law_name"] (O7 dk Pt):=by
 refine F.go ["_law_desk", "_law_shop_here", "_law_name"] ?_ ?_ ?_;walk_at "f";obtain⟨x,v,nm,S,rfl,kp,rs,tb,g,inm,k⟩:=h;have hu:=Aw hr;have hu4:=Py hr;refine⟨_,(A3 (Xi PassesOwn.never (An (Zj hu) (Aj Bt rfl T.Ztg Cv (A2 (Aa hu (pv 1) A6 (λ_ _=>rfl)) A0)) A6 (Ao _)) (A3 (B0 (An (Rc hu) (A7 Zu8 hr.z rfl (A2 (pv 0) (A2 (Ai Ad (Ai Ad Ac (pv 2)) Ac) A0))) Ac (Ao _)) (A8 (Ag Gg)) Am)
 (A8 (Al (i:=1) Nd rfl (Zzq rfl) (As (A2 (Aa hu (pv 1) A6 (λ_ _=>rfl)) (A2 (Ai G3 (Aa hu (pv 1) A6 (λ_ _=>rfl)) (As (A2 (As (A2 (pv 2) (A2 A6 (A2 A6 A0)))) A0))) A0)))))))
 (A3 (B0 (An (Rb hu4) (A7 Zu8 hr.z rfl (A2 (pv 0) (A2 (Ai Ad (Ai Ad Ac (pv 2)) Ac) A0))) (As (A2 Ac A0)) (Ao _)) (A8 (Ag Gg)) Am)
 (A8 (Ag (Ea (C3 (oh hu4) (A7 Zu8 hr.z rfl (A2 (pv 0) (A2 (Ai Ad (Ai Ad Ac (pv 2)) Ac) A0))) (As (A2 Ac A0)) (Ao _)) (F0 (C3 (Bg hu) (Vg Ztr U8 (pv 0) De.c De.mt hr.z (A2 Ac A0)) (A7 Ztm hr.z rfl (A2 (pv 1) A0)) (Ao _)))))))),?_⟩
 have nn:Aq nm=true:=by
  obtain⟨w,hw,rfl⟩:=Zzo.mp inm;exact g.ws.txt w hw
 have ln:=Cq nn;have z1:(Str.ofString "want ").length=5/\(Str.ofString " 9 1").length=4/\(Str.ofString " 401 1").length=6:=by decide +kernel
 have w20:=g.wants.1;walk_at "rd";refine⟨A2i dk Pt x nm,⟨20 - S.wants.length,v,S,rfl,kp,rs,tb,g,inm,by lia⟩,?_⟩;clear kp rs tb g inm w20;rintro m Z H1 ⟨v,S,rfl,kp,rs,tb,g,inm,hm⟩;obtain⟨sa,sb,sc,ws,us,rfl,ha,hb,hc,rws,rus⟩:=Bq rs;have hul:=Ap rus;have w20:=g.wants.1;walk_at "rd";refine⟨_,Ah (j:=1) ha rfl,sc,rfl,us,.inr hc,?_⟩;have ok:decide (V.str (Str.ofString "ok")=V.str (Str.ofString "ok"))=true:=FQ rfl;refine Du (λz=>?_) (λz=>?_)
 ·have z:=FP z
  have gA:AJ 11 (Pe (nm,9,1) S):=g.add (by lia) inm ⟨by show (0:Int)<=9;decide,by show (9:Int)<11;decide⟩ ⟨by show (0:Int)<=1;decide,by show (1:Int)<10^41;decide +kernel⟩;refine⟨_,λZ' H' h=>h,Be (by lia),Be (by rw[strLen_append];lia),x,_,some S,.ok (Pe (nm,9,1) S),rfl,kp,tb,?_,λH2 kp2 b2=>⟨rfl,?_⟩⟩
  ·rw[show Str.ofString "want " ++ nm++Str.ofString " 9 1" = (Qn.want nm 9 1).text from z7 nm];exact .to (A1u nn) rfl ((FS λy=>y inm).trans ((FS (by decide)).trans (FS (by lia)))) rfl gA
  obtain⟨ku,_,kt⟩:=kp.but b2;obtain⟨sa',sb,sc,ws,us,e,ha,hb,hc,rws,rus⟩:=Bq (RD.ku ku _ _ (Cn S) rs);cases e;have hlu:=Ap rus;rw[ok,FS (by decide)];refine⟨_,Ah (j:=0) ha rfl,_,Ah (j:=1) ha rfl,by decide,λp hp=>⟨by decide,λp1 hp1=>⟨sc,rfl,us,A5 hp1 _ _ (A5 hp _ _ hc),_,A1,Ae (by show us.length+1<=1000;lia),λr H3 hr3 s3 _=>⟨by decide,λt ht=>?_⟩⟩⟩⟩;have u1:=A5 (o:=.tup [.str nm,.int 9,.int 1]) hp;have u2:=A5 (o:=.tup [.ref p]) hp1;have u3:=A5 (o:=.tup [.ref sb,.ref r]) ht;have s:=((u1.trans u2).trans s3).trans u3;refine⟨m - 1,by lia,.ref t,Pe (nm,9,1) S,rfl,kp2.same s,?_,(kt Pt tb).same s,gA,inm,?_⟩
  ·unfold Pe Sh.d;refine RD.tup_mk A1 (RDs.cons (RD.tup_mk (s _ _ hb) (RDs.same s _ _ rws)) (RDs.one (RD.tup_mk (u3 _ _ hr3) ?_)));rw[Zzi];exact RDs.app (RDs.same s _ _ rus) (RDs.one (RD.tup_mk (xs:=[.str nm,.int 9,.int 1]) (u3 _ _ (s3 _ _ (u2 _ _ A1))) (RDs.cons RD.str_mk (RDs.cons RD.int_mk (RDs.one RD.int_mk)))))
  ·show m - 1+(S.wants++[_]).length=20
   rw[Zzc,Zya];lia
 ·have z:¬ ((us.length:Nat):Int)<20:=λy=>z (FQ y)
  refine⟨Be (by lia),Be (by rw[strLen_append];lia),x,_,some S,.no .day,rfl,kp,tb,zi nn inm,λH2 s2 p2 H3 hp2 s3=>⟨by decide,λp hp=>?_⟩⟩;have u:=A5 (o:=.tup [.str (Str.ofString "no day")]) hp;refine⟨_,rd1 (u _ _ hp2),_,rd1 (x:=Str.ofString "no day") A1,okT (Ff .day),okT (Ff .day),?_⟩;rw[show PyData.eqv (.tuple [.str (Ek.word .day)]) (.tuple [.str (Str.ofString "no day")])=true from rf _,FS (by decide)];have s4:=(s2.trans s3).trans u;refine⟨Be (by lia),Be (by rw[strLen_append];lia),x,_,some S,.no .shop,rfl,kp.same s4,tb.same s4,?_,λH5 s5 p5 H6 hp5 s6=>⟨by decide,λp7 hp7=>?_⟩⟩
  ·rw[show Str.ofString "want " ++ nm++Str.ofString " 9 1" = (Qn.want nm 9 1).text from z7 nm];exact .due (A1u nn) ((FS λy=>y inm).trans ((FS (by decide)).trans (FT (by lia))))
  have u7:=A5 (o:=.tup [.str (Str.ofString "no shop")]) hp7;refine⟨_,rd1 (u7 _ _ hp5),_,rd1 (x:=Str.ofString "no shop") A1,okT (Ff .shop),okT (Ff .shop),?_⟩;rw[show PyData.eqv (.tuple [.str (Ek.word .shop)]) (.tuple [.str (Str.ofString "no shop")])=true from rf _,FT rfl];have s7:=s4.trans ((s5.trans s6).trans u7);have kp7:=kp.same s7;obtain⟨dx,v',hx⟩:=Df kp7;refine⟨dx,_,hx,rfl,x,_,some S,.plan S,rfl,kp7,tb.same s7,.plan rfl,λy H8 py t8 b8=>⟨_,S,rfl,RD.ku (Tn (tb.same s7) b8) _ _ (Cn S) (RD.same s7 _ _ rs),g,t8,λy' H9 py' _ _=>⟨rfl,?_⟩⟩⟩;rw[U7 g.ws.nd py py',FQ rfl];exact k H9
end
set_option maxHeartbeats 4000000
section
variable {dk:Dk}{c:Cl}
theorem cut4{t t2 t3 t4 u:TS}{D:AY}(M:St->Hp->Prop)(hrest:∀Z' H',M Z' H'->u D Z' H')(h:∀KK:St->Hp->Prop,(∀Z' H',M Z' H'->KK Z' H')->Ju t (Ju t2 (Ju t3 t4)) {D with nx:=KK} Z H):Ju t (Ju t2 (Ju t3 (Ju t4 u))) D Z H:=h (u D) hrest
inductive V1 (K:Zzy) (Pt:Addr) (vs:List V) (H:Hp) (Q:VK) (E:XK):Prop | mk (a:Addr) (ns:List Int) (_:vs=[.ref a]) (_:SqL K H a (ns.map V.int)) (_:ns.length<=63) (_:Tb H Pt) (_:∀H',Q (.bl true) H')
structure L71(dk:Dk)(Pt st l dl q x0 x1:Addr)(xs:List Str)(n:Nat)(Ss:List Sh)(vs:List V)(H:Hp):Prop where
 hs:AI H st
 tb:Tb H Pt
 hl:H l=some (.lst (xs.map V.str))
 hd:H dl=some (.lst [.ref x0,.ref x1])
 hq:H q=some (.lst vs)
 kp:∀(j:Nat) x,[x0,x1][j]?=some x->AR dk H x Ss[j]?
 rd:RDs H (Ss.map Sh.d) vs
 sh:∀S∈Ss,Td xs S/\S.wants.length<=n
structure B71(dk:Dk)(Pt st l dl x0 x1:Addr)(xs:List Str)(Ss:List Sh)(H:Hp):Prop where
 hs:AI H st
 tb:Tb H Pt
 hl:H l=some (.lst (xs.map V.str))
 hd:H dl=some (.lst [.ref x0,.ref x1])
 kp:∀(j:Nat) x,[x0,x1][j]?=some x->AR dk H x Ss[j]?
structure N71(st l dl q x0 x1:Addr)(xs:List Str):Prop where
 ls:l≠st
 ds:dl≠st
 qs:q≠st
 lq:l≠q
 dq:dl≠q
 x:x0≠x1
 xl:xs.length=4
 nd:xs.Nodup
 nm:∀x∈xs,CK x
section
variable {S0 l dl q x0 x1:Addr}{xs:List Str}{Ss:List Sh}{vs:List V}
theorem Iv{Ss:List Sh}{vs:List V}(k:AV H H')(h:RDs H (Ss.map Sh.d) vs):RDs H' (Ss.map Sh.d) vs:=RDs.ku k _ _ (Bu Sh.d Cn _) h
theorem L71.same(h:L71 dk Pt S0 l dl q x0 x1 xs n Ss vs H)(s:AA H H'):L71 dk Pt S0 l dl q x0 x1 xs n Ss vs H':=⟨h.hs.same s,h.tb.same s,s _ _ h.hl,s _ _ h.hd,s _ _ h.hq,λj x e=>(h.kp j x e).same s,RDs.same s _ _ h.rd,h.sh⟩
theorem L71.draw(h:L71 dk Pt S0 l dl q x0 x1 xs n Ss vs H)(N:N71 S0 l dl q x0 x1 xs)(s:AI H' S0)(b:But S0 H H'):L71 dk Pt S0 l dl q x0 x1 xs n Ss vs H':=⟨s,Z5 h.tb b h.hs,b _ _ N.ls h.hl,b _ _ N.ds h.hd,b _ _ N.qs h.hq,λj x e=>(h.kp j x e).st h.hs b,Iv (Dz b h.hs) h.rd,h.sh⟩
theorem L71.pt(h:L71 dk Pt S0 l dl q x0 x1 xs n Ss vs H)(t:Tb H' Pt)(b:But Pt H H'):L71 dk Pt S0 l dl q x0 x1 xs n Ss vs H':=by
 have ne:∀{a:Addr} {ys:List V},H a=some (.lst ys)->H' a=some (.lst ys):=λe=>b _ _ (Jn h.tb e λu z=>by cases z) e;exact⟨A04 h.hs h.tb b,t,ne h.hl,ne h.hd,ne h.hq,λj x e=>(h.kp j x e).tb h.tb b,Iv (Tn h.tb b) h.rd,h.sh⟩
theorem t7{x:Addr}(N:N71 S0 l dl q x0 x1 xs){y:Addr}(h1:[x0,x1][j]?=some x)(h2:[x0,x1][i]?=some y)(ne:i≠j):y≠x:=by
 match j,i,h1,h2 with
 |0,0,_,_=>exact absurd rfl ne
 |0,1,h1,h2=>cases h1;cases h2;exact Zza N.x
 |1,0,h1,h2=>cases h1;cases h2;exact N.x
 |1,1,_,_=>exact absurd rfl ne
 |0,i+2,_,h2=>cases h2
 |1,i+2,_,h2=>cases h2
 |j+2,_,h1,_=>cases h1
theorem B71.same(h:B71 dk Pt S0 l dl x0 x1 xs Ss H)(s:AA H H'):B71 dk Pt S0 l dl x0 x1 xs Ss H':=⟨h.hs.same s,h.tb.same s,s _ _ h.hl,s _ _ h.hd,λj x e=>(h.kp j x e).same s⟩
theorem L71.b(h:L71 dk Pt S0 l dl q x0 x1 xs n Ss vs H):B71 dk Pt S0 l dl x0 x1 xs Ss H:=⟨h.hs,h.tb,h.hl,h.hd,h.kp⟩
theorem B71.set(h:B71 dk Pt S0 l dl x0 x1 xs Ss H)(N:N71 S0 l dl q x0 x1 xs)(hq:H q=some (.lst vs))(us:List V):B71 dk Pt S0 l dl x0 x1 xs Ss (upd H q (.lst us)):=by
 have kl:∀{b:Addr} {u:HO},b≠q->H b=some u->upd H q (.lst us) b=some u:=λn e=>by rw[Ab n];exact e
 refine⟨h.hs.upd (Zza N.qs),uz h.tb hq,kl N.lq h.hl,kl N.dq h.hd,λj y ey=>(h.kp j y ey).ku (Jg hq) λu e=>kl (λz=>?_) e⟩;obtain⟨_,_,e⟩:=Df (h.kp j y ey);rw[z,hq] at e;cases e
theorem c9:∀{ds:List PyData} {vs:List V} {d:PyData} {v:V} (j:Nat),RDs H ds vs->RD H d v->RDs H (ds.set j d) (vs.set j v)
 |[],vs,_,_,_,h,_=>by rw[RDs.nil_of h];exact RDs.nil
 |d::ds,vs,d',v,0,h,r=>by
  obtain⟨x,r',rfl,_,h2⟩:=RDs.cons_of h;exact RDs.cons r h2
 |d::ds,vs,d',v,j+1,h,r=>by
  obtain⟨x,r',rfl,h1,h2⟩:=RDs.cons_of h;exact RDs.cons h1 (c9 j h2 r)
theorem S1:∀ys:List Str,PyData.eqvAll (ys.map .str) (ys.map .str)=true
 |[]=>by rw[Zxs,PyData.eqvAll]
 |y::r=>by rw[Zz9,PyData.eqvAll,PyData.eqv,S1 r];simp
theorem Zb{x:Addr}(h:[x0,x1][j]?=some x):[V.ref x0,V.ref x1][j]?=some (V.ref x):=by
 have:([x0,x1].map V.ref)[j]?=some (V.ref x):=by rw[Zzw,h];rfl
 exact this
def Ys(Ss:List Sh)(i:Nat)(ys:List Str):Prop:=ys.length=i/\∀(j:Nat) (y:Str),ys[j]?=some y->∃S,Ss[j]?=some S/\Es S y
theorem Ys.snoc{y:Str}(h:Ys Ss i ys)(e:Ss[i]?=some S)(p:Es S y):Ys Ss (i+1) (ys++[y]):=by
 refine⟨by rw[Zzc,h.1];rfl,λj z ez=>?_⟩;by_cases hj:j<ys.length
 ·rw[Zy0 hj] at ez;exact h.2 j z ez
 ·have:=(Zzb.mp ez).1
  rw[Zzc,Zya] at this;have hl:=h.1;have ej:j=i:=by lia
  subst ej;rw[Zyi (by lia),show j - ys.length=0 by lia] at ez;cases ez;exact⟨S,e,p⟩
theorem Ys.uniq{zs:List Str}(h1:Ys Ss i ys)(h2:Ys Ss i zs)(hs:∀S∈Ss,Td xs S):ys=zs:=by
 refine Zxg λj=>?_;have l1:=h1.1;have l2:=h2.1;by_cases hj:j<i
 ·obtain⟨y,ey⟩:∃y,ys[j]?=some y:=⟨_,Zzp (by lia)⟩;obtain⟨z,ez⟩:∃z,zs[j]?=some z:=⟨_,Zzp (by lia)⟩;obtain⟨S,e1,p1⟩:=h1.2 j y ey;obtain⟨S',e2,p2⟩:=h2.2 j z ez;cases Zzm (e1.symm.trans e2);rw[ey,ez,U7 (hs S (Zzt e1)).good.ws.nd p1 p2]
 ·rw[Zz0 (by lia),Zz0 (by lia)]
theorem Ys.ok(h:Ys Ss i ys)(hs:∀S∈Ss,Td xs S):∀y∈ys,PyData.strOk y=true:=λy hy=>by
 obtain⟨j,ej⟩:=Zwv.mp hy;obtain⟨S,e,p⟩:=h.2 j y ej;exact vf (hs S (Zzt e)).good p
theorem B71.told(h:B71 dk Pt S0 l dl x0 x1 xs Ss H)(N:N71 S0 l dl q x0 x1 xs){x:Addr}(ex:[x0,x1][i]?=some x)(k:AR dk H' x (some S))(b:But x H H'){Ss':List Sh}{us:List V}(e1:Ss'[i]?=some S)(e2:∀j,j≠i->Ss'[j]?=Ss[j]?)(hq:H q=some (.lst us))(hr:RDs H (Ss'.map Sh.d) us)(hs:∀S∈Ss',Td xs S/\S.wants.length<=n):L71 dk Pt S0 l dl q x0 x1 xs n Ss' us H':=by
 have kx:=h.kp i x ex;obtain⟨ku,ks,kt⟩:=kx.but b;obtain⟨dx,v,hx⟩:=Df kx;have kl:∀{a:Addr} {ys:List V},H a=some (.lst ys)->H' a=some (.lst ys):=λ{a ys} e=>b _ _ (λz=>by rw[z,hx] at e;cases e) e;refine⟨ks _ h.hs,kt _ h.tb,kl h.hl,kl h.hd,kl hq,λj y ey=>?_,Iv ku hr,hs⟩;by_cases z:j=i
 ·subst z;cases ex.symm.trans ey;rw[e1];exact k
 ·rw[e2 j z];exact(h.kp j y ey).ku ku λu e=>b y u (t7 N ex ey z) e
theorem Y0{x:Addr}(h1:H x=none)(h2:H dx=none):AA H (upd (upd (upd H dx (.own x)) x (.ins dk.C dx [])) x (.ins dk.C dx [("kept",.non)]))/\AR dk (upd (upd (upd H dx (.own x)) x (.ins dk.C dx [])) x (.ins dk.C dx [("kept",.non)])) x none:=by
 refine⟨λb u e=>?_,dx,A1⟩;have n1:=A9 e h1;rw[Ab n1,Ab n1,Ab (A9 e h2)];exact e
end
inductive zp (dk:Dk) (Pt a st l dl q x0 x1:Addr) (xs:List Str) (i:Nat) (Z:St) (H:Hp):Prop | mk (o:Option V) (Ss:List Sh) (vs:List V) (_:Z=[some (.ref a),some (.ref st),some (.ref l),some (.ref dl),some (.ref q),o,none,none,none,none]) (_:Ss.length=i) (_:L71 dk Pt st l dl q x0 x1 xs 4 Ss vs H)
inductive A2g (dk:Dk) (Pt a st l dl q x0 x1:Addr) (xs:List Str) (i:Nat) (Z:St) (H:Hp):Prop | mk (o o1 o2 o3 o4:Option V) (Ss:List Sh) (vs:List V) (_:Z=[some (.ref a),some (.ref st),some (.ref l),some (.ref dl),some (.ref q),o,o1,o2,o3,o4]) (_:Ss.length=2) (_:L71 dk Pt st l dl q x0 x1 xs (4+i) Ss vs H)
theorem A0j(F:Fun K "law" "law" Tv f fd)(T:Txt mg)(De:Dsk K mg dk)(C:Exc K mg c)(Zqa:Has P w K mg base "_law_drawn" 1 ["_law_script"] (Lv K))(Zq9:Has P w K mg base "_law_names" 2 ["_law_state", "_law_many"] DB)(Zrf:A18 P w K mg base dk.fi 1 ["self"] (Lb dk))(Zu8:Has P w K mg base "_law_said" 12 ["_law_desk", "_law_text"] (Hx dk Pt))(Zru:Has P w K mg base "_law_shop" 3 ["_law_state", "_law_names_here"] CF)(Zso:Has P w K mg base "shown_shop" 2 ["shop"] BP)(Zua:Has P w K mg base "_law_next" 1 ["_law_state", "_law_many"] AW)(Zq2:Has P w K mg base "_law_deed" 13 ["_law_desk", "_law_shop_here", "_law_state", "_law_names_here"] (O8 dk Pt))(Ztr:Yy P w K mg base dk.ft 11 ["self", "text"] (Go c dk Pt))(Ztm:Has P w K mg base "_law_plan_text" 8 ["_law_shop_here"] (Ez Pt))(Zq1:Has P w K mg base "_law_full" 13 ["_law_desk", "_law_shop_here", "_law_name"] (O7 dk Pt)):Ax P w K mg base CX0 14 f fd ["_law_script"] (V1 K Pt):=by
 refine F.go ["_law_script", "_law_state", "_law_names_here", "_law_desks", "_law_shops", "_law_k", "_law_turn", "_law_at", "_law_good", "_law_told"] ?_ ?_ ?_;walk_at "f";obtain⟨a,ns,rfl,hS,hlen,tb,k⟩:=h;have hu:=Aw hr;have hu4:=Py hr;refine⟨_,(A3 (Al (i:=1) Nd rfl (Zzq rfl) (A7 Zqa hr.z rfl (A2 (pv 0) A0)))
 (A3 (Al (i:=2) Nd rfl (Zzq rfl) (A7 Zq9 hr.z rfl (A2 (pv 1) (A2 A6 A0))))
 (A3 (Al (i:=3) Nd rfl (Zzq rfl) (B7 (A2 (nj Zrf De.me hr.z rfl De.md) (A2 (nj Zrf De.me hr.z rfl De.md) A0))))
 (A3 (Al (i:=4) Nd rfl (Zzq rfl) (B7 A0))
 (A3 (Bd PassesOwn.never rfl (C9 rfl T.Zsc (A2 A6 A0)) (Af (i:=5) Nd rfl (Zzq rfl))
 (A3 (B0 (PW.pt (J0 (An (Rb hu4) (A7 Zu8 hr.z rfl (A2 (Aa hu (pv 3) (pv 5) (λ_ _=>rfl)) (A2 Ac A0))) (As (A2 Ac A0)) (Ao _)) (Ho (An (Rb hu4) (A7 Zu8 hr.z rfl (A2 (Aa hu (pv 3) (pv 5) (λ_ _=>rfl)) (A2 Ac A0))) (As (A2 Ac A0)) (Ao _))))) (A8 (Ag Gg)) Am)
 (A3 (Bf (Bw Zz7 Zyr Zyq By (pv 4) (A2 (A7 Zru hr.z rfl (A2 (pv 1) (A2 (pv 2) A0))) A0)))
 (A8 (B0 (An (Rc hu) (A7 Zu8 hr.z rfl (A2 (Aa hu (pv 3) (pv 5) (λ_ _=>rfl)) (A2 (Ai Ad Ac (A7 Zso hr.z rfl (A2 (Aa hu (pv 4) (pv 5) (λ_ _=>rfl)) A0))) A0))) Ac (Ao _)) (A8 (Ag Gg)) Am)))))
 (A3 (Bd PassesOwn.never rfl (C9 rfl T.Zsc (A2 (A7 Zua hr.z rfl (A2 (pv 1) (A2 A6 A0))) A0)) (Af (i:=6) Nd rfl (Zzq rfl))
 (A3 (Al (i:=7) Nd rfl (Zzq rfl) (A7 Zua hr.z rfl (A2 (pv 1) (A2 A6 A0))))
 (A3 (Il (A7 Zq2 hr.z rfl (A2 (Aa hu (pv 3) (pv 7) (λ_ _=>rfl)) (A2 (Aa hu (pv 4) (pv 7) (λ_ _=>rfl)) (A2 (pv 1) (A2 (pv 2) A0))))) (Hr (n:=2) rfl (B8 (Af (i:=8) Nd rfl (Zzq rfl)) (B8 (Jd (pv 4) (pv 7) Hn) E9))))
 (A3 (E2 (own:=["_law_desk"]) (cap:=[]) (i:=9) rfl (Bz rfl) (At (by decide)) Nd rfl rfl (Dq (pv 3))
 (λ_ _ _ _ _ _=>⟨(Af (i:=0) (FP rfl) rfl (Zzq rfl) (.inr rfl)),Ba,(Vg Ztr U8 (pv 0) De.c De.mt hr.z (A2 Ac A0))⟩))
 (A8 (B0 (PW.pt (J0 (Bk (Bm (pv 8))) (Ho (An (Rb hu4) (pv 9) (Bi (own:=["_law_shop_here"]) (cap:=[]) rfl (Bz rfl) (At (by decide)) (Dq (pv 4))
 (λ_ _ _ _ _ _=>⟨(Af (i:=0) (FP rfl) rfl (Zzq rfl) (.inr rfl)),Ba,(A7 Ztm hr.z rfl (A2 (pv 0) A0))⟩)) (Ao _))))) (A8 (Ag Gg)) Am))))))
 (A8 (Ag (za (C3 Oq (A7 Zua hr.z rfl (A2 (pv 1) (A2 A6 A0))) A6 (Ao _)) (F0 (A7 Zq1 hr.z rfl (A2 (Aa hu (pv 3) A6 (λ_ _=>rfl)) (A2 (Aa hu (pv 4) A6 (λ_ _=>rfl)) (A2 (Aa hu (pv 2) A6 (λ_ _=>rfl)) A0)))))))))))))),?_⟩
 refine cut4 (λZ' H'=>∃(st l dl q x0 x1:Addr) (xs:List Str),Z'=[some (.ref a),some (.ref st),some (.ref l),some (.ref dl),some (.ref q),none,none,none,none,none]/\N71 st l dl q x0 x1 xs/\L71 dk Pt st l dl q x0 x1 xs 4 [] [] H') ?_ (λKK hK=>?_);rotate_left
 ·walk_at "rd";refine⟨a,ns,rfl,hS,hlen,λst H1 s1 sm1=>⟨st,4,rfl,s1,by decide,by decide,λl xs H2 xl nd nm hl fl s2 b2 x0 dx0 f0 g0 _=>⟨x0,dx0,rfl,A1,rfl,?_⟩⟩⟩;obtain⟨m3,k3⟩:=Y0 (dk:=dk) f0 g0;generalize upd (upd (upd H2 dx0 (.own x0)) x0 (.ins dk.C dx0 [])) x0 (.ins dk.C dx0 [("kept",.non)])=H3 at m3 k3;intro x1 dx1 f1 g1 _;refine⟨x1,dx1,rfl,A1,rfl,?_⟩;have n01:x0≠x1:=λz=>by
   obtain⟨_,_,e⟩:=Df k3;rw[z,f1] at e;cases e
  obtain⟨m4,k4⟩:=Y0 (dk:=dk) f1 g1;generalize upd (upd (upd H3 dx1 (.own x1)) x1 (.ins dk.C dx1 [])) x1 (.ins dk.C dx1 [("kept",.non)])=H4 at m4 k4;refine⟨by decide,λdl hdl=>⟨Zym _,λq hq=>?_⟩⟩;have u5:=A5 (o:=.lst [V.ref x0,V.ref x1]) hdl;have u6:=A5 (o:=.lst []) hq;have s24:=m3.trans m4;have s46:=u5.trans u6;have s26:=s24.trans s46;refine hK _ _ ⟨st,l,dl,q,x0,x1,xs,rfl,⟨Zza (s1.ne fl),Zza ((s2.same s24).ne hdl),Zza (((s2.same s24).same u5).ne hq),A9 (u5 _ _ (s24 _ _ hl)) hq,A9 A1 hq,n01,xl,nd,nm⟩,s2.same s26,(Z5 (tb.same sm1) b2 s1).same s26,s26 _ _ hl,u6 _ _ A1,A1,λj x e=>?_,RDs.nil,λS h=>by cases h⟩;have kn:∀y,y=x0\/y=x1->AR dk (upd (upd H4 dl (.lst [V.ref x0,V.ref x1])) q (.lst [])) y none:=λy h=>by
   rcases h with rfl | rfl
   ·exact(k3.same m4).same s46
   ·exact k4.same s46
  exact kn x (by simpa using Zzt e)
 rintro Z' H1 ⟨st,l,dl,q,x0,x1,xs,rfl,N,L⟩;refine Ny (zp dk Pt a st l dl q x0 x1 xs 2) ?_ (λKK hK=>?_);rotate_left
 ·walk_at "rd";refine⟨by decide,by decide,Cj (Le 0 _) (zp dk Pt a st l dl q x0 x1 xs) ⟨_,[],[],rfl,rfl,L⟩ (λ_ _ _ _ _=>trivial) (λi y Z H2 hi hy h=>?_) (λZ H2 h=>?_)⟩
  ·obtain⟨o,Ss,vs,rfl,ls,M2⟩:=h;subst hy;have hi:i<2:=hi;obtain⟨x,ex⟩:∃x,[x0,x1][i]?=some x:=⟨_,Zzp hi⟩;have ev:=Zb ex;have kp:=M2.kp i x ex;rw[Zz0 (by lia)] at kp;have i0:(0+(i:Int))=(i:Int):=by lia
   walk_at "rd";rw[i0];refine⟨_,B3 (j:=i) M2.hd ev,x,_,none,.no .shop,rfl,kp,M2.tb,.due (q:=.plan) trivial rfl,λH3 s3 p4 H4 hp4 s4=>⟨by decide,λp5 hp5=>?_⟩⟩;have u5:=A5 (o:=.tup [.str (Str.ofString "no shop")]) hp5;have M5:=((M2.same s3).same s4).same u5;have kp5:=((kp.same s3).same s4).same u5;refine⟨_,rd1 (u5 _ _ hp4),_,rd1 (x:=Str.ofString "no shop") A1,okT (Ff .shop),okT (Ff .shop),?_⟩;rw[show PyData.eqv (.tuple [.str (Ek.word .shop)]) (.tuple [.str (Str.ofString "no shop")])=true from rf _,FS (by decide)];generalize upd H4 p5 (.tup [.str (Str.ofString "no shop")])=H5 at M5 kp5;refine⟨_,B3 (j:=i) M5.hd ev,x,_,none,.no .shop,rfl,kp5,M5.tb,?_,λH6 s6 p7 H7 hp7 s7=>⟨by decide,λp8 hp8=>?_⟩⟩
   ·rw[show Str.ofString "drop 0" = (Qn.drop 0).text by decide +kernel];exact .due (q:=.drop 0) (by show ((0:Nat):Int)<10^60;decide +kernel) rfl
   have u8:=A5 (o:=.tup [.str (Str.ofString "no shop")]) hp8;have M8:=((M5.same s6).same s7).same u8;have kp8:=((kp5.same s6).same s7).same u8;refine⟨_,rd1 (u8 _ _ hp7),_,rd1 (x:=Str.ofString "no shop") A1,okT (Ff .shop),okT (Ff .shop),?_⟩;rw[show PyData.eqv (.tuple [.str (Ek.word .shop)]) (.tuple [.str (Str.ofString "no shop")])=true from rf _,FS (by decide)];generalize upd H7 p8 (.tup [.str (Str.ofString "no shop")])=H8 at M8 kp8;refine⟨Ck M8.hq,st,l,xs,rfl,M8.hs,M8.hl,N.ls,N.xl,N.nd,N.nm,λv S H9 rv sh w4 s9 b9=>?_⟩;have M9:=M8.draw N s9 b9;have lv:=Ap M9.rd;have ku:=Jg (ys:=vs++[v]) M9.hq;have hat:(vs++[v])[i]?=some v:=by
    rw[Zyi (by lia),show i - vs.length=0 by lia];rfl
   have M10:=M9.b.set N M9.hq (vs++[v]);have rd10:RDs (upd H9 q (.lst (vs++[v]))) ((Ss++[S]).map Sh.d) (vs++[v]):=by
    rw[Zzi];exact RDs.app (Iv ku M9.rd) (RDs.one (RD.ku ku _ _ (Cn S) rv))
   have hq10:=A1 (H:=H9) (a:=q) (o:=.lst (vs++[v]));refine⟨vs,M9.hq,Zy6 (m:=1000) (by lia) (by decide),_,B3 (j:=i) M10.hd ev,_,B3 (j:=i) hq10 hat,v,S,rfl,RD.ku ku _ _ (Cn S) rv,sh.good.sd.weak,λH10 s10=>?_⟩;generalize upd H9 q (.lst (vs++[v]))=H9' at M10 rd10 hq10 s10;have M11:=M10.same s10;have kp11:=M11.kp i x ex;rw[Zz0 (by lia)] at kp11;have tl:=Jw (Hk sh.good.sd.weak);have rl:=Ix sh.good.sd.weak;refine⟨_,rfl,Zzk (m:=200000) (by show 5+_<=_;lia) (by decide),x,_,none,.ok S,rfl,kp11,M11.tb,.shop sh.good,λH11 kp12 b11=>⟨rfl,?_⟩⟩;rw[show decide (V.str (Str.ofString "ok")=V.str (Str.ofString "ok"))=true from FQ rfl,FS (by decide)];refine⟨_,Ss++[S],vs++[v],rfl,by rw[Zzc,ls];rfl,M11.told N ex kp12 b11 ?_ (λj hj=>?_) (s10 _ _ hq10) (RDs.same s10 _ _ rd10) λS' hS'=>?_⟩
   ·rw[Zyi (by lia),show i - Ss.length=0 by lia];rfl
   ·by_cases z:j<Ss.length
    ·rw[Zy0 z]
    ·rw[Zz0 (by rw[Zzc,Zya];lia),Zz0 (by lia)]
   ·rcases Zz2.mp hS' with z | z
    ·exact M9.sh S' z
    ·rw[Zzr.mp z];exact⟨sh,w4⟩
  ·obtain⟨o,Ss,vs,rfl,ls,M2⟩:=h;exact hK _ _ ⟨o,Ss,vs,rfl,ls,M2⟩
 clear L;rintro Z' H1 ⟨o,Ss,vs,rfl,l2,L⟩;walk_at "rd";refine⟨st,9,rfl,L.hs,by decide,by decide +kernel,λd H2 d0 d1 s2 b2=>⟨d,rfl,by lia,by lia,?_⟩⟩;have M:=L.draw N s2 b2;refine Cj (Le 0 _) (A2g dk Pt a st l dl q x0 x1 xs) ⟨_,_,_,_,_,Ss,vs,rfl,l2,M⟩ (λ_ _ _ _ _=>trivial) (λi y Z H3 hi hy h=>?_) (λZ H3 h=>?_)
 ·clear L M l2;obtain⟨o,o1,o2,o3,o4,Ss,vs,rfl,l2,M3⟩:=h;have hi:i<d.toNat:=hi;walk_at "rd";refine⟨st,2,rfl,M3.hs,by decide,by decide +kernel,λe H4 e0 e1 s4 b4=>?_⟩;have M4:=M3.draw N s4 b4;obtain⟨j,rfl⟩:=Zxh e0;obtain⟨x,ex⟩:∃x,[x0,x1][j]?=some x:=⟨_,Zzp (by show j<2;lia)⟩;have lv:=Ap M4.rd;obtain⟨v,ev⟩:∃v,vs[j]?=some v:=⟨_,Zzp (by lia)⟩;obtain⟨S,eS,rv⟩:=B2 M4.rd ev;have kp:=M4.kp j x ex;rw[eS] at kp;have shS:=M4.sh S (Zzt eS);refine⟨_,B3 (j:=j) M4.hd (Zb ex),v,B3 (j:=j) M4.hq ev,x,st,l,v,xs,S,4+i,rfl,kp,rv,M4.hs,M4.tb,M4.hl,N.ls,N.xl,N.nd,N.nm,shS.1,shS.2,by lia,by lia,λp v' S' H5 hp rv' sh' w' kp5 s5 t5 fr=>?_⟩;obtain⟨dx,vk,hx⟩:=Df kp;have keep:∀{b:Addr} {u:HO},H4 b=some u->b≠st->(∀y z w,u≠.ins y z w)->(∀u',u≠.tbl u')->H5 b=some u:=λ{b u} e n1 n2 n3=>fr b u (λz=>by rw[z,hx] at e;exact n2 _ _ _ (Zzm e).symm) n1 (Jn M4.tb e n3) e;have ku:AV H4 H5:=λb ys e=>keep e (M4.hs.neT e) (λ_ _ _ z=>by cases z) λ_ z=>by cases z
  have kl:∀{b:Addr} {ys:List V},b≠st->H4 b=some (.lst ys)->H5 b=some (.lst ys):=λn e=>keep e n (λ_ _ _ z=>by cases z) λ_ z=>by cases z
  have M5:B71 dk Pt st l dl x0 x1 xs (Ss.set j S') H5:=⟨s5,t5,kl N.ls M4.hl,kl N.ds M4.hd,λi y ey=>by
   by_cases z:i=j
   ·subst z
    cases ex.symm.trans ey
    rw[Zw9 (by lia)]
    exact kp5
   ·rw[Zxt (Zza z)]
    have ky:=M4.kp i y ey
    refine ky.ku ku λu e=>?_
    obtain⟨dy,vy,hy⟩:=Df ky
    obtain⟨ns',_,es⟩:=M4.hs
    exact fr y u (t7 N ex ey z) (λz=>by rw[z,es] at hy;cases hy) (Jn M4.tb hy λ_ z=>by cases z) e⟩
  have hq5:=kl N.qs M4.hq;refine⟨p,_,rfl,SqT.of hp,rfl,_,_,rfl,_,_,rfl,?_⟩;walk_at "rd";have lt2:j<vs.length:=by lia
  have eix:ixN vs.length (j:Int)=some j:=by
   unfold ixN;rw[FT (by lia),FT (by lia)];rfl
  refine⟨vs,hq5,j,eix,rfl,?_⟩;have kq:=Jg (ys:=vs.set j v') hq5;have hS':∀T∈Ss.set j S',Td xs T/\T.wants.length<=4+(i+1):=λT hT=>by
   rcases List.mem_or_eq_of_mem_set hT with z | z
   ·obtain⟨z1,z2⟩:=M4.sh T z;exact⟨z1,by lia⟩
   ·rw[z];exact⟨sh',by lia⟩
  have M6b:=M5.set N hq5 (vs.set j v');have M6:L71 dk Pt st l dl q x0 x1 xs (4+(i+1)) (Ss.set j S') (vs.set j v') (upd H5 q (.lst (vs.set j v'))):=⟨M6b.hs,M6b.tb,M6b.hl,M6b.hd,A1,M6b.kp,Iv kq (by rw[List.map_set];exact c9 j (Iv ku M4.rd) rv'),hS'⟩;have l3:(Ss.set j S').length=2:=by rw[Zuv];exact l2
  generalize upd H5 q (.lst (vs.set j v'))=H6 at M6;generalize Ss.set j S'=Ss' at M6 hS' l3;generalize vs.set j v'=vs' at M6;clear M5 M6b kq eix;have sh6:∀T∈Ss',Td xs T:=λT h=>(hS' T h).1;walk_at "rd";refine⟨_,M6.hd,Ji (Eu dl _) (by show 2<=sizeLine;decide) (λi' acc H'=>∃ys,acc=ys.map V.str/\Ys Ss' i' ys/\L71 dk Pt st l dl q x0 x1 xs (4+(i+1)) Ss' vs' H') ⟨[],rfl,⟨rfl,λ_ _ z=>by cases z⟩,M6⟩ (λi acc H' _ h=>by obtain⟨_,_,_,h⟩:=h;exact h.hd) (λi acc H' h=>by obtain⟨ys,rfl,h,_⟩:=h;rw[Zzz,h.1];exact Zzx _) (λm y acc H7 hm hy h=>?_) (λacc H7 h p6 hp6=>?_)⟩
  ·obtain⟨ys,rfl,hY,M7⟩:=h;have hm:m<2:=hm;obtain⟨x,ex⟩:∃x,[x0,x1][m]?=some x:=⟨_,Zzp hm⟩;cases (Zb ex).symm.trans hy;obtain⟨S,eS⟩:∃S,Ss'[m]?=some S:=⟨_,Zzp (by lia)⟩;have kp:=M7.kp m x ex;rw[eS] at kp;walk_at "rd";obtain⟨dx,vk,hx⟩:=Df kp;exact⟨dx,_,hx,rfl,x,_,some S,.plan S,rfl,kp,M7.tb,.plan rfl,λy H8 py t8 b8=>⟨ys++[y],by rw[Zzi];rfl,hY.snoc eS py,M7.pt t8 b8⟩⟩
  ·obtain⟨ys,rfl,hY,M7⟩:=h;have M8:=M7.same (A5 (o:=.lst (ys.map V.str)) hp6);have e8:=A1 (H:=H7) (a:=p6) (o:=.lst (ys.map V.str));generalize upd H7 p6 (.lst (ys.map V.str))=H8 at M8 e8;rw[FS (by decide)];have pq:p6≠q:=(A9 M7.hq hp6).symm;refine⟨vs',M8.hq,Ji (Eu q _) (Ae (by have:=Ap M8.rd;lia)) (λi' acc H'=>∃zs,acc=zs.map V.str/\Ys Ss' i' zs/\H' p6=some (.lst (ys.map V.str))/\L71 dk Pt st l dl q x0 x1 xs (4+(i+1)) Ss' vs' H') ⟨[],rfl,⟨rfl,λ_ _ z=>by cases z⟩,e8,M8⟩ (λi acc H' _ h=>by obtain⟨_,_,_,_,h⟩:=h;exact h.hq) (λi acc H' h=>by obtain⟨ys,rfl,h,_⟩:=h;rw[Zzz,h.1];exact Zzx _) (λm y acc H9 hm hy h=>?_) (λacc H9 h p9 hp9=>?_)⟩
   ·obtain⟨zs,rfl,hZ,e9,M9⟩:=h;obtain⟨S,eS,rS⟩:=B2 M9.rd hy;walk_at "rd";exact⟨y,S,rfl,rS,(sh6 S (Zzt eS)).good,M9.tb,λz H10 pz t10 b10=>⟨zs++[z],by rw[Zzi];rfl,hZ.snoc eS pz,b10 _ _ (Jn M9.tb e9 λ_ z=>by cases z) e9,M9.pt t10 b10⟩⟩
   ·obtain⟨zs,rfl,hZ,e9,M9⟩:=h;have lv:=Ap M9.rd;rw[show [V.ref x0,V.ref x1].length=vs'.length from lv.trans l3 |>.symm] at hY;cases hY.uniq hZ sh6;have u10:=A5 (o:=.lst (ys.map V.str)) hp9;have ok:=(Mp (hY.ok sh6)).1;refine⟨_,RD.lst_mk (u10 _ _ e9) (Iy ys),_,RD.lst_mk A1 (Iy ys),ok,ok,?_⟩;rw[show PyData.eqv (.list (ys.map .str)) (.list (ys.map .str))=true by rw[PyData.eqv];exact S1 ys,FS (by decide)];exact⟨_,_,_,_,_,Ss',_,rfl,l3,M9.same u10⟩
 ·clear L M l2;obtain⟨o,o1,o2,o3,o4,Ss,vs,rfl,l2,M3⟩:=h;walk_at "rd";refine⟨st,4,rfl,M3.hs,by decide,by decide +kernel,λe H4 _ _ s4 b4=>⟨e,rfl,Du (λ_=>k H4) (λ_=>?_)⟩⟩;have M4:=M3.draw N s4 b4;have lv:=Ap M4.rd;obtain⟨v,ev⟩:∃v,vs[0]?=some v:=⟨_,Zzp (by lia)⟩;obtain⟨S,eS,rv⟩:=B2 M4.rd ev;have kp:=M4.kp 0 x0 rfl;rw[eS] at kp;have sh:=(M4.sh S (Zzt eS)).1;obtain⟨nm,en⟩:∃nm,xs[2]?=some nm:=⟨_,Zzp (by have:=N.xl;lia)⟩;refine⟨_,B3 (j:=0) M4.hd rfl,v,B3 (j:=0) M4.hq ev,_,B3 (j:=2) M4.hl (v:=.str nm) (by rw[Zzw,en];rfl),x0,v,nm,S,rfl,kp,rv,M4.tb,sh.good,sh.pn.mem_iff.mpr (Zzt (i:=2) (by rw[Zxx (by decide)];exact en)),k⟩
end
abbrev aI(K:Zzy)(x:Str)(f:Addr):Prop:=Zyz K mainGlobals x=some (some (.ref f))
abbrev lI(K:Zzy)(x:Str)(s:Stmt)(f:Addr)(o:Value)(d:Option Addr)(k c p:Value)(n:Option Addr)(v t:Value)(l:Array (Option Value)):Prop:=K.lookup f=some ⟨o,d,.func (Zy1 x x (Dl s) (C8 s) (Ar s) .none k c p n v t),l⟩
abbrev cI(K:Zzy)(v:Value)(x:Str):Prop:=Zui K v x=true
abbrev kI(K:Zzy)(f:Addr):Prop:=Zx9 K (.ref f)=true
abbrev zI(K:Zzy)(x:Str):Prop:=Zyz K mainGlobals x=some none
inductive Dm (P:Program) (w:World) (base:Heap) (K:Zzy) (mg:Str->Option Value):Prop | mk (h:Heap) (_:K.In h) (_:h.Ns mainGlobals mg)
theorem A1s{k:Nat}{st:Stmt}(D:Dm P w base K mg)(a:aI K x f)(F:Fun K x x st f fd)(o:Ax P w K mg base CX0 k f fd ps sp)
  (h:∀(kV doc pm:Value) (an:Option Addr) (cdv ct:Value) (us:List Value),us.length=ps.length->bindArgs (Zy1 x x (Dl st) (C8 st) (Ar st) .none kV doc pm an cdv ct) ⟨us,[]⟩=pure (ps.zip us)):Has P w K mg base x k ps sp:=by obtain⟨_,X,G⟩:=D;exact⟨f,fd,Zz6 X G a,F.2,F.binds h,o⟩
theorem hasM{k:Nat}{st:Stmt}(F:Fun K x q st f fd)(o:Ax P w K mg base CX0 k f fd ps sp)(h:∀(kV doc pm:Value) (an:Option Addr) (cdv ct:Value) (us:List Value),us.length=ps.length->bindArgs (Zy1 x q (Dl st) (C8 st) (Ar st) .none kV doc pm an cdv ct) ⟨us,[]⟩=pure (ps.zip us)):A18 P w K mg base f k ps sp:=⟨fd,F.binds h,o⟩
inductive QI (K:Zzy) (x:Str) (s:Stmt):Prop | mk (f:Addr) (fd:FuncData) (_:aI K x f) (_:Fun K x x s f fd)
theorem q_mk{s:Stmt}{o:Value}{d:Option Addr}{k c p:Value}{n:Option Addr}{v t:Value}{l:Array (Option Value)}(a:aI K x f)(b:lI K x s f o d k c p n v t l)(e:cI K v x)(g:kI K f):QI K x s:=⟨f,_,a,Rz b e g⟩
theorem Bn{k:Nat}{st:Stmt}(D:Dm P w base K mg)(q:QI K x st)(o:∀{f:Addr} {fd:FuncData},Fun K x x st f fd->Ax P w K mg base CX0 k f fd ps sp)(h:∀(kV doc pm:Value) (an:Option Addr) (cdv ct:Value) (us:List Value),us.length=ps.length->bindArgs (Zy1 x x (Dl st) (C8 st) (Ar st) .none kV doc pm an cdv ct) ⟨us,[]⟩=pure (ps.zip us)):Has P w K mg base x k ps sp:=by
 obtain⟨f,fd,a,F⟩:=q;exact A1s D a F (o F) h
theorem A1r{k:Nat}{st:Stmt}(F:Fun K x q st f fd)(o:Ax P w K mg base (CXE P w) k f fd ps sp)(h:∀(kV doc pm:Value) (an:Option Addr) (cdv ct:Value) (us:List Value),us.length=ps.length->bindArgs (Zy1 x q (Dl st) (C8 st) (Ar st) .none kV doc pm an cdv ct) ⟨us,[]⟩=pure (ps.zip us)):Yy P w K mg base f k ps sp:=⟨fd,F.binds h,o⟩
theorem Oy{k:Nat}{st:Stmt}(D:Dm P w base K mg)(q:QI K x st)(o:∀{f:Addr} {fd:FuncData},Fun K x x st f fd->Ax P w K mg base (CXE P w) k f fd ps sp)(h:∀(kV doc pm:Value) (an:Option Addr) (cdv ct:Value) (us:List Value),us.length=ps.length->bindArgs (Zy1 x x (Dl st) (C8 st) (Ar st) .none kV doc pm an cdv ct) ⟨us,[]⟩=pure (ps.zip us)):Lo P w K mg base x k ps sp:=by
 obtain⟨f,fd,a,F⟩:=q;obtain⟨_,X,G⟩:=D;exact⟨f,fd,Zz6 X G a,F.2,F.binds h,o F⟩
theorem DV{C:List Value->Prop}(h:∀(a:Value) (r:List Value),r.length=n->C (a::r)):∀us:List Value,us.length=n+1->C us:=λus e=>by
 cases us with
 |nil=>cases e
 |cons a r=>exact h a r (Nat.succ.inj e)
theorem AH{C:List Value->Prop}(h:∀a:Value,C [a]):∀us:List Value,us.length=1->C us:=DV λa r e=>by
 cases r with
 |nil=>exact h a
 |cons=>cases e
theorem AX{C:List Value->Prop}(h:∀a b:Value,C [a,b]):∀us:List Value,us.length=2->C us:=DV λa r e=>AH (C:=λr=>C (a::r)) (h a) r e
theorem T5{C:List Value->Prop}(h:∀a b c:Value,C [a,b,c]):∀us:List Value,us.length=3->C us:=DV λa r e=>AX (C:=λr=>C (a::r)) (h a) r e
theorem A0l{C:List Value->Prop}(h:∀a b c d:Value,C [a,b,c,d]):∀us:List Value,us.length=4->C us:=DV λa r e=>T5 (C:=λr=>C (a::r)) (h a) r e
theorem all_mk{l:PySem.W.OpenLaw}{fa:Addr}(X:K.In h)(G:h.Ns mainGlobals mg)(hfa:mg "law" = some (.ref fa))
  {f4 f41 f55 f65:Addr} {d4 n4 d41 n41 d55 n55 d65 n65:Option Addr} {s4 s41 s55 s65:Array (Option Value)} {o4 v4 e4 p4 g4 t4 o41 v41 e41 p41 g41 t41 o55 v55 e55 p55 g55 t55 o65 v65 e65 p65 g65 t65:Value} {t_COMING:Tok} {t_FIGURES:Tok} {t_FLOOR:Tok} {t_GIVES:Tok} {t_LAG:Tok} {t_LAST_DAY:Tok} {t_LETTERS:Tok} {t_MEMBERS:Tok} {t_MOST_COMING:Tok} {t_MOST_FIGURES:Tok} {t_MOST_LAG:Tok} {t_MOST_LETTERS:Tok} {t_MOST_PARTS:Tok} {t_MOST_WANTS:Tok} {t_MOST_WARES:Tok} {t_NAME:Tok} {t_PARTS:Tok} {t_SHOP_ROW:Tok} {t_STOCK:Tok} {t_WANT_AMOUNT:Tok} {t_WANT_DAY:Tok} {t_WANT_NAME:Tok} {Ra R1 R2 R3 R4:Addr} {Re Rn1 Rn2 Rn3 Rn4:Nat} {Rt1 Rt2 Rt3 Rt4 Rt1_0 Rt1_1 Rt1_2 Rt1_3 Rt1_4 Rt2_0 Rt2_1 Rt2_2 Rt3_0 Rt3_1 Rt3_2 Rt4_0 Rt4_1 Rt4_2:Tok} {Fa F1 F2 F3 F4 F5 F6 F7 F8:Addr} {Fe Fn1 Fn2 Fn3:Nat} {Ft1 Ft2 Ft3 Ft4 Ft5 Ft6 Ft7 Ft8 Ft1_0 Ft1_1 Ft1_2 Ft2_0:Tok} {Dc:Addr} {Zu2:Addr} {Zu5:Addr} {Zu4:Addr} {Ztw:Addr} {Zu3:Addr} {Zu1:Addr} {Zr8:Addr} {Zrn:Addr} {ct Pt:Addr} {odc:Option Addr} {vsc:Array Value} {slc:Array (Option Value)}
  (q1:QI K "_law_drawn" Og)
  (q2:QI K "_law_next" Qo)
  (q3:QI K "_law_names" Of)
  (A4:Zy5 K (.ref Dc) "__init__" = some (some (.ref f4))) (I4:Zuw K (.ref f4)=true) (L4:K.lookup f4=some ⟨o4,d4,.func (Zy1 "__init__" "Desk.__init__" (Dl E8) (C8 E8) (Ar E8) .none v4 e4 p4 n4 g4 t4),s4⟩) (c4:cI K g4 "Desk.__init__") (k4:kI K f4)
  (q5:QI K "is_name" U1)
  (q6:QI K "read_name" Oc)
  (q7:QI K "is_number" Oh)
  (q8:QI K "read_number" Ij)
  (q9:QI K "read_words" J8)
  (q10:QI K "read_row" Lh)
  (q11:QI K "rows_of" Tt)
  (q12:QI K "written_shop" K1)
  (q13:QI K "names_of" Qi)
  (q14:QI K "is_tuple" Qt)
  (q15:QI K "is_whole" Qs)
  (q16:QI K "is_from" U2)
  (q17:QI K "is_between" Ma)
  (q18:QI K "is_want" Ty)
  (q19:QI K "are_wants" Om)
  (q20:QI K "is_part" U0)
  (q21:QI K "are_unlike" Md)
  (q22:QI K "are_parts" On)
  (q23:QI K "is_arrival" Mb)
  (q24:QI K "are_arrivals" K7)
  (q25:QI K "is_ware" Tx)
  (q26:QI K "are_wares" Ol)
  (q27:QI K "part_names" Lz)
  (q28:QI K "needed_names" K5)
  (q29:QI K "is_shop" Tz)
  (q30:QI K "read_shop" K4)
  (q31:QI K "without_ends" K3)
  (q32:QI K "endless_parts" Jp)
  (q33:QI K "ring" mi)
  (q34:QI K "check_rings" Ik)
  (q35:QI K "read_ringless" Gc)
  (q36:QI K "ware_of" Ni)
  (q37:QI K "check_told" J9)
  (q38:QI K "with_want" O9)
  (q39:QI K "without_want" K2)
  (q40:QI K "levels" Xc)
  (a41:aI K "worked" f41) (l41:lI K "worked" Lw f41 o41 d41 v41 e41 p41 n41 g41 t41 s41) (c41:cI K g41 "worked") (k41:kI K f41)
  (q42:QI K "lots_for" Qj)
  (q43:QI K "least_lots" M0)
  (q44:QI K "count_days" Mc)
  (q45:QI K "wants_row" Oa)
  (q46:QI K "begun_row" Oj)
  (q47:QI K "needs_row" Od)
  (q48:QI K "arrivals_row" K6)
  (q49:QI K "first_early" Ld)
  (q50:QI K "planned" Tu)
  (q51:QI K "shown_words" Lc)
  (q52:QI K "days_with" Oi)
  (q53:QI K "shown_plan" Ly)
  (q54:QI K "answer" Xd)
  (A55:Zy5 K (.ref Dc) "tell" = some (some (.ref f55))) (I55:Zuw K (.ref f55)=true) (L55:K.lookup f55=some ⟨o55,d55,.func (Zy1 "tell" "Desk.tell" (Dl E4) (C8 E4) (Ar E4) .none v55 e55 p55 n55 g55 t55),s55⟩) (c55:cI K g55 "Desk.tell") (k55:kI K f55)
  (q56:QI K "_law_said" Qm)
  (q57:QI K "_law_ware" Qk)
  (q58:QI K "_law_shop" Ql)
  (q59:QI K "shown_row" Ob)
  (q60:QI K "shown_shop" Lx)
  (q61:QI K "_law_wrong" Oe)
  (q62:QI K "_law_deed" Qr)
  (q63:QI K "_law_plan_text" Jo)
  (q64:QI K "_law_full" Qq)
  (a65:aI K "law" f65) (l65:lI K "law" Tv f65 o65 d65 v65 e65 p65 n65 g65 t65 s65) (c65:cI K g65 "law") (k65:kI K f65)
  (z_len:zI K "len")
  (z_isinstance:zI K "isinstance")
  (z_str:zI K "str")
  (z_all:zI K "all")
  (z_bool:zI K "bool")
  (z_int:zI K "int")
  (z_tuple:zI K "tuple")
  (z_range:zI K "range")
  (z_list:zI K "list")
  (z_max:zI K "max")
  (z_sorted:zI K "sorted")
  (z_zip:zI K "zip")
  (z_min:zI K "min")
  (z_enumerate:zI K "enumerate")
  (z_ValueError:zI K "ValueError")
  (z_sum:zI K "sum")
  (Zs6:Zyz K mainGlobals "COMING" = some (some (.int 5 t_COMING)))
  (Zr7:Zyz K mainGlobals "FIGURES" = some (some (.str "0123456789" t_FIGURES)))
  (Zr2:Zyz K mainGlobals "FLOOR" = some (some (.int 3 t_FLOOR)))
  (Zr1:Zyz K mainGlobals "GIVES" = some (some (.int 2 t_GIVES)))
  (Zqp:Zyz K mainGlobals "LAG" = some (some (.int 1 t_LAG)))
  (Zte:Zyz K mainGlobals "LAST_DAY" = some (some (.int 400 t_LAST_DAY)))
  (Zr6:Zyz K mainGlobals "LETTERS" = some (some (.str "abcdefghijklmnopqrstuvwxyz" t_LETTERS)))
  (Zrm:Zyz K mainGlobals "MEMBERS" = some (some (.int 7 t_MEMBERS)))
  (Zsl:Zyz K mainGlobals "MOST_COMING" = some (some (.int 12 t_MOST_COMING)))
  (Zsz:Zyz K mainGlobals "MOST_FIGURES" = some (some (.int 60 t_MOST_FIGURES)))
  (Zrj:Zyz K mainGlobals "MOST_LAG" = some (some (.int 30 t_MOST_LAG)))
  (Zsy:Zyz K mainGlobals "MOST_LETTERS" = some (some (.int 8 t_MOST_LETTERS)))
  (Zs5:Zyz K mainGlobals "MOST_PARTS" = some (some (.int 6 t_MOST_PARTS)))
  (Ztj:Zyz K mainGlobals "MOST_WANTS" = some (some (.int 20 t_MOST_WANTS)))
  (Zs4:Zyz K mainGlobals "MOST_WARES" = some (some (.int 12 t_MOST_WARES)))
  (Zti:Zyz K mainGlobals "NAME" = some (some (.int 0 t_NAME)))
  (Zrl:Zyz K mainGlobals "PARTS" = some (some (.int 6 t_PARTS)))
  (Zs0:Zyz K mainGlobals "SHOP_ROW" = some (some (.str "shop\n" t_SHOP_ROW)))
  (Zr0:Zyz K mainGlobals "STOCK" = some (some (.int 4 t_STOCK)))
  (Zsk:Zyz K mainGlobals "WANT_AMOUNT" = some (some (.int 2 t_WANT_AMOUNT)))
  (Zrz:Zyz K mainGlobals "WANT_DAY" = some (some (.int 1 t_WANT_DAY)))
  (Zrt:Zyz K mainGlobals "WANT_NAME" = some (some (.int 0 t_WANT_NAME)))
  (r_g:Zyz K mainGlobals "ROWS" = some (some (.ref Ra))) (r_l:K.lookup Ra=some {cls:=.type "dict",data:=.dict #[{hash:=PyData.keyHash w.params "ware",key:=.str "ware" Rt1,val:=.ref R1},{hash:=PyData.keyHash w.params "coming",key:=.str "coming" Rt2,val:=.ref R2},{hash:=PyData.keyHash w.params "part",key:=.str "part" Rt3,val:=.ref R3},{hash:=PyData.keyHash w.params "want",key:=.str "want" Rt4,val:=.ref R4}] Re}) (r_n:(Ra == sysModules)=false)
  (r_1:K.lookup R1=some {cls:=.type "tuple",data:=.seq #[Value.str "name" Rt1_0,Value.str "number" Rt1_1,Value.str "number" Rt1_2,Value.str "number" Rt1_3,Value.str "number" Rt1_4] Rn1})
  (r_2:K.lookup R2=some {cls:=.type "tuple",data:=.seq #[Value.str "name" Rt2_0,Value.str "number" Rt2_1,Value.str "number" Rt2_2] Rn2})
  (r_3:K.lookup R3=some {cls:=.type "tuple",data:=.seq #[Value.str "name" Rt3_0,Value.str "name" Rt3_1,Value.str "number" Rt3_2] Rn3})
  (r_4:K.lookup R4=some {cls:=.type "tuple",data:=.seq #[Value.str "name" Rt4_0,Value.str "number" Rt4_1,Value.str "number" Rt4_2] Rn4})
  (o_g:Zyz K mainGlobals "FORMS" = some (some (.ref Fa))) (o_l:K.lookup Fa=some {cls:=.type "dict",data:=.dict #[{hash:=PyData.keyHash w.params "want",key:=.str "want" Ft1,val:=.ref F1},{hash:=PyData.keyHash w.params "drop",key:=.str "drop" Ft2,val:=.ref F2},{hash:=PyData.keyHash w.params "plan",key:=.str "plan" Ft3,val:=.ref F3},{hash:=PyData.keyHash w.params "late",key:=.str "late" Ft4,val:=.ref F4},{hash:=PyData.keyHash w.params "most",key:=.str "most" Ft5,val:=.ref F5},{hash:=PyData.keyHash w.params "stock",key:=.str "stock" Ft6,val:=.ref F6},{hash:=PyData.keyHash w.params "serves",key:=.str "serves" Ft7,val:=.ref F7},{hash:=PyData.keyHash w.params "buy",key:=.str "buy" Ft8,val:=.ref F8}] Fe}) (o_n:(Fa == sysModules)=false)
  (o_1:K.lookup F1=some {cls:=.type "tuple",data:=.seq #[Value.str "name" Ft1_0,Value.str "day" Ft1_1,Value.str "number" Ft1_2] Fn1})
  (o_2:K.lookup F2=some {cls:=.type "tuple",data:=.seq #[Value.str "place" Ft2_0] Fn2})
  (o_3:K.lookup F3=some {cls:=.type "tuple",data:=.seq #[] Fn3})
  (d_g:Zyz K mainGlobals "Desk" = some (some (.ref Dc))) (d_1:Zw1 K Dc Str.empty=true) (d_2:Zv7 K Dc=true) (d_3:PySem.W.plainOver K Dc=true) (d_4:Zy5 K (.ref Dc) "__setattr__" = some (some (.builtin "object.__setattr__"))) (d_5:PySem.W.makesIn K Dc=true) (d_6:Zx9 K (.ref Dc)=true) (d_7:Zy5 K (.ref Dc) "kept" = some none)
  (q_NeedError:Zyz K mainGlobals "NeedError" = some (some (.ref Zu2)))
  (q_NoText:Zyz K mainGlobals "NoText" = some (some (.ref Zu5)))
  (q_NoShop:Zyz K mainGlobals "NoShop" = some (some (.ref Zu4)))
  (q_Ring:Zyz K mainGlobals "Ring" = some (some (.ref Ztw)))
  (q_NoName:Zyz K mainGlobals "NoName" = some (some (.ref Zu3)))
  (q_NoDay:Zyz K mainGlobals "NoDay" = some (some (.ref Zu1)))
  (q_NoBuy:Zyz K mainGlobals "NoBuy" = some (some (.ref Zr8)))
  (q_NoPlan:Zyz K mainGlobals "NoPlan" = some (some (.ref Zrn)))
  (Zqx:Nv K Zu3=true)
  (Zqw:Ga K Zu3)
  (Ztq:exmOne K (.ref Zu3) (.ref Zu2)=some true)
  (Ztd:kitOne K (.ref Zu3) (.ref Zu2)=some true)
  (Ztc:kitOne K (.ref Zu3) (.ref Zu5)=some false)
  (Ztb:kitOne K (.ref Zu3) (.ref Zu4)=some false)
  (Zsj:kitOne K (.ref Zu3) (.ref Ztw)=some false)
  (Zta:kitOne K (.ref Zu3) (.ref Zu3)=some true)
  (Zsx:kitOne K (.ref Zu3) (.ref Zu1)=some false)
  (Zry:kitOne K (.ref Zu3) (.ref Zr8)=some false)
  (Zs9:kitOne K (.ref Zu3) (.ref Zrn)=some false)
  (Ztu:kitOne K (.ref Zu3) (.type "ValueError")=some true)
  (Zq0:Nv K Ztw=true)
  (Zpz:Ga K Ztw)
  (Zth:exmOne K (.ref Ztw) (.ref Zu2)=some true)
  (Zsn:kitOne K (.ref Ztw) (.ref Zu2)=some true)
  (Zsi:kitOne K (.ref Ztw) (.ref Zu5)=some false)
  (Zsh:kitOne K (.ref Ztw) (.ref Zu4)=some false)
  (Zrs:kitOne K (.ref Ztw) (.ref Ztw)=some true)
  (Zsg:kitOne K (.ref Ztw) (.ref Zu3)=some false)
  (Zs3:kitOne K (.ref Ztw) (.ref Zu1)=some false)
  (Zri:kitOne K (.ref Ztw) (.ref Zr8)=some false)
  (Zrr:kitOne K (.ref Ztw) (.ref Zrn)=some false)
  (Ztl:kitOne K (.ref Ztw) (.type "ValueError")=some true)
  (Zs2:Nv K Zu5=true)
  (Zqv:Ga K Zu5)
  (Ztp:exmOne K (.ref Zu5) (.ref Zu2)=some true)
  (Zt9:kitOne K (.ref Zu5) (.ref Zu2)=some true)
  (Zt8:kitOne K (.ref Zu5) (.ref Zu5)=some true)
  (Zt7:kitOne K (.ref Zu5) (.ref Zu4)=some false)
  (Zsf:kitOne K (.ref Zu5) (.ref Ztw)=some false)
  (Zt6:kitOne K (.ref Zu5) (.ref Zu3)=some false)
  (Zsw:kitOne K (.ref Zu5) (.ref Zu1)=some false)
  (Zrx:kitOne K (.ref Zu5) (.ref Zr8)=some false)
  (Zs8:kitOne K (.ref Zu5) (.ref Zrn)=some false)
  (Ztt:kitOne K (.ref Zu5) (.type "ValueError")=some true)
  (Zro:Nv K Zu4=true)
  (Zqu:Ga K Zu4)
  (Zto:exmOne K (.ref Zu4) (.ref Zu2)=some true)
  (Zt5:kitOne K (.ref Zu4) (.ref Zu2)=some true)
  (Zt4:kitOne K (.ref Zu4) (.ref Zu5)=some false)
  (Zt3:kitOne K (.ref Zu4) (.ref Zu4)=some true)
  (Zse:kitOne K (.ref Zu4) (.ref Ztw)=some false)
  (Zt2:kitOne K (.ref Zu4) (.ref Zu3)=some false)
  (Zsv:kitOne K (.ref Zu4) (.ref Zu1)=some false)
  (Zrw:kitOne K (.ref Zu4) (.ref Zr8)=some false)
  (Zs7:kitOne K (.ref Zu4) (.ref Zrn)=some false)
  (Zts:kitOne K (.ref Zu4) (.type "ValueError")=some true)
  (Zqz:Nv K Zu1=true)
  (Zq8:Ga K Zu1)
  (Ztk:exmOne K (.ref Zu1) (.ref Zu2)=some true)
  (Zt0:kitOne K (.ref Zu1) (.ref Zu2)=some true)
  (Zsu:kitOne K (.ref Zu1) (.ref Zu5)=some false)
  (Zst:kitOne K (.ref Zu1) (.ref Zu4)=some false)
  (Zs1:kitOne K (.ref Zu1) (.ref Ztw)=some false)
  (Zss:kitOne K (.ref Zu1) (.ref Zu3)=some false)
  (Zsd:kitOne K (.ref Zu1) (.ref Zu1)=some true)
  (Zrq:kitOne K (.ref Zu1) (.ref Zr8)=some false)
  (Zrv:kitOne K (.ref Zu1) (.ref Zrn)=some false)
  (Ztn:kitOne K (.ref Zu1) (.type "ValueError")=some true)
  (tq:g41=.ref ct) (tl:K.lookup ct=some ⟨.type "code",odc,.fields vsc,slc⟩) (tv:vsc[11]?=some (.ref Pt)) (tw:si vsc ct Pt=true) (tp:K.lookup Pt=none) :
  ∃(fd:FuncData) (ct Pt:Addr),(∀(s:Shared) (v:Value),BindsTo s fd ⟨[v],[]⟩ [("_law_script",v)])/\PySem.W.tabIn K "worked" = some (ct,Pt)/\K.lookup Pt=none/\∀base:Heap,K.In base->base.Ns mainGlobals mg->Lf mg base->Ax l.prog w K mg base CX0 14 fa fd ["_law_script"] (V1 K Pt):=by
 have e:=hfa.symm.trans (Zz6 X G a65);cases e;have T:Txt mg:=⟨Zyp X G z_len,Zyp X G z_isinstance,Zyp X G z_str,Zyp X G z_all,Zyp X G z_bool,Zyp X G z_int,Zyp X G z_tuple,Zyp X G z_range,Zyp X G z_list,Zyp X G z_max,Zyp X G z_sorted,Zyp X G z_zip,Zyp X G z_min,Zyp X G z_enumerate,Zyp X G z_ValueError,Zyp X G z_sum,⟨_,Zz6 X G Zs6⟩,⟨_,Zz6 X G Zr7⟩,⟨_,Zz6 X G Zr2⟩,⟨_,Zz6 X G Zr1⟩,⟨_,Zz6 X G Zqp⟩,⟨_,Zz6 X G Zte⟩,⟨_,Zz6 X G Zr6⟩,⟨_,Zz6 X G Zrm⟩,⟨_,Zz6 X G Zsl⟩,⟨_,Zz6 X G Zsz⟩,⟨_,Zz6 X G Zrj⟩,⟨_,Zz6 X G Zsy⟩,⟨_,Zz6 X G Zs5⟩,⟨_,Zz6 X G Ztj⟩,⟨_,Zz6 X G Zs4⟩,⟨_,Zz6 X G Zti⟩,⟨_,Zz6 X G Zrl⟩,⟨_,Zz6 X G Zs0⟩,⟨_,Zz6 X G Zr0⟩,⟨_,Zz6 X G Zsk⟩,⟨_,Zz6 X G Zrz⟩,⟨_,Zz6 X G Zrt⟩⟩;refine⟨Zy1 "law" "law" (Dl Tv) (C8 Tv) (Ar Tv) .none v65 e65 p65 n65 g65 t65,ct,Pt,λs v=>.of_eq rfl,ki a41 l41 tq tl tv,tp,λbase _ _ hB=>?_⟩;have D:Dm l.prog w base K mg:=⟨_,X,G⟩;have tb:=ki a41 l41 tq tl tv;have tc:=jo tl tv tw;have R:Rws w K mg:=⟨Ra,[("ware",Rt1,R1),("coming",Rt2,R2),("part",Rt3,R3),("want",Rt4,R4)],Zz6 X G r_g,⟨⟨Re,r_l⟩,by show (["ware", "coming", "part", "want"]:List Str).Nodup;decide +kernel,r_n⟩,⟨R1,[("name",Rt1_0),("number",Rt1_1),("number",Rt1_2),("number",Rt1_3),("number",Rt1_4)],rfl,⟨Rn1,r_1⟩,rfl⟩,⟨R2,[("name",Rt2_0),("number",Rt2_1),("number",Rt2_2)],rfl,⟨Rn2,r_2⟩,rfl⟩,⟨R3,[("name",Rt3_0),("name",Rt3_1),("number",Rt3_2)],rfl,⟨Rn3,r_3⟩,rfl⟩,⟨R4,[("name",Rt4_0),("number",Rt4_1),("number",Rt4_2)],rfl,⟨Rn4,r_4⟩,rfl⟩,rfl⟩;have Fo:Fms w K mg:=⟨Fa,[("want",Ft1,F1),("drop",Ft2,F2),("plan",Ft3,F3),("late",Ft4,F4),("most",Ft5,F5),("stock",Ft6,F6),("serves",Ft7,F7),("buy",Ft8,F8)],Zz6 X G o_g,⟨⟨Fe,o_l⟩,by show (["want", "drop", "plan", "late", "most", "stock", "serves", "buy"]:List Str).Nodup;decide +kernel,o_n⟩,⟨F1,[("name",Ft1_0),("day",Ft1_1),("number",Ft1_2)],rfl,⟨Fn1,o_1⟩,rfl⟩,⟨F2,[("place",Ft2_0)],rfl,⟨Fn2,o_2⟩,rfl⟩,⟨F3,[],rfl,⟨Fn3,o_3⟩,rfl⟩,rfl⟩;have Dd:Dsk K mg ⟨Dc,f4,f55⟩:=⟨⟨d_1,d_2,d_3,d_4⟩,d_7,⟨A55,I55,k55⟩,⟨d_5,A4,I4,d_6⟩,Zz6 X G d_g⟩;have C:Exc K mg ⟨Zu2,Zu5,Zu4,Ztw,Zu3,Zu1,Zr8,Zrn⟩:=⟨Zz6 X G q_NeedError,Zz6 X G q_NoText,Zz6 X G q_NoShop,Zz6 X G q_Ring,Zz6 X G q_NoName,Zz6 X G q_NoDay,Zz6 X G q_NoBuy,Zz6 X G q_NoPlan,Zqx,Zqw,Ztq,Ztd,Ztc,Ztb,Zsj,Zta,Zsx,Zry,Zs9,Ztu,Zq0,Zpz,Zth,Zsn,Zsi,Zsh,Zrs,Zsg,Zs3,Zri,Zrr,Ztl,Zs2,Zqv,Ztp,Zt9,Zt8,Zt7,Zsf,Zt6,Zsw,Zrx,Zs8,Ztt,Zro,Zqu,Zto,Zt5,Zt4,Zt3,Zse,Zt2,Zsv,Zrw,Zs7,Zts,Zqz,Zq8,Ztk,Zt0,Zsu,Zst,Zs1,Zss,Zsd,Zrq,Zrv,Ztn⟩;have Zqa:=Bn D q1 (Vs · T) λ_ _ _ _ _ _=>AH λ_=>rfl;have Zua:=Bn D q2 (Xt · T C) λ_ _ _ _ _ _=>AX λ_ _=>rfl;have Zq9:=Bn D q3 (Vr · T C Zua) λ_ _ _ _ _ _=>AX λ_ _=>rfl;have F4:=Rz (st:=E8) L4 c4 k4;have Zrf:=hasM (P:=l.prog) (w:=w) (base:=base) F4 (Sz F4 T Dd C) λ_ _ _ _ _ _=>AH λ_=>rfl;have Ztv:=Bn D q5 (Zr · T C) λ_ _ _ _ _ _=>AH λ_=>rfl;have Zqi:=Bn D q6 (Vo · T C Ztv) λ_ _ _ _ _ _=>AH λ_=>rfl;have Zqj:=Bn D q7 (Vt · T C) λ_ _ _ _ _ _=>AH λ_=>rfl;have Zr5:=Oy D q8 (Rh · T C Zqj) λ_ _ _ _ _ _=>AH λ_=>rfl;have Zsq:=Oy D q9 (So · T C Zqi Zr5) λ_ _ _ _ _ _=>AX λ_ _=>rfl;have Zq5:=Oy D q10 (Xn · T R C Zsq) λ_ _ _ _ _ _=>AH λ_=>rfl;have Zqo:=Bn D q11 (Zl · T C) λ_ _ _ _ _ _=>T5 λ_ _ _=>rfl;have Zrb:=Bn D q12 (P6 · T C Zqo) λ_ _ _ _ _ _=>AH λ_=>rfl;have Ztz:=Bn D q13 (Xo · T C) λ_ _ _ _ _ _=>AH λ_=>rfl;have Zu9:=Bn D q14 (Xx · T C) λ_ _ _ _ _ _=>T5 λ_ _ _=>rfl;have Zq6:=Bn D q15 (Xw · T C) λ_ _ _ _ _ _=>AH λ_=>rfl;have Zu6:=Bn D q16 (Zs · T C Zq6) λ_ _ _ _ _ _=>AX λ_ _=>rfl;have Zty:=Bn D q17 (Su · T C Zu6) λ_ _ _ _ _ _=>T5 λ_ _ _=>rfl;have Zpw:=Bn D q18 (Zo · T C Zu9 Zu6 Zty Ztv) λ_ _ _ _ _ _=>AH λ_=>rfl;have Zql:=Bn D q19 (Vx · T C Zpw Zu9) λ_ _ _ _ _ _=>AH λ_=>rfl;have Zpy:=Bn D q20 (Zq · T C Zu6 Ztv Zu9) λ_ _ _ _ _ _=>AH λ_=>rfl;have Zsr:=Bn D q21 (Sy · T C) λ_ _ _ _ _ _=>AH λ_=>rfl;have Zqm:=Bn D q22 (Vy · T C Zpy Zu9 Zsr) λ_ _ _ _ _ _=>AH λ_=>rfl;have Zqt:=Bn D q23 (Sv · T C Zu6 Zty Zu9) λ_ _ _ _ _ _=>AH λ_=>rfl;have Zre:=Bn D q24 (Pb · T C Zqt Zu9) λ_ _ _ _ _ _=>AH λ_=>rfl;have Zpx:=Bn D q25 (Zn · T C Zu9 Zu6 Zty Ztv Zqm Zre) λ_ _ _ _ _ _=>AH λ_=>rfl;have Zqk:=Bn D q26 (Vw · T C Zpx Zu9 Zsr) λ_ _ _ _ _ _=>AH λ_=>rfl;have Ztx:=Bn D q27 (Sq · T C) λ_ _ _ _ _ _=>AH λ_=>rfl;have Zrc:=Bn D q28 (P9 · T C Ztx) λ_ _ _ _ _ _=>AH λ_=>rfl;have Zpv:=Bn D q29 (Zp · T C Zql Zqk Zu9 Ztz Zrc) λ_ _ _ _ _ _=>AH λ_=>rfl;have Zqd:=Oy D q30 (Vn · T C Zq5 Zrb Ztz Zpv) λ_ _ _ _ _ _=>AH λ_=>rfl;have Zrd:=Bn D q31 (P8 · T C) λ_ _ _ _ _ _=>AH λ_=>rfl;have Zrh:=Bn D q32 (Nq · T C Ztx Zrd) λ_ _ _ _ _ _=>AH λ_=>rfl;have Zpn:=Bn D q33 (wg · T C Zrh) λ_ _ _ _ _ _=>AH λ_=>rfl;have Zu0:=Oy D q34 (Rj · T C Zpn) λ_ _ _ _ _ _=>AH λ_=>rfl;have Zrg:=Oy D q35 (No · T C Zqd Zu0) λ_ _ _ _ _ _=>AH λ_=>rfl;have Zt1:=Oy D q36 (Zk · T C) λ_ _ _ _ _ _=>AX λ_ _=>rfl;have Zqq:=Oy D q37 (Sx · T Fo C Zt1) λ_ _ _ _ _ _=>T5 λ_ _ _=>rfl;have Zqc:=Bn D q38 (Vk · T C Zu0 Zt1) λ_ _ _ _ _ _=>A0l λ_ _ _ _=>rfl;have Zr9:=Bn D q39 (P7 · T C) λ_ _ _ _ _ _=>AX λ_ _=>rfl;have Zpu:=Bn D q40 (il · T C Zu0 Ztz Ztx) λ_ _ _ _ _ _=>AH λ_=>rfl;have F41:=Rz (st:=Lw) l41 c41 k41;have Zsm:=A1s D a41 F41 (ik F41 T C Zpu Ztz ⟨λ_ _ _ _ e=>Yr tb a41 e,tc⟩ hB) λ_ _ _ _ _ _=>AH λ_=>rfl;have Zq4:=Bn D q42 (Xp · T C) λ_ _ _ _ _ _=>AX λ_ _=>rfl;have Zqs:=Bn D q43 (Sr · T C Zq4) λ_ _ _ _ _ _=>A0l λ_ _ _ _=>rfl;have Zsp:=Bn D q44 (Sw · T C) λ_ _ _ _ _ _=>AH λ_=>rfl;have Zqh:=Bn D q45 (Vl · T C Zsp) λ_ _ _ _ _ _=>AX λ_ _=>rfl;have Zqg:=Bn D q46 (Vv · T C) λ_ _ _ _ _ _=>AX λ_ _=>rfl;have Zqf:=Bn D q47 (Vp · T C Zqh Zqg) λ_ _ _ _ _ _=>T5 λ_ _ _=>rfl;have Zra:=Bn D q48 (Pa · T C Zsp) λ_ _ _ _ _ _=>AX λ_ _=>rfl;have Zr4:=Bn D q49 (Ri · T C) λ_ _ _ _ _ _=>AX λ_ _=>rfl;have Zrk:=Bn D q50 (Zm · T C Zsm Zt1 Zqs Zqf Zra Zr4) λ_ _ _ _ _ _=>AH λ_=>rfl;have Zrp:=Bn D q51 (Rg · T C) λ_ _ _ _ _ _=>AH λ_=>rfl;have Zqe:=Bn D q52 (Vu · T C) λ_ _ _ _ _ _=>AH λ_=>rfl;have Zqr:=Bn D q53 (Sn · T C Zrk Zrp Zsm Zqe) λ_ _ _ _ _ _=>AH λ_=>rfl;have Zpt:=Bn D q54 (im · T C Zqr) λ_ _ _ _ _ _=>T5 λ_ _ _=>rfl;have F55:=Rz (st:=E4) L55 c55 k55;have Ztr:=A1r (P:=l.prog) (w:=w) (base:=base) F55 (Vz F55 T Fo Dd C Zrg Zsq Zqq Zqc Zr9 Zpt) λ_ _ _ _ _ _=>AX λ_ _=>rfl;have Zu8:=Bn D q56 (Xs · T Dd C Ztr) λ_ _ _ _ _ _=>AX λ_ _=>rfl;have Zq3:=Bn D q57 (Xq · T C Zua) λ_ _ _ _ _ _=>T5 λ_ _ _=>rfl;have Zru:=Bn D q58 (Xr · T C Zq3 Zua) λ_ _ _ _ _ _=>AX λ_ _=>rfl;have Zsb:=Bn D q59 (Vm · T C) λ_ _ _ _ _ _=>AX λ_ _=>rfl;have Zso:=Bn D q60 (Sm · T C Zsb) λ_ _ _ _ _ _=>AH λ_=>rfl;have Zqb:=Bn D q61 (Vq · T C Zua) λ_ _ _ _ _ _=>T5 λ_ _ _=>rfl;have Zq2:=Bn D q62 (Xv · T C Zua Zqb Zu8 Zru Zso) λ_ _ _ _ _ _=>A0l λ_ _ _ _=>rfl;have Ztm:=Bn D q63 (Np · T C Zrk Zsm) λ_ _ _ _ _ _=>AH λ_=>rfl;have Zq1:=Bn D q64 (Xu · T Dd C Zu8 Ztr Ztm) λ_ _ _ _ _ _=>T5 λ_ _ _=>rfl;have F65:=Rz (st:=Tv) l65 c65 k65;exact A0j F65 T Dd C Zqa Zq9 Zrf Zu8 Zru Zso Zua Zq2 Ztr Ztm Zq1
theorem walk{l:PySem.W.OpenLaw}{q:Program}{d dw:DefRec}{K:Params->Zzy}(hn:l.most=some 63)(hdf:d.params.defaults=[])
  (hY:∀(w:World) (h:Heap),YP w h->(K w.params).In h) (hw:(PyProof.Rows.recsOf q).find? (λe=>e.name == ("worked" : Str))=some dw)
  (F:∀(w:World) (mg:Str->Option Value) (fa:Addr) (h:Heap),(K w.params).In h->h.Ns mainGlobals mg->mg d.name=some (.ref fa) ->
   ∃(fd:FuncData) (ct Pt:Addr),(∀(s:Shared) (u:Value),BindsTo s fd ⟨[u],[]⟩ [("_law_script",u)])/\PySem.W.tabIn (K w.params) "worked" = some (ct,Pt)/\(K w.params).lookup Pt=none/\∀base:Heap,(K w.params).In base->base.Ns mainGlobals mg->Lf mg base->Ax l.prog w (K w.params) mg base CX0 14 fa fd ["_law_script"] (V1 (K w.params) Pt)) :
  PySem.W.WalkO q loose XP YP l.row.toRowW d [] (λf vs=>PySem.call f vs) :=
 L2.k9 (n:=63) (k:=14) (x := "_law_script") (wk := "worked") (sp:=λw Pt=>V1 (K w.params) Pt) hn (by decide) hdf ⟨rfl,by decide,by decide⟩ hY hw F (λ_ _ a Pt ns hl ht hS=>⟨a,ns,rfl,hS,hl,.inl ht,λ_=>rfl⟩)
end K71
namespace PySem.W.Fast
def tw10037536185691352296:=Type
def tw10041235660005852659:=Type
def tw10182737026948911747:=Type
def tw10193541079021708975:=Type
def tw10223549520787272250:=Type
def tw1024381761551345134:=Type
def tw10280625778268566897:=Type
def tw10284550139430198928:=Type
def tw10329328535323489955:=Type
def tw10370140826114504384:=Type
def tw10383671757680452603:=Type
def tw10386497986380052072:=Type
def tw10395042116553017532:=Type
def tw10422195283744832950:=Type
def tw10422806176190047408:=Type
def tw10546514982668186045:=Type
def tw10560960526903603850:=Type
def tw10593873242974335497:=Type
def tw10598703708387161744:=Type
def tw10625433076557450590:=Type
def tw10637445411380533148:=Type
def tw10662558377158472643:=Type
def tw10701545751859324349:=Type
def tw10733604960669360336:=Type
def tw10765390020733550212:=Type
def tw10784220134427149141:=Type
def tw10801285760418894940:=Type
def tw10833311256868892266:=Type
def tw10841378781789798133:=Type
def tw10921325154020428603:=Type
def tw1092866624242526535:=Type
def tw10930747218333564319:=Type
def tw10970376398516150961:=Type
def tw11005649105516860980:=Type
def tw11035818350190334854:=Type
def tw11072651354261540741:=Type
def tw11108128285144660028:=Type
def tw11118186289088141872:=Type
def tw11121037164744845477:=Type
def tw11125565142401608008:=Type
def tw11209438213984746948:=Type
def tw11224391997852369317:=Type
def tw11225227819765764915:=Type
def tw11230716598677631108:=Type
def tw11247074955581569201:=Type
def tw11284716874175442387:=Type
def tw11292249658238122896:=Type
def tw11318203938392602203:=Type
def tw11382542444507355096:=Type
def tw1146460787962958227:=Type
def tw11533871104355085645:=Type
def tw11686858996712574786:=Type
def tw11729647820488731204:=Type
def tw1176572663659184767:=Type
def tw11853653363050139487:=Type
def tw11876608552964485190:=Type
def tw11953728700943669279:=Type
def tw11977962157679170643:=Type
def tw11998652811344686400:=Type
def tw12020388761424262053:=Type
def tw1205519668953205154:=Type
def tw12055442612011595267:=Type
def tw1206680459217019727:=Type
def tw12153737996200872385:=Type
def tw12187584032291450867:=Type
def tw12254251521224127380:=Type
def tw12261472792805088255:=Type
def tw12287866621028159163:=Type
def tw12458359029806326673:=Type
def tw12554766407196010753:=Type
def tw12602746976504507854:=Type
def tw12605186640796790436:=Type
def tw12625481351910550069:=Type
def tw12627507735178659570:=Type
def tw12736649753561847913:=Type
def tw12764865438196704902:=Type
def tw1277370689145972951:=Type
def tw12791411598217414228:=Type
def tw12813777788481207368:=Type
def tw12835289276392999576:=Type
def tw12903553043055654116:=Type
def tw12947959232414722443:=Type
def tw12949721997411826519:=Type
def tw12958179408038963682:=Type
def tw12962103288097048695:=Type
def tw12992898686014889389:=Type
def tw13011357170287569847:=Type
def tw13126156397293849494:=Type
def tw13182687456782354801:=Type
def tw13229629477074001151:=Type
def tw13234841277101546946:=Type
def tw13395589407804326195:=Type
def tw13415540596058641733:=Type
def tw13429282401245286433:=Type
def tw1345990828295952882:=Type
def tw13513034969590618501:=Type
def tw13525077149291014039:=Type
def tw13531111202827654881:=Type
def tw13549594223077837044:=Type
def tw13569443745386346682:=Type
def tw13583476701214125584:=Type
def tw13598095301128243411:=Type
def tw13613206914094468038:=Type
def tw13640271584385611786:=Type
def tw13644728019864122750:=Type
def tw13653892712482041997:=Type
def tw13659752442266427897:=Type
def tw13680005368743364843:=Type
def tw13706423416880959566:=Type
def tw13707186174179788132:=Type
def tw13744682166342445141:=Type
def tw13770651221174763132:=Type
def tw13848613526548989349:=Type
def tw13911312045811565872:=Type
def tw13938836023291764042:=Type
def tw14084915189983613633:=Type
def tw14135274555865849940:=Type
def tw14164644949466684479:=Type
def tw14186111523251199458:=Type
def tw14195594628512649455:=Type
def tw14226695560103501243:=Type
def tw14353488207333259415:=Type
def tw14354592278587893713:=Type
def tw14422790877512179797:=Type
def tw14430755568851076063:=Type
def tw14443314456090726327:=Type
def tw14462685345628074097:=Type
def tw14489122052081591642:=Type
def tw14489126276918510101:=Type
def tw14522493630625800433:=Type
def tw1465513125539125591:=Type
def tw14659161441500737810:=Type
def tw14661453385607623420:=Type
def tw14665697382468873237:=Type
def tw14676337012758736536:=Type
def tw14686944236517414522:=Type
def tw1470924245578365850:=Type
def tw14769776236117117934:=Type
def tw14787314435201236391:=Type
def tw14855338088396822640:=Type
def tw14875755571536695016:=Type
def tw14877818076703513719:=Type
def tw14877991260268841888:=Type
def tw14940275781883776373:=Type
def tw14943173088905595447:=Type
def tw14959342045103686174:=Type
def tw14968457810957015022:=Type
def tw15007074505411079043:=Type
def tw15017044727569785821:=Type
def tw15029224410701010326:=Type
def tw15044032138687374549:=Type
def tw15076043657771678556:=Type
def tw15096092654382679403:=Type
def tw15116070142340311501:=Type
def tw15119393550535505819:=Type
def tw15129647680440140238:=Type
def tw15184486674458554813:=Type
def tw1521379924275172938:=Type
def tw15224802998299151512:=Type
def tw15276900611129018424:=Type
def tw15292550372582301037:=Type
def tw15343371021389945541:=Type
def tw15370265161899205235:=Type
def tw15393151275241640844:=Type
def tw15433970450109490309:=Type
def tw1543993119252579034:=Type
def tw15531372662078495218:=Type
def tw15643721677715991790:=Type
def tw15749497340363695077:=Type
def tw15765063458933880618:=Type
def tw1580275395258820908:=Type
def tw15808647132168309219:=Type
def tw15830001084864742226:=Type
def tw16003975922893450877:=Type
def tw1605809698032165279:=Type
def tw16079229080321213287:=Type
def tw16103424282981300493:=Type
def tw16126579201828874460:=Type
def tw16170540869751110781:=Type
def tw16204153259901483887:=Type
def tw16224960566477492869:=Type
def tw16328673264492814483:=Type
def tw16389740274780398374:=Type
def tw16528493614430135339:=Type
def tw1658430487274608641:=Type
def tw16593722928858928490:=Type
def tw16601560036642426803:=Type
def tw16612357651169994880:=Type
def tw16612778397241056430:=Type
def tw16648164216725599729:=Type
def tw16652820598584436667:=Type
def tw16706437535532783423:=Type
def tw16754794661318368102:=Type
def tw16804084221232587619:=Type
def tw16873485541883821481:=Type
def tw16898048397034380917:=Type
def tw16946160052016634110:=Type
def tw16984106169197132829:=Type
def tw16985744143491799042:=Type
def tw16996183256451729639:=Type
def tw17007064551283285326:=Type
def tw17074454213433121741:=Type
def tw17087356076786149222:=Type
def tw17187303215602915401:=Type
def tw17252734238100359670:=Type
def tw17261992653783802079:=Type
def tw1730719436926346053:=Type
def tw17310150825738539855:=Type
def tw17390258570177188402:=Type
def tw17458225253504056043:=Type
def tw17536406704424984045:=Type
def tw1757492841568221557:=Type
def tw1762402036771349495:=Type
def tw17626409163451738254:=Type
def tw17696173377610839270:=Type
def tw17759695340342991700:=Type
def tw17793670405023605323:=Type
def tw17809972436265359207:=Type
def tw17843022218206429802:=Type
def tw17844190593499852822:=Type
def tw17895682270198373267:=Type
def tw17914946451647400077:=Type
def tw17945302777368471832:=Type
def tw17952919991865979587:=Type
def tw17966413415661088713:=Type
def tw17986498240112017042:=Type
def tw17988492309204503824:=Type
def tw17994544566552857410:=Type
def tw18055242459946022015:=Type
def tw18066835184414265974:=Type
def tw18169442690077507181:=Type
def tw18191742565831022774:=Type
def tw18194323211338551991:=Type
def tw18273574100327521490:=Type
def tw18277653045300454217:=Type
def tw18326658204327059713:=Type
def tw18429699260094388078:=Type
def tw18432688988854621188:=Type
def tw1859001680961095689:=Type
def tw1896576340505622724:=Type
def tw1940659124864160206:=Type
def tw1963646800355685134:=Type
def tw1993098015314470148:=Type
def tw2039641247578467710:=Type
def tw2106560041209994243:=Type
def tw210691163418778009:=Type
def tw2137626639039149639:=Type
def tw2147751471556825640:=Type
def tw2171449708185687115:=Type
def tw2178882607389992781:=Type
def tw2208541013163982696:=Type
def tw2274880416139903584:=Type
def tw2284978778343662176:=Type
def tw2292670839805727027:=Type
def tw2321438838560984384:=Type
def tw2359798022369400530:=Type
def tw2453751587362931210:=Type
def tw2475614826136542940:=Type
def tw2481096881403110787:=Type
def tw2486426422025917686:=Type
def tw2498064587179440256:=Type
def tw2614818109200074018:=Type
def tw2864499050707192592:=Type
def tw2914109932614809488:=Type
def tw2917607124341054227:=Type
def tw2934799433682316144:=Type
def tw2950227454559425025:=Type
def tw2980968865129573689:=Type
def tw3001719059007796602:=Type
def tw3053634548052582608:=Type
def tw3068926930286792350:=Type
def tw3087165398204277513:=Type
def tw326604100284944778:=Type
def tw3308943240914032353:=Type
def tw3418398506366696975:=Type
def tw342187775102376493:=Type
def tw345244781084554196:=Type
def tw3694913676134640036:=Type
def tw3700357644602723990:=Type
def tw3741874935416501334:=Type
def tw381753113416363726:=Type
def tw3846641442581173182:=Type
def tw3853197250548245333:=Type
def tw3856077764997264694:=Type
def tw3862455286135710759:=Type
def tw3909332830728945199:=Type
def tw3970301554078204747:=Type
def tw398499979498974467:=Type
def tw4006346365204778661:=Type
def tw4044694959986913079:=Type
def tw4070330041119765637:=Type
def tw4122071711366896877:=Type
def tw413235809643255980:=Type
def tw4138520334917707285:=Type
def tw423067373332481347:=Type
def tw4302504818353419914:=Type
def tw4310750120676082536:=Type
def tw4333554034791903733:=Type
def tw4430482009117645000:=Type
def tw4441878428662319622:=Type
def tw4457929855526385726:=Type
def tw4524558847559532355:=Type
def tw4535624416082993222:=Type
def tw4571692680313529305:=Type
def tw4631384998508794946:=Type
def tw4687214460468393837:=Type
def tw4690181199562953376:=Type
def tw4723980813635182822:=Type
def tw474009444900040974:=Type
def tw4811459499883911302:=Type
def tw4848174140904521714:=Type
def tw4863019631131526924:=Type
def tw4915372159804657743:=Type
def tw5008038103992543183:=Type
def tw5029540820022355860:=Type
def tw5090373047746551086:=Type
def tw5189227267367336458:=Type
def tw5201651411881425308:=Type
def tw5231885666819010201:=Type
def tw5279083856956077933:=Type
def tw5285723911845207436:=Type
def tw5339993022304500723:=Type
def tw5360569954420574480:=Type
def tw5378390005858101239:=Type
def tw5424772729960277913:=Type
def tw5431926592428223335:=Type
def tw5438997221810020851:=Type
def tw5446352721027361792:=Type
def tw5464636873927155013:=Type
def tw5475493501722088829:=Type
def tw550295278037696031:=Type
def tw5517530651637830008:=Type
def tw5553090171768517568:=Type
def tw5556586281056502814:=Type
def tw5608224635854483802:=Type
def tw5616593430375225367:=Type
def tw5626382469941981123:=Type
def tw5639039043034436272:=Type
def tw5650815247514562409:=Type
def tw5756479127636171092:=Type
def tw5799243716963579415:=Type
def tw5882199661235758107:=Type
def tw5935060436839458320:=Type
def tw6034300787345244771:=Type
def tw6049813409543789443:=Type
def tw6092199596296737408:=Type
def tw6122667469308579340:=Type
def tw6134510466243170678:=Type
def tw6144711773415050420:=Type
def tw6155457113096311914:=Type
def tw6156340223577712498:=Type
def tw6172232923070771168:=Type
def tw6196736491282477648:=Type
def tw6252334044470569100:=Type
def tw6347598019748877242:=Type
def tw6400309703427744989:=Type
def tw6426085174857957149:=Type
def tw6456964225236847011:=Type
def tw6484285271738431919:=Type
def tw6496239904626294381:=Type
def tw6513969881054038079:=Type
def tw6542371822923711020:=Type
def tw6571107167443820855:=Type
def tw660314685251869914:=Type
def tw6612265005149466051:=Type
def tw661591646635493596:=Type
def tw6631983960144155821:=Type
def tw6635647125266508368:=Type
def tw6639099617630348762:=Type
def tw6671171621436327224:=Type
def tw6676619088098742970:=Type
def tw6761450935098815986:=Type
def tw6793165732348787834:=Type
def tw6809677964908088280:=Type
def tw681094894398917742:=Type
def tw6864683313313851149:=Type
def tw6890062360204995602:=Type
def tw7039306659057844418:=Type
def tw7063361381591828331:=Type
def tw7169366134456406555:=Type
def tw7202376146011737821:=Type
def tw7235595037406780835:=Type
def tw7263426479168905443:=Type
def tw7312753953229717150:=Type
def tw7374666326314655230:=Type
def tw7380178662230148128:=Type
def tw7402666840052253234:=Type
def tw7411841936632177246:=Type
def tw7414951979896262324:=Type
def tw7487817350102634074:=Type
def tw7538427875209942495:=Type
def tw7576152060215102748:=Type
def tw7582824438770597184:=Type
def tw7585156446391220132:=Type
def tw7610580860192918793:=Type
def tw7628515949389241484:=Type
def tw7646239819728913814:=Type
def tw7716829527514572638:=Type
def tw7767309929212411459:=Type
def tw7798195048443832830:=Type
def tw7800689079025646578:=Type
def tw7806193062989240101:=Type
def tw7856320801414783352:=Type
def tw7910928389325971691:=Type
def tw7979607997323779703:=Type
def tw7986109156801172917:=Type
def tw7999372811499845168:=Type
def tw8017964348670365353:=Type
def tw8049036982933759522:=Type
def tw8066321150104851465:=Type
def tw8101827388141037849:=Type
def tw8106553373955346241:=Type
def tw8160266577280897423:=Type
def tw8172802276349479506:=Type
def tw818973315154762188:=Type
def tw819583739681326052:=Type
def tw8200892237040342287:=Type
def tw8266800316824969612:=Type
def tw8316241596211745058:=Type
def tw8363066493129847904:=Type
def tw8391991404076541678:=Type
def tw8401479454539890274:=Type
def tw8408290219892558254:=Type
def tw8416692550043400298:=Type
def tw8421227207901821902:=Type
def tw8429013114267160607:=Type
def tw8436199280206885080:=Type
def tw8438969522728782626:=Type
def tw8439200750594542646:=Type
def tw8478377728298842479:=Type
def tw8530578914138103015:=Type
def tw853547702058577618:=Type
def tw8592835587863670248:=Type
def tw8617133609052891696:=Type
def tw8651748283790854673:=Type
def tw8660042208266015549:=Type
def tw8717646615769448508:=Type
def tw8725065156623007934:=Type
def tw8741037483539817516:=Type
def tw8812111061734036306:=Type
def tw8877978528052551648:=Type
def tw8922491741417733240:=Type
def tw8967434863308758235:=Type
def tw8969958190253370707:=Type
def tw8993577199308420821:=Type
def tw904150546895462645:=Type
def tw9058435489873801020:=Type
def tw9102971593749570100:=Type
def tw915140499108659119:=Type
def tw9160581764270983476:=Type
def tw9237061624517758754:=Type
def tw9240543872600480890:=Type
def tw9263146027931264616:=Type
def tw9275951827456297331:=Type
def tw9294692487932648892:=Type
def tw9297372914870452533:=Type
def tw930964271193239213:=Type
def tw93120248464702181:=Type
def tw9409783012049129794:=Type
def tw9507633319951886580:=Type
def tw9549146511341389920:=Type
def tw9577216934394899105:=Type
def tw9624517390789535087:=Type
def tw9629150481697067611:=Type
def tw9644122417117711797:=Type
def tw9666728455010007450:=Type
def tw9703591010799246209:=Type
def tw9778403327255313347:=Type
def tw9880356804793467428:=Type
def tw9897340677714324791:=Type
def tw9904001048944205289:=Type
def tw9917103445637219450:=Type
def tw9958264525447432981:=Type
def tw9968710300133575002:=Type
def tw9999073326218554505:=Type
end PySem.W.Fast
open PySem PySem.W PyProof.Rows
set_option maxRecDepth 100000 in
set_option maxHeartbeats 0 in
theorem PySem.Challenge.cw_needplan_k71_desk_rows_holds : PySem.Challenge.rw_needplan_k71_desk_rows.Holds := by
 w_on;o_law;k_head;(case hw=>w_witness2);k_fill;refine K71.walk (l:=PySem.Challenge.rw_needplan_k71_desk_rows) rfl rfl (λw h Y=>PySem.W.km_in_of Y) rfl ?F
 case F =>
  intro w mg fa h KX G hmg;refine' K71.all_mk KX G hmg ?q1 ?q2 ?q3 ?A4 ?I4 ?L4 ?c4 ?k4 ?q5 ?q6 ?q7 ?q8 ?q9 ?q10 ?q11 ?q12 ?q13 ?q14 ?q15 ?q16 ?q17 ?q18 ?q19 ?q20 ?q21 ?q22 ?q23 ?q24 ?q25 ?q26 ?q27 ?q28 ?q29 ?q30 ?q31 ?q32 ?q33 ?q34 ?q35 ?q36 ?q37 ?q38 ?q39 ?q40 ?a41 ?l41 ?c41 ?k41 ?q42 ?q43 ?q44 ?q45 ?q46 ?q47 ?q48 ?q49 ?q50 ?q51 ?q52 ?q53 ?q54 ?A55 ?I55 ?L55 ?c55 ?k55 ?q56 ?q57 ?q58 ?q59 ?q60 ?q61 ?q62 ?q63 ?q64 ?a65 ?l65 ?c65 ?k65 ?z_len ?z_isinstance ?z_str ?z_all ?z_bool ?z_int ?z_tuple ?z_range ?z_list ?z_max ?z_sorted ?z_zip ?z_min ?z_enumerate ?z_ValueError ?z_sum ?Zs6 ?Zr7 ?Zr2 ?Zr1 ?Zqp ?Zte ?Zr6 ?Zrm ?Zsl ?Zsz ?Zrj ?Zsy ?Zs5 ?Ztj ?Zs4 ?Zti ?Zrl ?Zs0 ?Zr0 ?Zsk ?Zrz ?Zrt ?r_g ?r_l ?r_n ?r_1 ?r_2 ?r_3 ?r_4 ?o_g ?o_l ?o_n ?o_1 ?o_2 ?o_3 ?d_g ?d_1 ?d_2 ?d_3 ?d_4 ?d_5 ?d_6 ?d_7 ?q_NeedError ?q_NoText ?q_NoShop ?q_Ring ?q_NoName ?q_NoDay ?q_NoBuy ?q_NoPlan ?Zqx ?Zqw ?Ztq ?Ztd ?Ztc ?Ztb ?Zsj ?Zta ?Zsx ?Zry ?Zs9 ?Ztu ?Zq0 ?Zpz ?Zth ?Zsn ?Zsi ?Zsh ?Zrs ?Zsg ?Zs3 ?Zri ?Zrr ?Ztl ?Zs2 ?Zqv ?Ztp ?Zt9 ?Zt8 ?Zt7 ?Zsf ?Zt6 ?Zsw ?Zrx ?Zs8 ?Ztt ?Zro ?Zqu ?Zto ?Zt5 ?Zt4 ?Zt3 ?Zse ?Zt2 ?Zsv ?Zrw ?Zs7 ?Zts ?Zqz ?Zq8 ?Ztk ?Zt0 ?Zsu ?Zst ?Zs1 ?Zss ?Zsd ?Zrq ?Zrv ?Ztn ?tq ?tl ?tv ?tw ?tp
  (case q_NeedError | q_NoText | q_NoShop | q_Ring | q_NoName | q_NoDay | q_NoBuy | q_NoPlan=>k_is)
  (case q1 | q2 | q3 | q5 | q6 | q7 | q8 | q9 | q10 | q11 | q12 | q13 | q14 | q15 | q16 | q17 | q18 | q19 | q20 | q21 | q22 | q23 | q24 | q25 | q26 | q27 | q28 | q29 | q30 | q31 | q32 | q33 | q34 | q35 | q36 | q37 | q38 | q39 | q40 | q42 | q43 | q44 | q45 | q46 | q47 | q48 | q49 | q50 | q51 | q52 | q53 | q54 | q56 | q57 | q58 | q59 | q60 | q61 | q62 | q63 | q64=>apply K71.q_mk;(case a=>delta K71.aI;k_is);(case b=>delta K71.lI;k_is);(case e=>delta K71.cI;k_is);delta K71.kI;k_is)
  (case a41 | a65=>delta K71.aI;k_is)
  (case l41 | l65=>delta K71.lI;k_is)
  (case d_g | d_1 | d_2 | d_3 | d_4 | d_5 | d_6 | d_7=>k_is)
  (case A4 | A55=>k_is)
  (case I4 | I55=>k_is)
  (case L4 | L55=>k_is)
  (case c4 | c41 | c55 | c65=>delta K71.cI;k_is)
  (case k4 | k41 | k55 | k65=>delta K71.kI;k_is)
  (case z_len | z_isinstance | z_str | z_all | z_bool | z_int | z_tuple | z_range | z_list | z_max | z_sorted | z_zip | z_min | z_enumerate | z_ValueError | z_sum=>delta K71.zI;k_is)
  (case Zs6 | Zr7 | Zr2 | Zr1 | Zqp | Zte | Zr6 | Zrm | Zsl | Zsz | Zrj | Zsy | Zs5 | Ztj | Zs4 | Zti | Zrl | Zs0 | Zr0 | Zsk | Zrz | Zrt=>k_is)
  (case r_g | r_l | r_1 | r_2 | r_3 | r_4=>k_is)
  (case o_g | o_l | o_1 | o_2 | o_3=>k_is)
  (case tq=>rfl)
  (case tl=>k_is)
  (case tv=>rfl)
  (case tw=>rfl)
  (case tp=>rfl)
  (case r_n=>rfl)
  (case o_n=>rfl)
  (case Zqw | Zpz | Zqv | Zqu | Zq8=>constructor<;>kernel_rfl)
  (case Zqx | Ztq | Ztd | Ztc | Ztb | Zsj | Zta | Zsx | Zry | Zs9 | Ztu | Zq0 | Zth | Zsn | Zsi | Zsh | Zrs | Zsg | Zs3 | Zri | Zrr | Ztl | Zs2 | Ztp | Zt9 | Zt8 | Zt7 | Zsf | Zt6 | Zsw | Zrx | Zs8 | Ztt | Zro | Zto | Zt5 | Zt4 | Zt3 | Zse | Zt2 | Zsv | Zrw | Zs7 | Zts | Zqz | Ztk | Zt0 | Zsu | Zst | Zs1 | Zss | Zsd | Zrq | Zrv | Ztn=>kernel_rfl)
