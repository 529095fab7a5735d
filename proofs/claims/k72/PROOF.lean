import PyProof.Rows.All
import Wide.All
import Wide.FinOn
import KE.KSortTup
import KE.KNestM
import KE.KIsAll
import KE.KLam
import KE.KRevIter
import KE.KMinKey
import KE.KDictList
import KE.KIntText
import KE.KxAffix
import KE.KEqDict
import KE.KTryMore
import PySem.Challenge.RW_needplan_k72_desk_refused
noncomputable section
set_option maxHeartbeats 4000000
open PySem renaming wpAny_bind → GF
open PySem renaming wpAny_pure → GG
open List renaming length_map → Zzz, getElem?_map → Zzx, mem_cons → Zzw, mem_map → Zzt, mem_cons_of_mem → Zzs, size_toArray → Zzr, mem_cons_self → Zzq, mem_of_getElem? → Zzn, getElem?_eq_getElem → Zzl, map_cons → Zzk, mem_singleton → Zzh, getD_eq_getElem?_getD → Zzg, getElem?_eq_some_iff → Zzf, mem_append_right → Zze, map_append → Zzd, length_append → Zz8, take_length → Zz7, take_add_one → Zz6, replicate → Zz4, mem_append → Zz3, not_mem_nil → Zz2, length_cons → Zyz, length_take → Zyy, all_eq_true → Zyv, append_nil → Zyt, range → Zys, map_map → Zyq, getElem?_eq_none → Zyj, mem_append_left → Zyi, toArray → Zyf, nodup_cons → Zye, lookup_cons → Zyb, map → Zy6, length_drop → Zy4, getElem?_append_right → Zy2, map_nil → Zy1, mem_map_of_mem → Zxy, map_congr_left → Zxx, getElem?_append_left → Zxw, length_singleton → Zxu, length_filter_le → Zxt, getElem?_set_ne → Zxr, length → Zxn, take_of_length_le → Zxl, filter_cons → Zxk, filter_append → Zxi, pairwise_iff_getElem → Zxh, lookup → Zxg, replicate_succ → Zx8, mem_filterMap → Zx5, mem_iff_getElem → Zww, filterMap_cons → Zwo, all_cons → Zwm, any_cons → Zwl, mem_filter → Zwk, find?_cons → Zwj, length_nil → Zwi, flatten_cons → Zwg, ext_getElem? → Zwf, cons_append → Zwa, getElem?_of_mem → Zw7, take_succ_cons → Zw4, nil_append → Zw1, getElem?_take_of_lt → Zvy, all_map → Zvw, getElem?_take → Zvv, mem_range → Zvs, take_zero → Zvq, getElem?_set_self → Zvl, getElem_mem → Zvc, mem_iff_getElem? → Zvb, forIn_cons → Zv8, range_succ → Zv6, filter_nil → Zv4, length_pos_iff → Zv1, nodup_nil → Zuy, getElem?_drop → Zut
open PySem.W renaming Frag → Zzy, mg_of → Zzc, nsIn → Zz9, mg_none_of → Zyu, findIn → Zyc, kia_one → Zy5, emptyDict → Zxz, fnOf → Zxm, keepIn → Zxj, instObj → Zxf, plainGet → Zwb, hasDictIn → Zvn, isFn → Zv9, plainGet_of → Zv3, lookIn → Zv0, codeIn → Zuz, callWith_K → Zuu
open PySem.Heap renaming get?_push_of_some → Zzv, lt_size → Zzo, get?_push_size → Zzj, get?_update_other → Zyo, size_push → Zy0, get?_update_self → Zxv, SameBut → Zxs, FlyingW → Zwp
open Nat renaming le_refl → Zzu, le_trans → Zzp, lt_of_lt_of_le → Zzb, ne_of_lt → Zz0, zero_le → Zyl, lt_of_le_of_lt → Zyh, ne_of_gt → Zxe, lt_succ_of_lt → Zxa, toDigits → Zx2, lt_irrefl → Zx0, le_add_right → Zwq, toDigits_of_lt_base → Zwn, le_of_eq → Zvz, lt_of_succ_lt_succ → Zvh, succ_ne_self → Zvd, not_lt_zero → Zv5
open Option.some renaming inj → Zzm
open Bool renaming false_ne_true → Zzi, and_eq_true → Zz1, true_and → Zyk, and_eq_true_iff → Zy3, false_and → Zx6, and_true → Zwz, and_false → Zwt, eq_iff_iff → Zw3, false_eq_true → Zvu, eq_false_iff → Zvm
open Ne renaming symm → Zza
open Int renaming le_refl → Zz5, add_zero → Zxc, le_trans → Zxb, eq_ofNat_of_zero_le → Zx9, lt_of_le_of_lt → Zx3, toNat_natCast → Zwy, mul_nonneg → Zux, emod_lt_of_pos → Zus
open PySem.NameKind renaming free → Zyx, cell → Zw6
open PySem.F renaming plainAttrs_list → Zyw, slot_list_append → Zyn, type_list_append → Zym, plainAttrs_str → Zy9, slot_str_join → Zwd, type_str_join → Zwc, args_tuple_add_2 → Zvx, entry_tuple_add → Zvo, slot_tuple_add → Zvk, slot_list_iadd → Zvg, slot_str_split → Zvf, type_str_split → Zve
open Or renaming inl → Zyr
open Array renaming getD_eq_getD_getElem? → Zyp, length_toList → Zy8, getElem?_toList → Zwe, getElem?_eq_some_iff → Zw5
open PySem.Builtin.Str renaming strSliceIndices → Zyg, strKind → Zx7, occurrences → Zvp
open Sum renaming inr → Zyd, inl → Zwu
open PyProof.Rows renaming slot_tuple_getitem → Zya, callWith_type1 → Zxp
open List.cons renaming inj → Zy7
open PySem renaming intText? → Zxq, mem_of_lookup → Zxo
open PySem.Builtin.List renaming listTooLong → Zxd
open PySem.Builtin.Builtins renaming bindParams → Zx4
open Option renaming map_some → Zx1, isSome_iff_exists → Zws, getD_some → Zw9, map_eq_some_iff → Zvj
open PySem.Builtin.Slice renaming slicePlaces → Zwx, sliceAdjust → Zw2
open PySem.W.KAf renaming app_list → Zwv
open PySem.Builtin.Tuple renaming tupleExact → Zwr
open Sum.inr renaming inj → Zwh
open PySem.Around renaming under_plainId → Zw8
open PySem.Builtin.SmallTypes renaming nextOf → Zw0, ownedTupleHandOut → Zvt, ownedTupleIsFree → Zvr
open PySem.Calls renaming callWith_builtin → Zvi, evalArgs_plain → Zv7, Constant_str → Zuw, spliced_cons → Zuv
open PySem.StrLaws renaming glued_eq_join → Zva
open PySem.Heap.SameBut renaming update → Zv2
set_option maxRecDepth 100000
set_option Elab.async false
set_option linter.all false
open PySem
variable {us its:List Value}{x y qual q:Str}{u cd oc cls:Value}{a b L p f C dx Pt:Addr}{P prog:Program}{w:World}{h h' base B:Heap}{e tg iter elt e2:Expr}{pins pl:List (Addr×Obj)}{s s':Shared}{g':Array GenState}{t' i j n m:Nat}{ch fp wr:List Addr}{N ys ps ws loose own names:List Str}{M:Model}{A:Around}{E Q:Value->Shared->Prop}{pos pos' apos cpos:Pos}{K:Zzy}{es ifs elts:List Expr}{body:List Stmt}{l:List (Str×Tok×Addr)}{R:Result->Shared->Prop}{lo hi:Option Int}{ns row:List Int}{kw:List (Str×Value)}{env:Env}{mg:Str->Option Value}{outer:List Env}{fd:FuncData}{ds:List PyData}{kindOf:Str->Option NameKind}{sc scope:Scope}{params:Arguments}{od:Option Addr}{T:String}{sl:Array (Option Value)}{items:Array Value}{XP:(Str->Option Value)->Heap->Prop}{YP:World->Heap->Prop}{cap:List Nat}{cl:List (Str×Addr)}{key:Nat->Int}{cmp:Nat->Nat->(Bool->Shared->Prop)->Shared->Prop}{kz:Str->Int}{plan:Str->List Int}{lag:Int}
theorem GA{p:Prop}[Decidable p]:decide p=true->p:=of_decide_eq_true
theorem GB{p:Prop}[h:Decidable p](x:p):decide p=true:=decide_eq_true x
theorem GC{p:Prop}[h:Decidable p](x:¬p):decide p=false:=decide_eq_false x
theorem GD{c:Prop}{h:Decidable c}(n:¬c){α:Sort u}{t e:α}:ite c t e=e:=if_neg n
theorem GE{c:Prop}{h:Decidable c}(n:c){α:Sort u}{t e:α}:ite c t e=t:=if_pos n
open Lean in
local macro_rules|`(tactic|let $p:term:=$v:term)=>do
 let rec go(n:Nat)(p:TSyntax `term):MacroM (TSyntax `rcasesPat):=match n with
  |0=>Macro.throwUnsupported
  |n+1=>do match p with
   |`(⟨$xs,*⟩)=>do
    let ys←xs.getElems.mapM λx=>do `(Lean.Parser.Tactic.rcasesPatLo|$(←go n x):rcasesPat)
    `(rcasesPat|⟨$ys,*⟩)
   |`(_)=>`(rcasesPat|_)
   |`($x:ident)=>`(rcasesPat|$x:ident)
   |_=>Macro.throwUnsupported
 `(tactic|obtain $(←go 9 p):rcasesPat:=$v)
namespace L2
open PySem PySem.Spec PyProof.Rows
abbrev Key:=Sum Int Str
def Ua:Key->Value->Bool
 |.inl k,v=>Value.isInt k v
 |.inr x,v=>Value.isStrOf x v
noncomputable def keyH(w:World):Key->Int
 |.inl k=>hashInt k
 |.inr x=>hashStr w x
theorem C4:∀{k:Key} {v:Value},Ua k v=true->(∃i t,k=Zwu i/\v=Value.int i t)\/(∃x t,k=Zyd x/\v=Value.str x t)
 |.inl i,v,h=>by
  let⟨t,e⟩:=Value.isInt_shape (k:=i) (v:=v) h;exact .inl ⟨i,t,rfl,e⟩
 |.inr x,v,h=>by
  let⟨t,e⟩:=Value.isStrOf_shape (x:=x) (v:=v) h;exact .inr ⟨x,t,rfl,e⟩
theorem ja(i:Int)(t:Tok):Ua (.inl i) (.int i t)=true:=by simp[Ua,Value.isInt]
theorem j9(x:Str)(t:Tok):Ua (.inr x) (.str x t)=true:=by simp[Ua,Value.isStrOf]
theorem A1z(a b:Int):decide ((Zwu a:Key)=Zwu b)=(a == b):=by
 by_cases e:a=b
 ·subst e;simp
 ·have h:¬ (Zwu a:Key)=Zwu b:=λq=>e (Sum.inl.inj q)
  rw[GC h];exact(beq_eq_false_iff_ne.mpr e).symm
theorem A1w(a b:Str):decide ((Zyd a:Key)=Zyd b)=decide (a=b):=by
 by_cases e:a=b
 ·subst e;simp
 ·have h:¬ (Zyd a:Key)=Zyd b:=λq=>e (Zwh q)
  rw[GC h,GC e]
theorem A1y(a:Int)(b:Str):decide ((Zwu a:Key)=Zyd b)=false:=GC (λq=>nomatch q)
theorem A1x(a:Str)(b:Int):decide ((Zyd a:Key)=Zwu b)=false:=GC (λq=>nomatch q)
def B3(prog:Program)(w:World):PySem.KeyKind prog w Key where
 is:=Ua
 hash:=keyH w
 inj:=λv a b ha hb=>by
  rcases C4 ha with ⟨i,t,rfl,rfl⟩ | ⟨x,t,rfl,rfl⟩
  ·rcases C4 hb with ⟨j,u,rfl,e⟩ | ⟨y,u,rfl,e⟩
   ·injection e with e1 _;rw[e1]
   ·exact nomatch e
  ·rcases C4 hb with ⟨j,u,rfl,e⟩ | ⟨y,u,rfl,e⟩
   ·exact nomatch e
   ·injection e with e1 _;rw[e1]
 byValue:=λk v h=>by
  rcases C4 h with ⟨i,t,rfl,rfl⟩ | ⟨x,t,rfl,rfl⟩<;>rfl
 pyHash:=λhv h=>by
  rcases C4 hv with ⟨i,t,rfl,rfl⟩ | ⟨x,t,rfl,rfl⟩
  ·exact wpAny_pyHash_int h
  ·exact wpAny_pyHash_str h
 eqBool:=λhu hv h=>by
  rcases C4 hu with ⟨i,t,rfl,rfl⟩ | ⟨x,t,rfl,rfl⟩
  ·rcases C4 hv with ⟨j,u,rfl,rfl⟩ | ⟨y,u,rfl,rfl⟩
   ·rw[A1z] at h;exact wpAny_eqBool_int h
   ·rw[A1y] at h;exact SeqAt.EqAt.int_str i t y u _ _ _ _ h
  ·rcases C4 hv with ⟨j,u,rfl,rfl⟩ | ⟨y,u,rfl,rfl⟩
   ·rw[A1x] at h;exact SeqAt.EqAt.str_int x t j u _ _ _ _ h
   ·rw[A1w] at h;exact wpAny_eqBool_str h
 «strs»:=λk x t v h=>by
  rcases C4 h with ⟨i,u,rfl,e⟩ | ⟨y,u,rfl,e⟩
  ·exact nomatch e
  ·injection e with e1 _
   subst e1;cases v<;>rfl
theorem Yd(prog:Program)(w:World)(i:Int)(t:Tok):(B3 prog w).is (.inl i) (.int i t)=true:=ja i t
theorem Fd(prog:Program)(w:World)(x:Str)(t:Tok):(B3 prog w).is (.inr x) (.str x t)=true:=j9 x t
inductive V where
 |non | bl (b:Bool) | int (i:Int) | str (x:Str) | byt (b:Array UInt8) | flt (b:UInt64) | ref (a:Addr) | ty (n:String)
 deriving DecidableEq
variable {xs:List V}{v:V}
def AE:V->Value->Prop
 |.non,u=>u=Value.none
 |.bl b,u=>u=Value.bool b
 |.int i,u=>∃t,u=Value.int i t
 |.str x,u=>∃t,u=Value.str x t
 |.byt b,u=>∃t,u=Value.bytes b t
 |.flt b,u=>∃t,u=Value.float b t
 |.ref a,u=>u=Value.ref a
 |.ty n,u=>u=Value.type n
abbrev AC:List V->List Value->Prop:=Paired AE
theorem AC.length(r:AC xs us):xs.length=us.length:=Paired.length r
theorem AC.get:∀{xs:List V} {us:List Value} {i:Nat} {x:V},AC xs us->xs[i]?=some x->∃u,us[i]?=some u/\AE x u
 |_,_,_,_,.nil,e=>by simp at e
 |_,_,0,_,.cons r _,e=>by simp at e;subst e;exact⟨_,rfl,r⟩
 |_,_,i+1,x,.cons _ t,e=>by
  let⟨u,h1,h2⟩:=AC.get (i:=i) (x:=x) t (by simpa using e);exact⟨u,by simpa using h1,h2⟩
theorem AC.set{x:V}(r:AE x u):∀{xs:List V} {us:List Value} (i:Nat),AC xs us->AC (xs.set i x) (us.set i u)
 |_,_,_,.nil=>.nil
 |_,_,0,.cons _ t=>.cons r t
 |_,_,i+1,.cons q t=>.cons q (AC.set r i t)
theorem AC.append:∀{xs ys:List V} {us ws:List Value},AC xs us->AC ys ws->AC (xs++ys) (us++ws)
 |_,_,_,_,.nil,s=>s
 |_,_,_,_,.cons r t,s=>.cons r (AC.append t s)
theorem AC.take:∀{xs:List V} {us:List Value} (n:Nat),AC xs us->AC (xs.take n) (us.take n)
 |_,_,0,_=>.nil
 |_,_,_+1,.nil=>.nil
 |_,_,n+1,.cons r t=>.cons r (AC.take n t)
theorem AC.drop:∀{xs:List V} {us:List Value} (n:Nat),AC xs us->AC (xs.drop n) (us.drop n)
 |_,_,0,r=>r
 |_,_,_+1,.nil=>.nil
 |_,_,n+1,.cons _ t=>AC.drop n t
def BB:Option V->Option Value->Prop
 |some v,some u=>AE v u
 |none,none=>True
 |_,_=>False
def KV{κ:Type}:List (κ×V)->List (κ×Value)->Prop:=Paired λ(p:κ×V) (q:κ×Value)=>p.1=q.1/\AE p.2 q.2
def kV:Key->V
 |.inl i=>.int i
 |.inr x=>.str x
inductive HO where
 |lst (xs:List V)
 |tup (xs:List V)
 |dK (kvs:List (Key×V)) | dT (kvs:List (List Key×V))
 |set (S:Int->Bool) (n:Nat)
 |ins (C dx:Addr) (fs:List (Str×V))
 |own (x:Addr)
 |xd (fs:List (Str×V))
 |met (f x:Addr)
 |rng (lo hi:Int)
 |frz (o:Obj) (u:HO)
 |tbl (ps:Array Value)
 |ext (φ:Heap->Prop)
abbrev Hp:=Addr->Option HO
variable {H H':Hp}
def upd(H:Hp)(a:Addr)(o:HO):Hp:=λb=>if b=a then some o else H b
theorem AA{o:HO}:upd H a o a=some o:=by unfold upd;rw[GE rfl]
theorem A6{o:HO}(h:b≠a):upd H a o b=H b:=by unfold upd;rw[GD h]
theorem Yb{o u:HO}(h:H a=some o)(h':H b=some u)(d:o≠u):a≠b:=by
 intro e;subst e;rw[h] at h';exact d (Zzm h')
theorem A8{o:HO}(h:H a=some o)(h':H b=none):a≠b:=by
 intro e;subst e;rw[h] at h';cases h'
section
variable (P:Program)(w:World)
def AG(H:Hp)(h:Heap)(a:Addr):HO->Prop
 |.lst xs=>xs.length<=sizeLine/\∃(its:List Value) (n:Nat),AC xs its/\h.get? a=some {cls:=.type "list",data:=.seq its.toArray n}
 |.tup xs=>xs.length<=sizeLine/\∃its:List Value,AC xs its/\IsTup h a its.toArray
 |.dK kvs=>kvs.length<=sizeLine/\(a == sysModules)=false/\∃vs,KV kvs vs/\h.DictOf (B3 P w) a vs
 |.dT kvs=>kvs.length<=sizeLine/\(a == sysModules)=false/\∃xs:List (List Key×Addr×Value),
   Paired (λ(p:List Key×V) (q:List Key×Addr×Value)=>p.1=q.1/\H q.2.1=some (.tup (p.1.map kV))/\AE p.2 q.2.2) kvs xs /\
   ∃o es ep,h.get? a=some o/\o.ExactDict/\o.data=.dict es ep/\es.toList=xs.map (entryOfKey (tupleKind (B3 P w)))/\(xs.map (·.1)).Nodup
 |.set S n=>h.SetOf (intKind P w) a S n
 |.ins C dx fs=>H dx=some (.own a)/\fs.length<=1000/\dx≠a/\h.get? a=some (Zxf C dx) /\
   ∃mA,h.Ns1 dx mA/\(∀f,BB (fs.lookup f) (mA f))/\PySem.Within mA (fs.map (·.1))
 |.own _=>∃o,h.get? a=some o
 |.xd fs=>∃mA,h.Ns1 a mA/\∀f,BB (fs.lookup f) (mA f)
 |.rng lo hi=>∃t u v,h.get? a=some {cls:=.type "range",data:=.fields #[.int lo t,.int hi u,.int 1 v]}
 |.frz o u=>h.get? a=some o/\AG H h a u
 |.tbl ps=>h.get? a=some {cls:=.none,data:=.fields ps}
 |.met f x=>h.get? a=some (PySem.W.methodObj (.ref f) (.ref x))
 |.ext φ=>φ h/\(∃o,h.get? a=some o)/\∀h1 h2:Heap,φ h1->(∀o,h1.get? a=some o->h2.get? a=some o)->φ h2
def HOk(H:Hp)(h:Heap):Prop:=∀a o,H a=some o->AG P w H h a o
end
section
variable {o:HO}
theorem AG.lt(x:AG P w H h a o):a<h.objs.size:=by
 cases o with
 |lst xs=>let⟨_,_,_,_,e⟩:=x;exact Zzo e
 |tup xs=>let⟨_,_,_,p⟩:=x;exact p.lt
 |dK kvs=>let⟨_,_,_,_,o,_,_,e,_⟩:=x;exact Zzo e
 |dT kvs=>let⟨_,_,_,_,o,_,_,e,_⟩:=x;exact Zzo e
 |set S n=>let⟨o,_,_,_,e,_⟩:=x;exact Zzo e
 |ins C dx fs=>let⟨_,_,_,e,_⟩:=x;exact Zzo e
 |own y=>let⟨_,e⟩:=x;exact Zzo e
 |xd fs=>let⟨_,⟨_,_,_,e,_⟩,_⟩:=x;exact Zzo e
 |rng lo hi=>let⟨_,_,_,e⟩:=x;exact Zzo e
 |frz ob u=>let⟨e,_⟩:=x;exact Zzo e
 |tbl ps=>exact Zzo (show h.get? a=some _ from x)
 |met f y=>exact Zzo (show h.get? a=some _ from x)
 |ext φ=>let⟨_,⟨_,e⟩,_⟩:=x;exact Zzo e
theorem Paired.mapP{α β:Type}{F G:α->β->Prop}:∀{l₁:List α} {l₂:List β},Paired F l₁ l₂->(∀a b,F a b->G a b)->Paired G l₁ l₂
 |_,_,.nil,_=>.nil
 |_,_,.cons r t,f=>.cons (f _ _ r) (Paired.mapP t f)
theorem AG.stay(x:AG P w H h a o)(k:∀b u,(b=a\/H b=some (.own a))->h.get? b=some u->h'.get? b=some u)
  (ho:∀b,H b=some (.own a)->H' b=some (.own a)) (ht:∀b xs,H b=some (.tup xs)->H' b=some (.tup xs)):AG P w H' h' a o:=by
 induction o with
 |lst xs=>let⟨z,its,n,r,e⟩:=x;exact⟨z,its,n,r,k _ _ (.inl rfl) e⟩
 |tup xs=>let⟨z,its,r,ob,e,c⟩:=x;exact⟨z,its,r,ob,k _ _ (.inl rfl) e,c⟩
 |dK kvs=>let⟨z,y,vs,r,ob,es,ep,e,c⟩:=x;exact⟨z,y,vs,r,ob,es,ep,k _ _ (.inl rfl) e,c⟩
 |dT kvs =>
  let⟨z,y,xs,r,ob,es,ep,e,c⟩:=x;exact⟨z,y,xs,Paired.mapP r λp q z=>⟨z.1,ht _ _ z.2.1,z.2.2⟩,ob,es,ep,k _ _ (.inl rfl) e,c⟩
 |set S n=>let⟨ob,es,ep,t,e,c⟩:=x;exact⟨ob,es,ep,t,k _ _ (.inl rfl) e,c⟩
 |ins C dx fs =>
  let⟨d,z,ne,e,mA,⟨od,es,ep,e2,c⟩,r⟩:=x;exact⟨ho _ d,z,ne,k _ _ (.inl rfl) e,mA,⟨od,es,ep,k _ _ (.inr d) e2,c⟩,r⟩
 |own y=>let⟨ob,e⟩:=x;exact⟨ob,k _ _ (.inl rfl) e⟩
 |xd fs=>let⟨mA,⟨od,es,ep,e,c⟩,r⟩:=x;exact⟨mA,⟨od,es,ep,k _ _ (.inl rfl) e,c⟩,r⟩
 |rng lo hi=>let⟨t,u,v,e⟩:=x;exact⟨t,u,v,k _ _ (.inl rfl) e⟩
 |frz ob u ih=>let⟨e,q⟩:=x;exact⟨k _ _ (.inl rfl) e,ih q⟩
 |tbl ps =>
  have e:h.get? a=some {cls:=.none,data:=.fields ps}:=x;show h'.get? a=some {cls:=.none,data:=.fields ps};exact k a _ (.inl rfl) e
 |met f y =>
  have e:h.get? a=some (PySem.W.methodObj (.ref f) (.ref y)):=x;show h'.get? a=some (PySem.W.methodObj (.ref f) (.ref y));exact k a _ (.inl rfl) e
 |ext φ=>let⟨p,⟨o,e⟩,st⟩:=x;exact⟨st _ _ p λo q=>k _ _ (.inl rfl) q,⟨o,k _ _ (.inl rfl) e⟩,st⟩
theorem HOk.lt(x:HOk P w H h)(e:H a=some o):a<h.objs.size:=(x a o e).lt
theorem HOk.fresh(x:HOk P w H h)(e:h.objs.size<=a):H a=none:=by
 cases q:H a with
 |none=>rfl
 |some u=>exact absurd (Zzb (x.lt q) e) (Zx0 _)
theorem HOk.kept(x:HOk P w H h)(k:∀b u,h.get? b=some u->h'.get? b=some u):HOk P w H h':=λa o e =>
 (x a o e).stay (λb u _ q=>k b u q) (λ_ q=>q) λ_ _ q=>q
theorem HOk.laid(x:HOk P w H h)(k:∀b u,h.get? b=some u->h'.get? b=some u)(hp:h.objs.size<=a)(new:AG P w (upd H a o) h' a o):HOk P w (upd H a o) h':=λb u e=>by
 have hn:=x.fresh hp;by_cases hb:b=a
 ·subst hb;rw[AA] at e;cases e;exact new
 ·rw[A6 hb] at e;exact(x b u e).stay (λc v _ q=>k c v q) (λc q=>by rw[A6 (A8 q hn)];exact q) λc xs q=>by rw[A6 (A8 q hn)];exact q
end
def Rd(H:Hp)(a:Addr)(u:HO):Prop:=H a=some u\/∃o,H a=some (.frz o u)
theorem Rd.ok{u:HO}(r:Rd H a u)(x:HOk P w H h):AG P w H h a u:=by
 rcases r with r | ⟨o,r⟩
 ·exact x a u r
 ·let⟨_,q⟩:=x a _ r;exact q
def Mut:Option HO->Prop
 |some (.lst _)=>True
 |some (.dK _)=>True
 |some (.dT _)=>True
 |some (.set _ _)=>True
 |some (.ins _ _ _)=>True
 |some (.ext _)=>True
 |_=>False
section
variable {x e:Addr}{o':HO}
theorem HOk.write(ok:HOk P w H h)(mu:Mut (H x))(he:e=x\/H e=some (.own x))(k:∀b u,b≠e->h.get? b=some u->h'.get? b=some u)(heo:∃u,h'.get? e=some u)
  (new:AG P w (upd H x o') h' x o'):HOk P w (upd H x o') h':=λb u q=>by
 have nown:∀c y,H c=some (.own y)->c≠x:=λc y r z=>by subst z;rw[r] at mu;exact mu
 have ntup:∀c xs,H c=some (.tup xs)->c≠x:=λc xs r z=>by subst z;rw[r] at mu;exact mu
 by_cases hb:b=x
 ·subst hb;rw[AA] at q;cases q;exact new
 ·rw[A6 hb] at q;by_cases hbe:b=e
  ·have q':H b=some (.own x):=by
    rcases he with z | z
    ·exact absurd (hbe.trans z) hb
    ·rw[hbe];exact z
   rw[q] at q';cases q';let⟨v,hv⟩:=heo;exact⟨v,by rw[hbe];exact hv⟩
  ·refine(ok b u q).stay (λc v hc r=>k c v ?_ r) (λc r=>by rw[A6 (nown c b r)];exact r) λc xs r=>by rw[A6 (ntup c xs r)];exact r
   rcases hc with rfl | hc
   ·exact hbe
   ·rintro rfl;rcases he with z | z
    ·exact nown c b hc z
    ·rw[hc] at z;cases z;exact hb rfl
end
structure Un(fs ex:List Addr)(H H':Hp)(h h':Heap):Prop where
 keep:∀b o,h.get? b=some o->H b=none->b∉fs->b∉ex->h'.get? b=some o
 slot:∀b o,h.get? b=some o->H b=none->b∈fs->b∉ex->∃sl,h'.get? b=some {o with slots:=sl}
 free:∀b o,h.get? b=some o->H b=none->b∉ex->H' b=none
 there:∀b o,h.get? b=some o->b∉ex->∃o',h'.get? b=some o'
 tups:∀b xs,H b=some (.tup xs)->H' b=some (.tup xs)
 frzs:∀b o u,H b=some (.frz o u)->H' b=some (.frz o u)
 tbls:∀b ps,H b=some (.tbl ps)->∃more,H' b=some (.tbl (ps++more))
section
variable {fs fs' ex ex':List Addr}{H1 H2:Hp}{h1 h2:Heap}{x e:Addr}{o:HO}
theorem Un.any(u:Un fs ex H H1 h h1){ob:Obj}(q:h.get? b=some ob)(n:H b=none)(hx:b∉ex):∃sl,h1.get? b=some {ob with slots:=sl}:=by
 by_cases hb:b∈fs
 ·exact u.slot b ob q n hb hx
 ·exact⟨ob.slots,u.keep b ob q n hb hx⟩
theorem Un.kept(k:∀b u,h.get? b=some u->h'.get? b=some u):Un fs ex H H h h' :=
 ⟨λb ob q _ _ _=>k b ob q,λb ob q _ _ _=>⟨ob.slots,k b ob q⟩,λ_ _ _ n _=>n,λb ob q _=>⟨ob,k b ob q⟩,λ_ _ q=>q,λ_ _ _ q=>q,λ_ ps q=>⟨#[],by rw[q];simp⟩⟩
theorem Un.refl:Un fs ex H H h h:=Un.kept λ_ _ q=>q
theorem Un.laid(k:∀b u,h.get? b=some u->h'.get? b=some u)(hp:h.objs.size<=a)(hn:H a=none):Un fs ex H (upd H a o) h h' where
 keep:=λb u q _ _ _=>k b u q
 slot:=λb u q _ _ _=>⟨u.slots,k b u q⟩
 free:=λb u q n _=>by rw[A6 (Zz0 (Zzb (Zzo q) hp))];exact n
 there:=λb u q _=>⟨u,k b u q⟩
 tups:=λb xs q=>by rw[A6 (A8 q hn)];exact q
 frzs:=λb u xs q=>by rw[A6 (A8 q hn)];exact q
 tbls:=λb ps q=>⟨#[],by rw[A6 (A8 q hn),q];simp⟩
theorem Un.write(mu:Mut (H x))(he:e=x\/H e=some (.own x))(k:∀b u,b≠e->h.get? b=some u->h'.get? b=some u)(heo:∃u,h'.get? e=some u):Un fs ex H (upd H x o) h h':=by
 have hx:∀b,H b=none->b≠x:=λb n z=>by subst z;rw[n] at mu;exact mu
 have hb:∀b,H b=none->b≠e:=λb n z=>by
  subst z;rcases he with r | r
  ·exact hx b n r
  ·rw[n] at r;cases r
 have hm:∀b u,H b=some u->¬ Mut (some u)->b≠x:=λb u q nm z=>by subst z;rw[q] at mu;exact nm mu
 refine⟨λb u q n _ _=>k b u (hb b n) q,λb u q n _ _=>⟨u.slots,k b u (hb b n) q⟩,λb u q n _=>by rw[A6 (hx b n)];exact n,λb u q _=>?_,
  λb xs q=>by rw[A6 (hm b _ q λz=>z)];exact q,λb u xs q=>by rw[A6 (hm b _ q λz=>z)];exact q,λb ps q=>⟨#[],by rw[A6 (hm b _ q λz=>z),q];simp⟩⟩
 by_cases hbe:b=e
 ·subst hbe;exact heo
 ·exact⟨u,k b u hbe q⟩
end
noncomputable def trk(h:Heap)(H:Hp):List Addr:=(Zys h.objs.size).filter λa=>(H a).isSome
def T5(h:Heap)(H:Hp):Heap:=PySem.W.hideAll h (trk h H)
theorem je(h:Heap)(H:Hp):(T5 h H).objs.size=h.objs.size:=PySem.W.hideAll_size _ _
theorem se{o:Obj}(e:h.get? b=some o)(n:H b=none):(T5 h H).get? b=some o :=
 PySem.W.hideAll_get _ e λhm=>by
  have q:(H b).isSome=true:=(Zwk.mp hm).2;rw[n] at q;simp at q
theorem xi{o:Obj}(e:(T5 h H).get? b=some o):h.get? b=some o/\H b=none:=by
 have e':h.get? b=some o:=PySem.W.of_hideAll (trk h H) e;refine⟨e',?_⟩;cases q:H b with
 |none=>rfl
 |some x =>
  have hm:b∈trk h H:=Zwk.mpr ⟨Zvs.mpr (Zzo e'),by simp[q]⟩;have z:(T5 h H).get? b=none:=PySem.W.hideAll_none (trk h H) hm;rw[z] at e;cases e
noncomputable def Dv(g h:Heap)(L:Addr):List (Addr×Obj):=(Zys h.objs.size).filterMap λa=>if a=L\/(g.get? a).isSome=true then none else (h.get? a).map λo=>(a,o)
theorem Og{g:Heap}{o:Obj}(h1:a≠L)(h2:g.get? a=none)(h3:h.get? a=some o):(a,o)∈Dv g h L :=
 Zx5.mpr ⟨a,Zvs.mpr (Zzo h3),by simp[h1,h2,h3]⟩
theorem Qx{g:Heap}{p:Addr×Obj}(hp:p∈Dv g h L):p.1≠L/\g.get? p.1=none/\h.get? p.1=some p.2:=by
 let⟨b,_,e⟩:=Zx5.mp hp;split at e
 ·cases e
 ·rename_i hn;cases q:h.get? b with
  |none=>rw[q] at e;simp at e
  |some u =>
   rw[q] at e;simp only[Zx1,Option.some.injEq] at e;subst e;refine⟨λz=>hn (.inl z),?_,q⟩;show g.get? b=none;cases r:g.get? b with
   |none=>rfl
   |some v=>exact(hn (.inr (by simp[r]))).elim
def AO(g h:Heap)(L d:Addr):List (Addr×Obj):=(Dv g h L).filter λp=>decide (p.1≠d)
theorem Y9{g:Heap}:News g L h (Dv g h L):=λp hp=>by let⟨a,b,c⟩:=Qx hp;exact⟨c,a,b⟩
structure Mod(K:Zzy)(mg:Str->Option Value)(base:Heap):Prop where
 kin:K.In base
 glob:base.Ns mainGlobals mg
 blt:∃mb,base.Ns builtinsNs mb/\∀x:Str,x ≠ "__name__" -> mb x=bootBuiltins x
 nolimit:base.NoLimit
structure Cx where
 prog:Program
 w:World
 K:Zzy
 mg:Str->Option Value
 base:Heap
 A:Around
 N:List Str
 s₀:Shared
 H₀:Hp
 env:Env
 outer:List Env
 stack:List Env
 ex:List Addr
 fn:Str->Bool
 calm:Bool
 pn:List (Addr×Obj)
 xe:Value->Shared->Prop
variable {X:Cx}
def frs(l:List Env):List Addr:=l.filterMap (·.frame)
abbrev Cx.fs(X:Cx):List Addr:=frs X.outer
def Vis(sc:Scope)(x:Str):Prop:=sc.names.lookup x=some .local\/sc.names.lookup x=some .cell\/sc.names.lookup x=some .free
def Loc(sc:Scope)(x:Str):Prop:=sc.names.lookup x=some .local\/sc.names.lookup x=some .cell
def Look(env:Env)(h:Heap)(m:Str->Option Value)(x:Str)(u:Value):Prop :=
 (env.kindOf x=some .local/\m x=some u)\/((env.kindOf x=some .cell\/env.kindOf x=some .free)/\∃c,env.cells.lookup x=some c/\h.IsCell c (some u))
structure Cx.Ok(X:Cx):Prop where
 mod:Mod X.K X.mg X.base
 kind:X.env.scope.kind=.function
 glob:X.env.globals=mainGlobals
 blt:X.env.builtins=builtinsNs
 above:X.s₀.heap.objs.size<=X.env.locals
 inj:∀x y c,X.env.cells.lookup x=some c->X.env.cells.lookup y=some c->x=y
 has:∀x,(X.env.kindOf x=some .cell\/X.env.kindOf x=some .free)->∃c,X.env.cells.lookup x=some c
 cab:∀x c,X.fn x=true->X.env.cells.lookup x=some c->X.s₀.heap.objs.size<=c
 hd:X.calm=true->X.A.handled=none
 frames:X.A.frames=some X.stack
 stk:X.stack=X.outer\/(X.stack=X.env::X.outer/\X.env.frame=some X.env.locals)
 exf:∀b∈X.ex,b≠X.env.locals/\∀x c,X.env.cells.lookup x=some c->c≠b
 bs:∀b o,X.base.get? b=some o->X.s₀.heap.get? b=some o/\X.H₀ b=none
 bsz:X.base.objs.size<=X.s₀.heap.objs.size
 noex:∀b o,X.base.get? b=some o->b∉X.ex
 exfs:∀b∈X.ex,b∉X.fs
 funs:X.s₀.heap.FunFrames X.base X.outer
 frf:∀b∈X.fs,X.H₀ b=none
structure Inv(X:Cx)(pins:List (Addr×Obj))(σ:List (Option V))(H:Hp)(s:Shared):Prop where
 ok:X.Ok
 os:s.os=X.s₀.os
 bare:AllBare s.gens
 base:Un X.fs X.ex X.H₀ H X.s₀.heap s.heap
 loc:∃m,s.heap.Ns X.env.locals m/\∀(i:Nat) (x:Str) (v:V),X.N[i]?=some x->σ[i]?=some (some v)->Vis X.env.scope x->∃u,AE v u/\Look X.env s.heap m x u
 cell:∀x c,X.env.cells.lookup x=some c->∃v,s.heap.IsCell c v
 free:H X.env.locals=none
 freeC:∀x c,X.env.cells.lookup x=some c->H c=none
 pin:∀p∈X.pn++pins,s.heap.get? p.1=some p.2/\H p.1=none/\p.1≠X.env.locals/\p.1∉X.fs/\∀v,p.2.data≠.cell v
 hok:HOk X.prog X.w H s.heap
 len:σ.length=X.N.length
section
variable {σ:List (Option V)}
theorem Cx.Ok.nofr(ok:X.Ok){o:Obj}(e:X.base.get? b=some o):b∉X.fs:=λhb=>by
 have:=(ok.funs.mem hb).1;rw[e] at this;cases this
theorem Inv.bs(I:Inv X pins σ H s):∀b o,X.base.get? b=some o->s.heap.get? b=some o/\H b=none:=λb o e =>
 ⟨I.base.keep b o (I.ok.bs b o e).1 (I.ok.bs b o e).2 (I.ok.nofr e) (I.ok.noex b o e),I.base.free b o (I.ok.bs b o e).1 (I.ok.bs b o e).2 (I.ok.noex b o e)⟩
theorem Inv.bk(I:Inv X pins σ H s):∀b o,X.base.get? b=some o->s.heap.get? b=some o:=λb o e=>(I.bs b o e).1
theorem Inv.mod(I:Inv X pins σ H s):Mod X.K X.mg X.base:=I.ok.mod
theorem Inv.kIn(I:Inv X pins σ H s):X.K.In s.heap:=I.ok.mod.kin.keeps I.bk
theorem Inv.fr(I:Inv X pins σ H s):∃m,Fr X.base X.env.locals s.heap m :=
 let ⟨m,hn,_⟩:=I.loc
 ⟨m,hn,I.bk,Zzp I.ok.bsz I.ok.above⟩
theorem Inv.lt(I:Inv X pins σ H s):X.env.locals<s.heap.objs.size:=by let⟨_,hn,_⟩:=I.loc;exact hn.lt
theorem Inv.sz(I:Inv X pins σ H s):X.s₀.heap.objs.size<=s.heap.objs.size:=Zzp I.ok.above (Nat.le_of_lt I.lt)
theorem Inv.nofs(I:Inv X pins σ H s)(h:s.heap.objs.size<=a):a∉X.fs:=λhb=>by
 let⟨_,o,ho,_⟩:=I.ok.funs.mem hb;exact absurd (Zzb (Zzo ho) (Zzp I.sz h)) (Zx0 _)
theorem Inv.cne(I:Inv X pins σ H s):∀x c,X.env.cells.lookup x=some c->c≠X.env.locals:=λx c e z=>by
 let⟨v,o,ho,hd⟩:=I.cell x c e;let⟨m,⟨o',es,ep,ho',hd',_⟩,_⟩:=I.loc;rw[z,ho'] at ho;cases ho;rw[hd'] at hd;cases hd
theorem Inv.funs(I:Inv X pins σ H s):s.heap.FunFrames X.base X.outer:=by
 have all:∀(l:List Env),(∀b∈frs l,b∈X.fs)->X.s₀.heap.FunFrames X.base l->s.heap.FunFrames X.base l:=by
  intro l;induction l with
  |nil=>intro _ _;trivial
  |cons env r ih =>
   intro hs hl;let⟨hk,⟨L,o,hf,hn,ho,hd⟩,hr⟩:=hl;have hL:L∈X.fs:=hs L (by unfold frs;rw[Zwo,hf];exact Zzq);let⟨sl,e⟩:=I.base.slot L o ho (I.ok.frf L hL) hL λz=>I.ok.exfs L z hL;exact⟨hk,⟨L,_,hf,hn,e,hd⟩,ih (λb hb=>hs b (by unfold frs;rw[Zwo,hf];exact Zzs _ hb)) hr⟩
 exact all X.outer (λ_ hb=>hb) I.ok.funs
theorem Inv.stack(I:Inv X pins σ H s):s.heap.FunFrames X.base X.stack:=by
 rcases I.ok.stk with e | ⟨e,hf⟩
 ·rw[e];exact I.funs
 ·rw[e];let⟨m,hn,_⟩:=I.loc;refine .cons (by rw[I.ok.kind];decide) hf hn ?_ I.funs;exact Heap.get?_none_of_le (Zzp I.ok.bsz I.ok.above)
theorem Inv.stkSub(I:Inv X pins σ H s):∀b∈frs X.stack,b∈X.env.locals::X.fs:=λb hb=>by
 rcases I.ok.stk with e | ⟨e,hf⟩
 ·rw[e] at hb;exact Zzs _ hb
 ·rw[e] at hb;unfold frs at hb;rw[Zwo,hf] at hb;exact hb
theorem Inv.stkFree(I:Inv X pins σ H s):∀b∈frs X.stack,H b=none:=λb hb=>by
 rcases Zzw.mp (I.stkSub b hb) with e | hb
 ·rw[e];exact I.free
 ·let⟨_,o,ho,_⟩:=I.ok.funs.mem hb;exact I.base.free b o ho (I.ok.frf b hb) λz=>I.ok.exfs b z hb
theorem Inv.step{d':Drawn}(I:Inv X pins σ H s)
  (hch:∀b∈ch,(b∈X.ex\/X.s₀.heap.objs.size<=b)/\b≠X.env.locals/\(∀x c,X.env.cells.lookup x=some c->c≠b)/\∀p∈X.pn++pins,p.1≠b)
  (keep:∀b o,b≠X.env.locals->b∉X.fs->b∉ch->s.heap.get? b=some o->H b=none->h'.get? b=some o)
  (slot:∀b o,b≠X.env.locals->b∈X.fs->b∉ch->s.heap.get? b=some o->H b=none->∃sl,h'.get? b=some {o with slots:=sl}) (free:∀b o,b∉ch->s.heap.get? b=some o->H b=none->H' b=none)
  (there:∀b o,b∉ch->s.heap.get? b=some o->∃o',h'.get? b=some o')
  (tups:∀b xs,H b=some (.tup xs)->H' b=some (.tup xs)) (frzs:∀b o u,H b=some (.frz o u)->H' b=some (.frz o u)) (tbls:∀b ps,H b=some (.tbl ps)->∃more,H' b=some (.tbl (ps++more)))
  (ns:∀m,s.heap.Ns X.env.locals m->h'.Ns X.env.locals m) (hok:HOk X.prog X.w H' h') (hg:AllBare g') :
  Inv X pins σ H' {s with heap:=h',gens:=g',drawn:=d',toks:=t'}:=by
 have neL:∀b o,X.s₀.heap.get? b=some o->b≠X.env.locals:=λb o e=>Zz0 (Zzb (Zzo e) I.ok.above);have neC:∀b o,X.s₀.heap.get? b=some o->b∉X.ex->b∉ch:=λb o e hx hb=>by
  rcases(hch b hb).1 with z | z
  ·exact hx z
  ·exact absurd (Zzb (Zzo e) z) (Zx0 _)
 have Ee:∀x c,X.env.cells.lookup x=some c->∀v,s.heap.IsCell c v->h'.IsCell c v:=λx c e v z0=>by
  let⟨o,ho,hd⟩:=z0;have nch:c∉ch:=λz=>(hch c z).2.2.1 x c e rfl;by_cases hc:c∈X.fs
  ·let⟨sl,q⟩:=slot c o (I.cne x c e) hc nch ho (I.freeC x c e);exact⟨_,q,hd⟩
  ·exact⟨o,keep c o (I.cne x c e) hc nch ho (I.freeC x c e),hd⟩
 refine⟨I.ok,I.os,hg,⟨λb o e n hb hx=>?_,λb o e n hb hx=>?_,λb o e n hx=>?_,λb o e hx=>?_,λb xs e=>tups b xs (I.base.tups b xs e),λb o xs e=>frzs b o xs (I.base.frzs b o xs e),λb ps e=>?_⟩,?_,λx c e=>?_,?_,λx c e=>?_,λp hp=>?_,hok,I.len⟩
 ·exact keep b o (neL b o e) hb (neC b o e hx) (I.base.keep b o e n hb hx) (I.base.free b o e n hx)
 ·let⟨sl,e1⟩:=I.base.slot b o e n hb hx;let⟨sl',e2⟩:=slot b _ (neL b o e) hb (neC b o e hx) e1 (I.base.free b o e n hx);exact⟨sl',e2⟩
 ·let⟨o',e1⟩:=I.base.there b o e hx;exact free b o' (neC b o e hx) e1 (I.base.free b o e n hx)
 ·let⟨o',e1⟩:=I.base.there b o e hx;exact there b o' (neC b o e hx) e1
 ·let⟨m1,e1⟩:=I.base.tbls b ps e;let⟨m2,e2⟩:=tbls b _ e1;exact⟨m1++m2,by rw[e2,Array.append_assoc]⟩
 ·let⟨m,hn,hl⟩:=I.loc;refine⟨m,ns m hn,λi x v e1 e2 e3=>?_⟩;let⟨u,r,l⟩:=hl i x v e1 e2 e3;refine⟨u,r,?_⟩;rcases l with l | ⟨k,c,e,z⟩
  ·exact .inl l
  ·exact .inr ⟨k,c,e,Ee x c e _ z⟩
 ·let⟨v,z⟩:=I.cell x c e;exact⟨v,Ee x c e v z⟩
 ·let⟨m,⟨o,_,_,ho,_⟩,_⟩:=I.loc;exact free _ o (λz=>(hch _ z).2.1 rfl) ho I.free
 ·let⟨v,o,ho,hd⟩:=I.cell x c e;exact free c o (λz=>(hch c z).2.2.1 x c e rfl) ho (I.freeC x c e)
 ·let⟨e,n,ne,nf,d⟩:=I.pin p hp;have nch:p.1∉ch:=λz=>(hch p.1 z).2.2.2 p hp rfl;exact⟨keep p.1 p.2 ne nf nch e n,free p.1 p.2 nch e n,ne,nf,d⟩
theorem Inv.un(I:Inv X pins σ H s)(u:Un X.fs [] H H' s.heap h')(hok:HOk X.prog X.w H' h'):Inv X pins σ H' {s with heap:=h',toks:=t'}:=by
 let⟨m,⟨o,es,ep,ho,r⟩,_⟩:=id I.loc;let⟨sl,hL⟩:=u.any ho I.free (by simp);exact I.step (g':=s.gens) (d':=s.drawn) (ch:=[]) (λ_ z=>nomatch z) (λb o _ hb _ e n=>u.keep b o e n hb (by simp)) (λb o _ hb _ e n=>u.slot b o e n hb (by simp)) (λb o _ e n=>u.free b o e n (by simp)) (λb o _ e=>u.there b o e (by simp)) u.tups u.frzs u.tbls (λm' hm=>by
  let⟨o',es',ep',ho',r'⟩:=hm
  rw[ho] at ho';cases ho'
  exact⟨_,es',ep',hL,r'⟩) hok I.bare
theorem Inv.call{d':Drawn}(I:Inv X pins σ H s)(u:Un (frs X.stack) ch H H' s.heap h')(hok:HOk X.prog X.w H' h')(hg:AllBare g')
  (hch:∀b∈ch,(b∈X.ex\/X.s₀.heap.objs.size<=b)/\b≠X.env.locals/\(∀x c,X.env.cells.lookup x=some c->c≠b)/\∀p∈X.pn++pins,p.1≠b) :
  Inv X pins σ H' {s with heap:=h',gens:=g',drawn:=d',toks:=t'}:=by
 let⟨m,⟨o,es,ep,ho,r⟩,_⟩:=id I.loc;let⟨sl,hL⟩:=u.any ho I.free λz=>(hch _ z).2.1 rfl;exact I.step (ch:=ch) hch (λb o hL hb hc e n=>u.keep b o e n (λz=>(Zzw.mp (I.stkSub b z)).elim hL hb) hc) (λb o _ _ hc e n=>u.any e n hc) (λb o hc e n=>u.free b o e n hc) (λb o hc e=>u.there b o e hc) u.tups u.frzs u.tbls (λm' hm=>by
  let⟨o',es',ep',ho',r'⟩:=hm
  rw[ho] at ho';cases ho'
  exact⟨_,es',ep',hL,r'⟩) hok hg
theorem Inv.turned{it:Addr}(I:Inv X pins σ H s)(k:∀b o,b≠it->s.heap.get? b=some o->h'.get? b=some o)(hn:H it=none)(hL:it≠X.env.locals)
  (h1:it∈X.ex\/X.s₀.heap.objs.size<=it) (h2:∀x c,X.env.cells.lookup x=some c->c≠it) (h3:∀p∈X.pn++pins,p.1≠it):Inv X pins σ H {s with heap:=h',toks:=t'}:=by
 have nit:∀b u,H b=some u->b≠it:=λb u e z=>by rw[z,hn] at e;cases e
 refine I.step (g':=s.gens) (d':=s.drawn) (ch:=[it]) (λb hb=>?_) (λb o _ _ hc e _=>k b o (λz=>hc (by simp[z])) e) (λb o _ _ hc e _=>⟨o.slots,k b o (λz=>hc (by simp[z])) e⟩) (λ_ _ _ _ n=>n)
  (λb o hc e=>⟨o,k b o (λz=>hc (by simp[z])) e⟩) (λ_ _ e=>e) (λ_ _ _ e=>e) (λb ps e=>⟨#[],by rw[e];simp⟩) (λm hm=>?_) (λb u e=>?_) I.bare
 ·have e:b=it:=by simpa using hb
  subst e;exact⟨h1,hL,h2,h3⟩
 ·let⟨o,es,ep,ho,r⟩:=hm;exact⟨o,es,ep,k _ o (Zza hL) ho,r⟩
 ·refine(I.hok b u e).stay (λc v hc q=>k c v ?_ q) (λ_ q=>q) λ_ _ q=>q;rcases hc with z | z
  ·rw[z];exact nit b u e
  ·exact nit c _ z
theorem Inv.tok(I:Inv X pins σ H s)(t:Nat):Inv X pins σ H {s with toks:=t}:=I.un (h':=s.heap) (t':=t) Un.refl I.hok
theorem Inv.kept(I:Inv X pins σ H s)(k:∀b u,s.heap.get? b=some u->h'.get? b=some u):Inv X pins σ H {s with heap:=h',toks:=t'}:=I.un (Un.kept k) (I.hok.kept k)
theorem Inv.laid{o:HO}(I:Inv X pins σ H s)(k:∀b u,s.heap.get? b=some u->h'.get? b=some u)(hp:s.heap.objs.size<=a)(new:AG X.prog X.w (upd H a o) h' a o) :
  Inv X pins σ (upd H a o) {s with heap:=h',toks:=t'}:=I.un (Un.laid k hp (I.hok.fresh hp)) (I.hok.laid k hp new)
theorem Inv.write{x e:Addr}{o:HO}(I:Inv X pins σ H s)(mu:Mut (H x))(he:e=x\/H e=some (.own x))(k:∀b u,b≠e->s.heap.get? b=some u->h'.get? b=some u)(heo:∃u,h'.get? e=some u)
  (new:AG X.prog X.w (upd H x o) h' x o):Inv X pins σ (upd H x o) {s with heap:=h',toks:=t'}:=I.un (Un.write mu he k heo) (I.hok.write mu he k heo new)
theorem Inv.weak{σ':List (Option V)}(I:Inv X pins σ H s)(hl:σ'.length=σ.length)(w:∀(i:Nat) v,σ'[i]?=some (some v)->σ[i]?=some (some v)):Inv X pins σ' H s :=
 ⟨I.ok,I.os,I.bare,I.base,by let⟨m,hn,hl'⟩:=I.loc;exact⟨m,hn,λi x v e1 e2 e3=>hl' i x v e1 (w i v e2) e3⟩,I.cell,I.free,I.freeC,I.pin,I.hok,hl.trans I.len⟩
theorem Inv.pins_of{pins':List (Addr×Obj)}(I:Inv X pins σ H s)(h:∀p∈pins',s.heap.get? p.1=some p.2/\H p.1=none/\p.1≠X.env.locals/\p.1∉X.fs/\∀v,p.2.data≠.cell v):Inv X pins' σ H s :=
 ⟨I.ok,I.os,I.bare,I.base,I.loc,I.cell,I.free,I.freeC,λp hp=>(Zz3.mp hp).elim (λz=>I.pin p (Zyi _ z)) (h p),I.hok,I.len⟩
theorem R0(hN:N.Nodup)(a:N[i]?=some x)(b:N[j]?=some x):i=j:=by
 let⟨h1,e1⟩:=Zzf.mp a;let⟨h2,e2⟩:=Zzf.mp b;exact(List.getElem_inj hN).mp (e1.trans e2.symm)
theorem Mt{Q:Unit->Shared->Prop}(I:Inv X pins σ H s)(hN:X.N.Nodup)(hi:X.N[i]?=some x)(hx:Loc X.env.scope x)(r:AE v u)
  (h:∀s',Inv X pins (σ.set i (some v)) H s'->(∃a,Zxs a s.heap s'.heap/\(a=X.env.locals\/X.env.cells.lookup x=some a))->Q () s') (hf:X.fn x=true\/X.env.scope.names.lookup x=some .local:=by first | exact .inl rfl | exact .inr rfl | assumption):wpAny M A (storeName X.env x u) Q E s:=by
 let⟨m,hn,hl⟩:=id I.loc;have hcls:(X.env.scope.kind == .class||(X.env.scope.kind == .module&&X.env.locals != X.env.globals))=false:=by rw[I.ok.kind];rfl
 have hiσ:i<σ.length:=by rw[I.len];exact(Zzf.mp hi).1
 have cne:=I.cne;have tracked:∀{a:Addr} {h':Heap},(∃o,s.heap.get? a=some o/\H a=none)->Zxs a s.heap h'->HOk X.prog X.w H h':=λ{a h'} ha hs b ob e=>by
  let⟨_,_,hfree⟩:=ha;refine(I.hok b ob e).stay (λc w' hc q=>(hs.2 c ?_).trans q) (λ_ q=>q) λ_ _ q=>q;rintro rfl;rcases hc with rfl | hc
  ·rw[hfree] at e;cases e
  ·rw[hfree] at hc;cases hc
 rcases hx with hk | hk
 ·refine wpAny_storeName_local hk hn (λh' hn' hs=>?_) hcls;let⟨oL,_,_,hoL,_⟩:=id hn;refine h _ ⟨I.ok,I.os,I.bare,⟨λb o e n hb hx=>?_,λb o e n hb hx=>?_,I.base.free,λb o e hx=>?_,I.base.tups,I.base.frzs,I.base.tbls⟩,⟨_,hn',λj y v' e1 e2 e3=>?_⟩,λy c e=>?_,I.free,I.freeC,λp hp=>?_,tracked ⟨oL,hoL,I.free⟩ hs,by simpa using I.len⟩ ⟨_,hs,.inl rfl⟩
  ·exact(hs.2 b (Zz0 (Zzb (Zzo e) I.ok.above))).trans (I.base.keep b o e n hb hx)
  ·let⟨sl,e1⟩:=I.base.slot b o e n hb hx;exact⟨sl,(hs.2 b (Zz0 (Zzb (Zzo e) I.ok.above))).trans e1⟩
  ·let⟨o',e1⟩:=I.base.there b o e hx;exact⟨o',(hs.2 b (Zz0 (Zzb (Zzo e) I.ok.above))).trans e1⟩
  ·by_cases hj:j=i
   ·subst hj;rw[hi] at e1;cases e1;rw[Zvl hiσ] at e2;cases e2;exact⟨u,r,.inl ⟨hk,by simp⟩⟩
   ·rw[Zxr (Zza hj)] at e2;let⟨u',r',q⟩:=hl j y v' e1 e2 e3;refine⟨u',r',?_⟩;rcases q with ⟨k,e⟩ | ⟨k,c,e,z⟩
    ·refine .inl ⟨k,?_⟩;have:y≠x:=λe=>hj (R0 hN e1 (e▸hi));simp[this,e]
    ·exact .inr ⟨k,c,e,z.sameBut hs (cne y c e)⟩
  ·let⟨w',z⟩:=I.cell y c e;exact⟨w',z.sameBut hs (cne y c e)⟩
  ·let⟨e,n,ne,nf,d⟩:=I.pin p hp;exact⟨(hs.2 p.1 ne).trans e,n,ne,nf,d⟩
 ·have hfn:X.fn x=true:=by
   rcases hf with z | z
   ·exact z
   ·rw[z] at hk;cases hk
  let⟨c,hc⟩:=I.ok.has x (.inl hk);let⟨w',z⟩:=I.cell x c hc;refine wpAny_storeName_cell I.ok.kind hk hc z (λh' hc' hs=>?_);let⟨oc,hoc,hocd⟩:=id z;refine h {s with heap:=h'} ⟨I.ok,I.os,I.bare,⟨λb o e n hb hx=>?_,λb o e n hb hx=>?_,I.base.free,λb o e hx=>?_,I.base.tups,I.base.frzs,I.base.tbls⟩,⟨m,hn.sameBut hs (Zza (cne x c hc)),λj y v' e1 e2 e3=>?_⟩,λy c' e=>?_,I.free,I.freeC,λp hp=>?_,tracked ⟨oc,hoc,I.freeC x c hc⟩ hs,by simpa using I.len⟩ ⟨c,hs,.inr hc⟩
  ·exact(hs.2 b (Zz0 (Zzb (Zzo e) (I.ok.cab x c hfn hc)))).trans (I.base.keep b o e n hb hx)
  ·let⟨sl,e1⟩:=I.base.slot b o e n hb hx;exact⟨sl,(hs.2 b (Zz0 (Zzb (Zzo e) (I.ok.cab x c hfn hc)))).trans e1⟩
  ·let⟨o',e1⟩:=I.base.there b o e hx;exact⟨o',(hs.2 b (Zz0 (Zzb (Zzo e) (I.ok.cab x c hfn hc)))).trans e1⟩
  ·by_cases hj:j=i
   ·subst hj;rw[hi] at e1;cases e1;rw[Zvl hiσ] at e2;cases e2;exact⟨u,r,.inr ⟨.inl hk,c,hc,hc'⟩⟩
   ·rw[Zxr (Zza hj)] at e2;let⟨u',r',q⟩:=hl j y v' e1 e2 e3;refine⟨u',r',?_⟩;rcases q with q | ⟨k,c',e,z'⟩
    ·exact .inl q
    ·refine .inr ⟨k,c',e,z'.sameBut hs ?_⟩;rintro rfl;exact hj (R0 hN e1 (I.ok.inj _ _ _ e hc▸hi))
  ·by_cases hcc:c'=c
   ·subst hcc;exact⟨_,hc'⟩
   ·let⟨w2,z2⟩:=I.cell y c' e;exact⟨w2,z2.sameBut hs hcc⟩
  ·let⟨e,n,ne,nf,d⟩:=I.pin p hp;refine⟨(hs.2 p.1 ?_).trans e,n,ne,nf,d⟩;intro q;rw[q,hoc] at e;have q':oc=p.2:=Zzm e;exact d w' (by rw[<- q'];exact hocd)
theorem L8{Q:Unit->Shared->Prop}(I:Inv X pins σ H s)(hN:X.N.Nodup)(hi:X.N[i]?=some x)(hx:Loc X.env.scope x)(r:AE v u)
  (h:∀s',Inv X pins (σ.set i (some v)) H s'->Q () s') (hf:X.fn x=true\/X.env.scope.names.lookup x=some .local:=by first | exact .inl rfl | exact .inr rfl | assumption):wpAny M A (storeName X.env x u) Q E s :=
 Mt I hN hi hx r (λs' I' _=>h s' I') hf
theorem Inv.call'(I:Inv X pins σ H s)(ho:s'.os=s.os)(u:Un (frs X.stack) ch H H' s.heap s'.heap)(hok:HOk X.prog X.w H' s'.heap)(hg:AllBare s'.gens)
  (hch:∀b∈ch,(b∈X.ex\/X.s₀.heap.objs.size<=b)/\b≠X.env.locals/\(∀x c,X.env.cells.lookup x=some c->c≠b)/\∀p∈X.pn++pins,p.1≠b):Inv X pins σ H' s':=by
 let⟨h',g',d',t',o'⟩:=s';have e:o'=s.os:=ho;subst e;exact I.call (g':=g') (t':=t') (d':=d') u hok hg hch
end
abbrev XK:=Value->Option Addr->Hp->Prop
abbrev St:=List (Option V)
variable {σ:St}
abbrev VK:=V->Hp->Prop
abbrev TE:=St->Hp->VK->Prop
variable {ta te:TE}
abbrev TT:=St->Hp->(Bool->Hp->Prop)->Prop
abbrev TA:=St->Hp->(List V->Hp->Prop)->Prop
variable {t:TA}
structure AX where
 nx:St->Hp->Prop
 rt:VK
 bk:St->Hp->Prop:=λ_ _=>False
 ct:St->Hp->Prop:=λ_ _=>False
abbrev TS:=AX->St->Hp->Prop
def EP(X:Cx)(pins:List (Addr×Obj))(σ:St)(Q:VK)(u:Value)(s':Shared):Prop:=∃v H',Inv X pins σ H' s'/\AE v u/\Q v H'
def TP(X:Cx)(pins:List (Addr×Obj))(σ:St)(Q:Bool->Hp->Prop)(b:Bool)(s':Shared):Prop:=∃H',Inv X pins σ H' s'/\Q b H'
def AP(X:Cx)(pins:List (Addr×Obj))(σ:St)(Q:List V->Hp->Prop)(us:List Value)(s':Shared):Prop:=∃vs H',Inv X pins σ H' s'/\AC vs us/\Q vs H'
def SP(X:Cx)(pins:List (Addr×Obj))(D:AX)(f:Flow)(s':Shared):Prop :=
 match f with
 |.next=>∃σ' H',Inv X pins σ' H' s'/\D.nx σ' H'
 |.brk=>∃σ' H',Inv X pins σ' H' s'/\D.bk σ' H'
 |.cont=>∃σ' H',Inv X pins σ' H' s'/\D.ct σ' H'
 |.ret u=>∃v σ' H',Inv X pins σ' H' s'/\AE v u/\D.rt v H'
def PE(X:Cx)(e:Expr)(t:TE):Prop :=
 ∀(pins:List (Addr×Obj)) (s:Shared) (σ:St) (H:Hp) (Q:VK),Inv X pins σ H s->t σ H Q->wpAny (model X.prog X.w) X.A (eval e X.env) (EP X pins σ Q) X.xe s
def PT(X:Cx)(e:Expr)(t:TT):Prop :=
 ∀(pins:List (Addr×Obj)) (s:Shared) (σ:St) (H:Hp) (Q:Bool->Hp->Prop),Inv X pins σ H s->t σ H Q->wpAny (model X.prog X.w) X.A (isTrue e X.env (eval e X.env)) (TP X pins σ Q) X.xe s
def PW(X:Cx)(e:Expr)(t:TT):Prop :=
 ∀(whole:Sem Value) (pins:List (Addr×Obj)) (s:Shared) (σ:St) (H:Hp) (Q:Bool->Hp->Prop),Inv X pins σ H s->t σ H Q->wpAny (model X.prog X.w) X.A (isTrue e X.env whole) (TP X pins σ Q) X.xe s
theorem PW.pt{t:TT}(h:PW X e t):PT X e t:=h _
def PA(X:Cx)(es:List Expr)(t:TA):Prop :=
 ∀(pos:Pos) (pins:List (Addr×Obj)) (s:Shared) (σ:St) (H:Hp) (Q:List V->Hp->Prop),Inv X pins σ H s->t σ H Q->wpAny (model X.prog X.w) X.A (spliced (backTo pos (starEach es X.env))) (AP X pins σ Q) X.xe s
def PS(X:Cx)(st:Stmt)(t:TS):Prop :=
 ∀(pins:List (Addr×Obj)) (s:Shared) (σ:St) (H:Hp) (D:AX),Inv X pins σ H s->t D σ H->wpAny (model X.prog X.w) X.A (exec st X.env) (SP X pins D) X.xe s
def PSs(X:Cx)(st:List Stmt)(t:TS):Prop :=
 ∀(pins:List (Addr×Obj)) (s:Shared) (σ:St) (H:Hp) (D:AX),Inv X pins σ H s->t D σ H->wpAny (model X.prog X.w) X.A (execs st X.env) (SP X pins D) X.xe s
theorem thn{α:Type}{t:Sem α}{Q Q':α->Shared->Prop}(h:wpAny M A t Q E s)(hQ:∀a s,Q a s->Q' a s):wpAny M A t Q' E s:=wpAny_mono h hQ λ_ _ x=>x
section
def atS(o:Option (Option V))(Q:V->Prop):Prop:=match o with
 |some (some v)=>Q v
 |_=>False
theorem uo{Q:V->Prop}:∀{o:Option (Option V)},atS o Q->∃v,o=some (some v)/\Q v
 |some (some v),h=>⟨v,rfl,h⟩
theorem A4e{Q:V->Prop}:atS (some (some v)) Q=Q v:=rfl
def A15(i:Nat):TE:=λσ H Q=>atS σ[i]? λv=>Q v H
def tC(v:V):TE:=λ_ H Q=>Q v H
theorem A1m(hN:X.N[i]?=some x)(hv:Vis X.env.scope x)(hd:(x == ("__debug__" : Str))=false:=by decide)(hcd:(x == ("__classdict__" : Str))=false:=by decide):PE X (.Name x pos) (A15 i):=by
 intro pins s σ H Q I h;let⟨v,e,h⟩:=uo h;let⟨m,hn,hl⟩:=I.loc;let⟨u,r,l⟩:=hl i x v hN e hv;have fin:EP X pins σ Q u s:=⟨v,H,I,r,h⟩;rcases l with ⟨hk,hm⟩ | ⟨hk,c,hc,hcell⟩
 ·exact wpAny_Name (wpAny_loadName_local I.ok.kind hk hn hm fin) hd
 ·rcases hk with hk | hk
  ·exact wpAny_Name (wpAny_loadName_cell I.ok.kind hk hc hcell fin) hd
  ·exact wpAny_Name (wpAny_loadName_free I.ok.kind hk hc hcell fin hcd) hd
theorem A5{i j pos}:PE X (.Constant (.int i) j pos) (tC (.int i)):=λ_ _ _ H _ I h=>wpAny_Constant_int ⟨.int i,H,I.tok _,⟨_,rfl⟩,h⟩
theorem Di{b j pos}:PE X (.Constant (.bool b) j pos) (tC (.bl b)):=λ_ _ _ H _ I h=>Constant_bool ⟨.bl b,H,I,rfl,h⟩
theorem Dn{j pos}:PE X (.Constant .none j pos) (tC .non):=λ_ _ _ H _ I h=>Constant_none ⟨.non,H,I,rfl,h⟩
theorem Aa{x j pos}:PE X (.Constant (.str x) j pos) (tC (.str x)):=λ_ _ _ H _ I h=>Zuw ⟨.str x,H,I.tok _,⟨_,rfl⟩,h⟩
def Gl(X:Cx)(x:Str):Prop:=X.env.kindOf x=some .globalImplicit
theorem Jz(I:Inv X pins σ H s)(hg:Gl X x)(hm:X.mg x=some u)(h:Q u s)
  (hd:(x == ("__debug__" : Str))=false:=by decide):wpAny (model X.prog X.w) X.A (eval (.Name x pos) X.env) Q E s :=
 Calls.Name_function_global I.ok.kind hg (Calls.loadGlobal_global (by rw[I.ok.glob];exact I.mod.glob.keeps I.bk) hm h) hd
theorem Gz(I:Inv X pins σ H s)(hg:Gl X x)(hm:X.mg x=none)(hv:bootBuiltins x=some u)(h:Q u s)
  (hn:x ≠ "__name__" := by decide) (hd:(x == ("__debug__" : Str))=false:=by decide):wpAny (model X.prog X.w) X.A (eval (.Name x pos) X.env) Q E s:=by
 let⟨mb,h1,h2⟩:=I.mod.blt;exact Calls.Name_function_global I.ok.kind hg (Calls.loadGlobal_builtin (by rw[I.ok.glob];exact I.mod.glob.keeps I.bk) hm (by rw[I.ok.blt];exact h1.keeps I.bk) ((h2 x hn).trans hv) h) hd
theorem Du(hg:Gl X x)(hm:X.mg x=some u)(r:AE v u)(hd:(x == ("__debug__" : Str))=false:=by decide):PE X (.Name x pos) (tC v) :=
 λ_ _ _ H _ I h=>Jz I hg hm ⟨v,H,I,r,h⟩ hd
theorem Fy(hg:Gl X x)(hm:X.mg x=none)(hv:bootBuiltins x=some u)(r:AE v u)(hn:x ≠ "__name__" := by decide)(hd:(x == ("__debug__" : Str))=false:=by decide):PE X (.Name x pos) (tC v) :=
 λ_ _ _ H _ I h=>Gz I hg hm hv ⟨v,H,I,r,h⟩ hn hd
variable {a b:Expr}{tb:TE}
def PC(X:Cx)(op:CmpOp)(a b:Expr)(t:TE):Prop :=
 ∀(pins:List (Addr×Obj)) (s:Shared) (σ:St) (H:Hp) (Q:VK),Inv X pins σ H s->t σ H Q ->
  wpAny (model X.prog X.w) X.A (eval a X.env) (λv s₁=>wpAny (model X.prog X.w) X.A (eval b X.env) (λu s₂=>wpAny (model X.prog X.w) X.A (compareOp op v u) (EP X pins σ Q) X.xe s₂) X.xe s₁) X.xe s
def tB(t:TE):TT:=λσ H Q=>t σ H λx H1=>∃c,x=.bl c/\Q c H1
theorem B5{t:TE}(h:PE X e t)(he:∀whole,isTrue e X.env whole=(do let v <- whole;standAt e.pos;holding [v] (truthy v)):=by intro _;rfl):PT X e (tB t):=by
 intro pins s σ H Q I hw;refine isTrue_plain (thn (h pins s σ H _ I hw) λv s1 ⟨x,H1,I1,r1,q1⟩=>?_) (he _);let⟨d,rfl,q⟩:=q1;cases r1;exact wpAny_truthy_bool ⟨H1,I1,q⟩
variable {tA tB':TT}{AO:List Expr}
def A37(t u:TT):TT:=λσ H Q=>t σ H λc H1=>if c=true then u σ H1 Q else Q false H1
def tOr(t u:TT):TT:=λσ H Q=>t σ H λc H1=>if c=true then Q true H1 else u σ H1 Q
def A30(t:TT):TT:=λσ H Q=>t σ H λc H1=>Q (!c) H1
theorem Jv(ha:PT X a tA):PW X (.BoolOp .And [a] pos) tA:=by
 intro wh pins s σ H Q I h;refine isTrue_and (thn (ha pins s σ H Q I h) λc s1 e=>?_);cases c with
 |true=>exact isTrue_and_nil e
 |false=>exact e
theorem D1(ha:PT X a tA):PW X (.BoolOp .Or [a] pos) tA:=by
 intro wh pins s σ H Q I h;refine isTrue_or (thn (ha pins s σ H Q I h) λc s1 e=>?_);cases c with
 |false=>exact isTrue_or_nil e
 |true=>exact e
theorem Mz(ha:PT X a tA)(hb:PW X (.BoolOp .And (b::AO) pos) tB'):PW X (.BoolOp .And (a::b::AO) pos) (A37 tA tB'):=by
 intro wh pins s σ H Q I h;refine isTrue_and (thn (ha pins s σ H _ I h) λc s1 z0=>?_);let⟨H1,I1,q1⟩:=z0;cases c with
 |true=>exact hb wh pins s1 σ H1 Q I1 q1
 |false=>exact⟨H1,I1,q1⟩
theorem E8(ha:PT X a tA)(hb:PW X (.BoolOp .Or (b::AO) pos) tB'):PW X (.BoolOp .Or (a::b::AO) pos) (tOr tA tB'):=by
 intro wh pins s σ H Q I h;refine isTrue_or (thn (ha pins s σ H _ I h) λc s1 z0=>?_);let⟨H1,I1,q1⟩:=z0;cases c with
 |true=>exact⟨H1,I1,q1⟩
 |false=>exact hb wh pins s1 σ H1 Q I1 q1
theorem B1(ha:PT X a tA):PT X (.UnaryOp .Not a pos) (A30 tA):=by
 intro pins s σ H Q I h;exact isTrue_not (ha pins s σ H (λc H1=>Q (!c) H1) I h)
def A0a(ta tb:TE):TE:=λσ H Q=>ta σ H λx H1=>∃c,x=.bl c/\if c=true then tb σ H1 Q else Q (.bl false) H1
def A2z(ta tb:TE):TE:=λσ H Q=>ta σ H λx H1=>∃c,x=.bl c/\if c=true then Q (.bl true) H1 else tb σ H1 Q
def zz(ta:TE):TE:=λσ H Q=>ta σ H λx H1=>∃c,x=.bl c/\Q (.bl (!c)) H1
theorem E9{op}{t:TE}(h:PE X a t):PE X (.BoolOp op [a] pos) t:=λpins s σ H Q I hw=>BoolOp_one (h pins s σ H Q I hw)
theorem D3(ha:PE X a ta)(hb:PE X (.BoolOp .And (b::AO) pos) tb):PE X (.BoolOp .And (a::b::AO) pos) (A0a ta tb):=by
 intro pins s σ H Q I h;refine BoolOp_and (thn (ha pins s σ H _ I h) λv s1 z0=>?_);let⟨x,H1,I1,r1,q1⟩:=z0;let⟨c,rfl,q1⟩:=q1;cases r1;refine wpAny_truthy_bool ?_;cases c with
 |true=>exact hb pins s1 σ H1 Q I1 q1
 |false=>exact⟨.bl false,H1,I1,rfl,q1⟩
theorem A3g(ha:PE X a ta)(hb:PE X (.BoolOp .Or (b::AO) pos) tb):PE X (.BoolOp .Or (a::b::AO) pos) (A2z ta tb):=by
 intro pins s σ H Q I h;refine BoolOp_or (thn (ha pins s σ H _ I h) λv s1 z0=>?_);let⟨x,H1,I1,r1,q1⟩:=z0;let⟨c,rfl,q1⟩:=q1;cases r1;refine wpAny_truthy_bool ?_;cases c with
 |false=>exact hb pins s1 σ H1 Q I1 q1
 |true=>exact⟨.bl true,H1,I1,rfl,q1⟩
theorem A1o(ha:PE X a ta):PE X (.UnaryOp .Not a pos) (zz ta):=by
 intro pins s σ H Q I h;refine UnaryOp_ (thn (ha pins s σ H _ I h) λv s1 z0=>?_);let⟨x,H1,I1,r1,q1⟩:=z0;let⟨c,rfl,q1⟩:=q1;cases r1;exact not_of (wpAny_truthy_bool ⟨.bl (!c),H1,I1,rfl,q1⟩)
def tIf(t:TT)(ta tb:TE):TE:=λσ H Q=>t σ H λc H1=>if c=true then ta σ H1 Q else tb σ H1 Q
theorem Lq{c:Expr}(hc:PT X c tA)(ha:PE X a ta)(hb:PE X b tb):PE X (.IfExp c a b pos) (tIf tA ta tb):=by
 intro pins s σ H Q I h;refine wpAny_IfExp (thn (hc pins s σ H _ I h) λd s1 z0=>?_);let⟨H1,I1,q1⟩:=z0;cases d with
 |true=>exact ha pins s1 σ H1 Q I1 q1
 |false=>exact hb pins s1 σ H1 Q I1 q1
end
def SqL(K:Zzy)(H:Hp)(a:Addr)(xs:List V):Prop :=
 Rd H a (.lst xs) \/
  ∃(o:Obj) (its:Array Value) (n:Nat),K.lookup a=some o/\o.cls=.type "list" /\ o.dict=none/\o.data=.seq its n/\its.size<=sizeLine/\AC xs its.toList
def SqT(K:Zzy)(H:Hp)(a:Addr)(xs:List V):Prop :=
 Rd H a (.tup xs) \/
  ∃(o:Obj) (its:Array Value) (n:Nat),K.lookup a=some o/\o.cls=.type "tuple" /\ o.data=.seq its n/\its.size<=sizeLine/\AC xs its.toList
noncomputable def absV:Value->Option V
 |.none=>some .non
 |.bool b=>some (.bl b)
 |.int i _=>some (.int i)
 |.str x _=>some (.str x)
 |.bytes b _=>some (.byt b)
 |.float b _=>some (.flt b)
 |.ref a=>some (.ref a)
 |.type n=>some (.ty n)
 |_=>none
theorem AE.abs{x:V}(r:AE x u):absV u=some x:=by
 cases x with
 |non=>cases r;rfl
 |bl _=>cases r;rfl
 |int _=>let⟨t,rfl⟩:=r;rfl
 |str _=>let⟨t,rfl⟩:=r;rfl
 |byt _=>let⟨t,rfl⟩:=r;rfl
 |flt _=>let⟨t,rfl⟩:=r;rfl
 |ref _=>cases r;rfl
 |ty _=>cases r;rfl
theorem AE.inj{x y:V}(r:AE x u)(q:AE y u):x=y:=Zzm (r.abs.symm.trans q.abs)
theorem AC.inj:∀{xs ys:List V} {us:List Value},AC xs us->AC ys us->xs=ys
 |_,_,_,.nil,.nil=>rfl
 |_,_,_,.cons r t,.cons r' t'=>by rw[r.inj r',AC.inj t t']
section
variable {ys:List V}
theorem SqL.of(h:H a=some (.lst xs)):SqL K H a xs:=.inl (.inl h)
theorem SqT.of(h:H a=some (.tup xs)):SqT K H a xs:=.inl (.inl h)
theorem Inv.list(I:Inv X pins σ H s)(h:SqL X.K H a xs):∃its:List Value,AC xs its/\PlainL s.heap a its.toArray/\xs.length<=sizeLine:=by
 rcases h with h | ⟨o,its,n,hk,hc,hd,hs,hz,r⟩
 ·let⟨z,its,n,r,e⟩:=h.ok I.hok;exact⟨its,r,⟨_,n,e,rfl,rfl,rfl⟩,z⟩
 ·refine⟨its.toList,r,⟨o,n,I.kIn a o hk,hc,hd,by simpa using hs⟩,?_⟩;have e:=r.length;simp only[Zy8] at e;lia
theorem Inv.tuple(I:Inv X pins σ H s)(h:SqT X.K H a xs):∃its:List Value,AC xs its/\IsTup s.heap a its.toArray/\xs.length<=sizeLine:=by
 rcases h with h | ⟨o,its,n,hk,hc,hs,hz,r⟩
 ·let⟨z,its,r,p⟩:=h.ok I.hok;exact⟨its,r,p,z⟩
 ·refine⟨its.toList,r,⟨o,I.kIn a o hk,hc,n,by simpa using hs⟩,?_⟩;have e:=r.length;simp only[Zy8] at e;lia
theorem Inv.list_inj(I:Inv X pins σ H s)(h:SqL X.K H a xs)(h':SqL X.K H a ys):xs=ys:=by
 let⟨its,r,⟨o,n,e,_,_,d⟩,_⟩:=I.list h;let⟨its',r',⟨o',n',e',_,_,d'⟩,_⟩:=I.list h';rw[e] at e';cases e';rw[d] at d';injection d' with d1 _
 have:its=its':=by simpa using congrArg Array.toList d1
 subst this;exact r.inj r'
theorem Inv.tuple_inj(I:Inv X pins σ H s)(h:SqT X.K H a xs)(h':SqT X.K H a ys):xs=ys:=by
 let⟨its,r,⟨o,e,_,n,d⟩,_⟩:=I.tuple h;let⟨its',r',⟨o',e',_,n',d'⟩,_⟩:=I.tuple h';rw[e] at e';cases e';rw[d] at d';injection d' with d1 _
 have:its=its':=by simpa using congrArg Array.toList d1
 subst this;exact r.inj r'
end
abbrev Cx.wish(X:Cx)(E:Value->Shared->Prop):Cx:={X with xe:=E}
abbrev Cx.nox(X:Cx):Cx:=X.wish λ_ _=>False
theorem Cx.Ok.wish(ok:X.Ok)(E:Value->Shared->Prop):(X.wish E).Ok :=
 ⟨ok.mod,ok.kind,ok.glob,ok.blt,ok.above,ok.inj,ok.has,ok.cab,ok.hd,ok.frames,ok.stk,ok.exf,ok.bs,ok.bsz,ok.noex,ok.exfs,ok.funs,ok.frf⟩
theorem Cx.Ok.unwish(ok:(X.wish E).Ok):X.Ok :=
 ⟨ok.mod,ok.kind,ok.glob,ok.blt,ok.above,ok.inj,ok.has,ok.cab,ok.hd,ok.frames,ok.stk,ok.exf,ok.bs,ok.bsz,ok.noex,ok.exfs,ok.funs,ok.frf⟩
theorem Inv.wish(I:Inv X pins σ H s)(E:Value->Shared->Prop):Inv (X.wish E) pins σ H s:=⟨I.ok.wish E,I.os,I.bare,I.base,I.loc,I.cell,I.free,I.freeC,I.pin,I.hok,I.len⟩
theorem Inv.unwish(I:Inv (X.wish E) pins σ H s):Inv X pins σ H s:=⟨I.ok.unwish,I.os,I.bare,I.base,I.loc,I.cell,I.free,I.freeC,I.pin,I.hok,I.len⟩
theorem SP.unwish{D:AX}{f:Flow}(h:SP (X.wish E) pins D f s'):SP X pins D f s':=by
 cases f with
 |next=>let⟨σ',H',I,q⟩:=h;exact⟨σ',H',I.unwish,q⟩
 |brk=>let⟨σ',H',I,q⟩:=h;exact⟨σ',H',I.unwish,q⟩
 |cont=>let⟨σ',H',I,q⟩:=h;exact⟨σ',H',I.unwish,q⟩
 |ret u=>let⟨v,σ',H',I,r,q⟩:=h;exact⟨v,σ',H',I.unwish,r,q⟩
theorem PSs.nox{st:List Stmt}{t:TS}(h:PSs X.nox st t):PSs X st t:=λpins s σ H D I hw =>
 wpAny_mono (h pins s σ H D (I.wish _) hw) (λ_ _ q=>q.unwish) λ_ _ z=>False.elim z
section
variable {st:Stmt}{AO:List Stmt}{t u:TS}
def FL:TS:=λD σ H=>D.nx σ H
noncomputable def Kl(t u:TS):TS:=λD σ H=>t {D with nx:=u D} σ H
theorem Ai:PSs X [] FL:=λ_ _ σ H _ I h=>wpAny_execs_nil ⟨σ,H,I,h⟩
theorem A1(h1:PS X st t)(h2:PSs X AO u):PSs X (st::AO) (Kl t u):=by
 intro pins s σ H D I h;refine wpAny_execs_cons (thn (h1 pins s σ H {D with nx:=u D} I h) λf s1 q=>?_);cases f with
 |next =>
  let⟨σ',H',I',q⟩:=q;exact h2 pins s1 σ' H' D I' q
 |ret v=>exact q
 |brk=>exact q
 |cont=>exact q
theorem A3(h1:PS X st t):PSs X [st] t:=by
 intro pins s σ H D I h;refine wpAny_execs_cons (thn (h1 pins s σ H D I h) λf s1 q=>?_);cases f with
 |next=>exact wpAny_execs_nil q
 |ret v=>exact q
 |brk=>exact q
 |cont=>exact q
theorem Inv.quiet(I:Inv X pins σ H s):interactive X.env=false:=by simp[interactive,I.ok.kind]
def A08(te:TE):TS:=λD σ H=>te σ H λ_ H1=>D.nx σ H1
theorem Bm(he:PE X e te)(hs:swapsWith e none pos.line X.env=pure false:=by rfl):PS X (.Expr e pos) (A08 te):=by
 intro pins s σ H D I h;exact wpAny_Expr_any (thn (he pins s σ H _ I h) λv s1 z0=>by let⟨x,H1,I1,r1,q1⟩:=z0;exact ⟨σ,H1,I1,q1⟩) I.quiet hs
def A2y(te:TE):TS:=λD σ H=>te σ H D.rt
theorem Ad(he:PE X e te):PS X (.Return (some e) pos) (A2y te):=by
 intro pins s σ H D I h;exact wpAny_Return_some (thn (he pins s σ H _ I h) λv s1 z0=>by let⟨x,H1,I1,r1,q1⟩:=z0;exact ⟨x,σ,H1,I1,r1,q1⟩)
def A32(c:TT)(t u:TS):TS:=λD σ H=>c σ H λb H1=>if b=true then t D σ H1 else u D σ H1
theorem As{c:Expr}{a b:List Stmt}{tc:TT}(hc:PT X c tc)(ha:PSs X a t)(hb:PSs X b u):PS X (.If c a b pos) (A32 tc t u):=by
 intro pins s σ H D I h;refine wpAny_If (thn (hc pins s σ H _ I h) λd s1 z0=>?_);let⟨H1,I1,q1⟩:=z0;cases d with
 |true=>exact ha pins s1 σ H1 D I1 q1
 |false=>exact hb pins s1 σ H1 D I1 q1
def FC:TS:=λ_ _ _=>False
theorem U7{sts:List Stmt}:PSs X sts FC:=λ_ _ _ _ _ _ h=>h.elim
end
abbrev TG:=V->St->Hp->(St->Hp->Prop)->Prop
abbrev TGs:=List V->St->Hp->(St->Hp->Prop)->Prop
def PG(X:Cx)(target:Expr)(t:TG):Prop :=
 ∀(pins:List (Addr×Obj)) (s:Shared) (σ:St) (H:Hp) (v:V) (u:Value) (Q:St->Hp->Prop),Inv X pins σ H s->AE v u->t v σ H Q ->
  wpAny (model X.prog X.w) X.A (assign target X.env u) (λ_ s'=>∃σ' H',Inv X pins σ' H' s'/\Q σ' H') X.xe s
def PGs(X:Cx)(ts:List Expr)(t:TGs):Prop :=
 ∀(pins:List (Addr×Obj)) (s:Shared) (σ:St) (H:Hp) (vs:List V) (us:List Value) (Q:St->Hp->Prop),Inv X pins σ H s->AC vs us->t vs σ H Q ->
  wpAny (model X.prog X.w) X.A (assignInOrder ((assignEach ts X.env).map (·.2)) us) (λ_ s'=>∃σ' H',Inv X pins σ' H' s'/\Q σ' H') X.xe s
abbrev EH:=V->V->V->Hp->(Hp->Prop)->Prop
def vc(X:Cx)(t:EH):Prop :=
 ∀(pins:List (Addr×Obj)) (s:Shared) (σ:St) (H:Hp) (o i v:V) (ov iv u:Value) (Q:Hp->Prop),Inv X pins σ H s->AE o ov->AE i iv->AE v u->t o i v H Q ->
  wpAny (model X.prog X.w) X.A (setItem ov iv u) (λ_ s'=>∃H',Inv X pins σ H' s'/\Q H') X.xe s
abbrev TIp:=V->V->Hp->VK->Prop
def PIp(X:Cx)(op:Operator)(t:TIp):Prop :=
 ∀(pins:List (Addr×Obj)) (s:Shared) (σ:St) (H:Hp) (x y:V) (v u:Value) (Q:VK),Inv X pins σ H s->AE x v->AE y u->t x y H Q ->
  wpAny (model X.prog X.w) X.A (inplaceOp op v u) (EP X pins σ Q) X.xe s
def E3(i:Nat):TG:=λv σ H Q=>Q (σ.set i (some v)) H
theorem Ax(hN:X.N.Nodup)(hi:X.N[i]?=some x)(hx:Loc X.env.scope x)(hf:X.fn x=true\/X.env.scope.names.lookup x=some .local:=by first | exact .inl rfl | exact .inr rfl | assumption):PG X (.Name x pos) (E3 i):=by
 intro pins s σ H v u Q I r h;exact wpAny_assign_Name (L8 I hN hi hx r (λs' I'=>⟨_,H,I',h⟩) hf)
def EI:TGs:=λvs σ H Q=>vs=[]/\Q σ H
def Ki(t:TG)(u:TGs):TGs:=λvs σ H Q=>∃v r,vs=v::r/\t v σ H λσ' H'=>u r σ' H' Q
theorem Df:PGs X [] EI:=by
 intro pins s σ H vs us Q I r h;let⟨e,h⟩:=h;subst e;cases r;exact assignInOrder_nil ⟨σ,H,I,h⟩
theorem Az{t:TG}{u:TGs}(h1:PG X e t)(h2:PGs X es u)
  (hs:(assignEach (e::es) X.env).map (·.2)=assign e X.env::(assignEach es X.env).map (·.2):=by rfl):PGs X (e::es) (Ki t u):=by
 intro pins s σ H vs us Q I r h;let⟨v,vr,e1,h⟩:=h;subst e1;cases r with
 |cons r rr =>
  rw[hs];refine assignInOrder_cons (thn (h1 pins s σ H _ _ _ I r h) λ_ s1 z0=>?_);let⟨σ1,H1,I1,q1⟩:=z0;exact h2 pins s1 σ1 H1 _ _ Q I1 rr q1
def sj(K:Zzy)(n:Nat)(t:TGs):TG:=λv σ H Q=>∃a xs,v=.ref a/\SqT K H a xs/\xs.length=n/\t xs σ H Q
theorem Et{k:Nat}{t:TGs}(hc:X.calm=true)(h:PGs X es t)
  (hn:(assignEach es X.env).length=n:=by rfl) (hst:(assignEach es X.env).findIdx? (·.1)=none:=by rfl):PG X (.Tuple es k pos) (sj X.K n t):=by
 intro pins s σ H v u Q I r hw;let⟨a,xs,e1,hq,hl,hw⟩:=hw;subst e1;cases r;let⟨its,rv,ht,hz⟩:=I.tuple hq;refine assign_Tuple_tuple (I.ok.hd hc) ht (by simp[hn,<- hl,rv.length]) hst λh' hx=>?_;have I1:Inv X pins σ H {s with heap:=h'}:=I.kept (t':=s.toks) λb o e=>hx b o (Zz0 (Zzo e)) e;exact h pins _ σ H xs _ Q I1 (by simpa using rv) hw
def A44(to ti:TE)(t:EH):TG:=λv σ H Q=>to σ H λo H1=>ti σ H1 λi H2=>t o i v H2 λH3=>Q σ H3
theorem Fq{o i:Expr}{to ti:TE}{t:EH}(ho:PE X o to)(hi:PE X i ti)(hs:vc X t)
  (ha:∀v,assign (.Subscript o i pos) X.env v=(do
   let ov <- holding [v] (eval o X.env)
   let iv <- holding [v,ov] (eval i X.env)
   standAt pos
   holding [v,ov,iv] (setItem ov iv v)
   release [v,ov,iv] []):=by intro _;rfl):PG X (.Subscript o i pos) (A44 to ti t):=by
 intro pins s σ H v u Q I r h;rw[ha];refine GF (wpAny_holding (thn (ho pins s σ H _ I h) λov s1 z0=>?_));let⟨x,H1,I1,r1,q1⟩:=z0;refine GF (wpAny_holding (thn (hi pins s1 σ H1 _ I1 q1) λiv s2 z0=>?_));let⟨y,H2,I2,r2,q2⟩:=z0;refine GF (wpAny_standAt (GF (wpAny_holding (thn (hs pins s2 σ H2 x y v ov iv u _ I2 r1 r2 r q2) λ_ s3 z0=>?_))));let⟨H3,I3,q3⟩:=z0;exact wpAny_release ⟨σ,H3,I3,q3⟩
noncomputable def i4(te:TE)(g:TG):TS:=λD σ H=>te σ H λx H1=>g x σ H1 D.nx
theorem Ep{g:TG}(he:PE X e te)(hg:PG X tg g)(hs:swapsWithSole [tg] e pos.line X.env=pure false:=by rfl)(hw:swappedStores [tg] e X.env=pure none:=by rfl)
  (h1:(assignEach [tg] X.env).map (·.2)=[assign tg X.env]:=by rfl):PS X (.Assign [tg] e pos) (i4 te g):=by
 intro pins s σ H D I h;refine wpAny_Assign_stores (thn (he pins s σ H _ I h) λv s1 ⟨x,H1,I1,r1,q1⟩=>?_) hs hw;rw[h1];exact thn (hg pins s1 σ H1 x v _ I1 r1 q1) λ_ s2 q=>q
theorem N0(hN:X.N.Nodup)(hi:X.N[i]?=some x)(hx:Loc X.env.scope x)(he:PE X e te)(hs:swapsWith e (some (.Name x pos')) pos.line X.env=pure false:=by rfl)(hf:X.fn x=true\/X.env.scope.names.lookup x=some .local:=by first | exact .inl rfl | exact .inr rfl | assumption) :
  PS X (.Assign [.Name x pos'] e pos) (i4 te (E3 i)):=by
 intro pins s σ H D I h;refine wpAny_Assign_Name (thn (he pins s σ H _ I h) λv s1 ⟨y,H1,I1,r1,q1⟩=>?_) hs;exact L8 I1 hN hi hx r1 (λs2 I2=>⟨_,H1,I2,q1⟩) hf
def A36(i:Nat)(te:TE)(ti:TIp):TS:=λD σ H=>atS σ[i]? λx=>te σ H λy H1=>ti x y H1 λz H2=>D.nx (σ.set i (some z)) H2
theorem Gy{op:Operator}{ti:TIp}(hN:X.N.Nodup)(hi:X.N[i]?=some x)(hx:Loc X.env.scope x)(he:PE X e te)(ho:PIp X op ti)(hf:X.fn x=true\/X.env.scope.names.lookup x=some .local:=by first | exact .inl rfl | exact .inr rfl | assumption) :
  PS X (.AugAssign (.Name x pos') op e pos) (A36 i te ti):=by
 intro pins s σ H D I h;let⟨v,e1,h⟩:=uo h;let⟨m,hn,hl⟩:=I.loc;have vis:Vis X.env.scope x:=by rcases hx with k | k;exact .inl k;exact .inr (.inl k)
 let⟨u,r,l⟩:=hl i x v hi e1 vis;refine wpAny_AugAssign_Name ?_;have go:wpAny (model X.prog X.w) X.A (eval e X.env) (λw s₂=>wpAny (model X.prog X.w) X.A (inplaceOp op u w) (λr s₃=>wpAny (model X.prog X.w) X.A (storeName X.env x r) (λ_=>SP X pins D .next) X.xe s₃) X.xe s₂) X.xe s:=by
  refine thn (he pins s σ H _ I h) λw s1 z0=>?_;let⟨y,H1,I1,r1,q1⟩:=z0;refine thn (ho pins s1 σ H1 v y u w _ I1 r r1 q1) λz s2 z0=>?_;let⟨zv,H2,I2,r2,q2⟩:=z0;exact L8 I2 hN hi hx r2 (λs3 I3=>⟨_,H2,I3,q2⟩) hf
 rcases l with ⟨hk,hm⟩ | ⟨hk,c,hc,hcell⟩
 ·exact wpAny_loadName_local I.ok.kind hk hn hm go
 ·rcases hk with hk | hk
  ·exact wpAny_loadName_cell I.ok.kind hk hc hcell go
  ·rcases hx with k | k
   ·have:X.env.scope.names.lookup x=some .free:=hk
    rw[k] at this;cases this
   ·have:X.env.scope.names.lookup x=some .free:=hk
    rw[k] at this;cases this
def A09(to ti te:TE)(tget:V->V->Hp->VK->Prop)(tip:TIp)(tset:EH):TS:=λD σ H=>to σ H λo H1=>ti σ H1 λi H2=>tget o i H2 λx H3=>te σ H3 λy H4=>tip x y H4 λz H5=>tset o i z H5 λH6=>D.nx σ H6
def A2i(X:Cx)(t:V->V->Hp->VK->Prop):Prop :=
 ∀(pins:List (Addr×Obj)) (s:Shared) (σ:St) (H:Hp) (o i:V) (ov iv:Value) (Q:VK),Inv X pins σ H s->AE o ov->AE i iv->t o i H Q ->
  wpAny (model X.prog X.w) X.A (getItem ov iv) (EP X pins σ Q) X.xe s
theorem P8{o i:Expr}{to ti:TE}{tget:V->V->Hp->VK->Prop}{tip:TIp}{tset:EH}{op:Operator}{tpos:Pos}(ho:PE X o to)(hi:PE X i ti)(hg:A2i X tget)(he:PE X e te)(hp:PIp X op tip)(hs:vc X tset)
  (ha:∀ov iv new,augStore i ov iv new=(do holding [new,ov,iv] (setItem ov iv new);release [new,ov,iv] [];pure .next):=by intros;rfl):PS X (.AugAssign (.Subscript o i tpos) op e pos) (A09 to ti te tget tip tset):=by
 intro pins s σ H D I h;refine wpAny_AugAssign_SubscriptAny (thn (ho pins s σ H _ I h) λov s1 ⟨x1,H1,I1,r1,q1⟩=>?_) ha;refine thn (hi pins s1 σ H1 _ I1 q1) λiv s2 z0=>?_;let⟨x2,H2,I2,r2,q2⟩:=z0;refine thn (hg pins s2 σ H2 x1 x2 ov iv _ I2 r1 r2 q2) λold s3 z0=>?_;let⟨x3,H3,I3,r3,q3⟩:=z0;refine thn (he pins s3 σ H3 _ I3 q3) λv s4 z0=>?_;let⟨x4,H4,I4,r4,q4⟩:=z0;refine thn (hp pins s4 σ H4 x3 x4 old v _ I4 r3 r4 q4) λnew s5 z0=>?_;let⟨x5,H5,I5,r5,q5⟩:=z0;exact thn (hs pins s5 σ H5 x1 x2 x5 ov iv new _ I5 r1 r2 r5 q5) λ_ s6 ⟨H6,I6,q6⟩=>⟨σ,H6,I6,q6⟩
def A14(c:TT)(tb:TS):TS:=λD σ H=>∃W:Nat->St->Hp->Prop,(∃m,W m σ H)/\∀m σ H,W m σ H ->
 c σ H λb H1=>if b=true then ∃N:St->Hp->Prop,(∀σ' H',N σ' H'->∃m',m'<m/\W m' σ' H')/\tb {D with nx:=N,ct:=N,bk:=D.nx} σ H1 else D.nx σ H1
theorem Qj{c:Expr}{tc:TT}{tb:TS}(hp:PassesOwn (model X.prog X.w) X.A X.env X.xe)(hc:PT X c tc)(hb:PSs X body tb):PS X (.While c body [] pos) (A14 tc tb):=by
 intro pins s σ H D I h;let⟨W,⟨m0,w0⟩,turn⟩:=h;refine wpAny_While (codeAny_whileLoop (λn s'=>∃σ' H',Inv X pins σ' H' s'/\W n σ' H') ?_ m0 ⟨σ,H,I,w0⟩);rintro n s1 ⟨σ1,H1,I1,w1⟩;refine wpAny_passesOwn hp (thn (hc pins s1 σ1 H1 _ I1 (turn n σ1 H1 w1)) λb s2 z0=>?_);let⟨H2,I2,q2⟩:=z0;cases b with
 |true =>
  let⟨N,hN,q2⟩:=q2;rw[GE rfl];refine wpAny_passesOwn hp (thn (hb pins s2 σ1 H2 _ I2 q2) λf s3 q3=>?_);cases f with
  |next =>
   let⟨σ3,H3,I3,n3⟩:=q3;let⟨m',hm,w3⟩:=hN σ3 H3 n3;exact⟨m',hm,σ3,H3,I3,w3⟩
  |cont =>
   let⟨σ3,H3,I3,n3⟩:=q3;let⟨m',hm,w3⟩:=hN σ3 H3 n3;exact⟨m',hm,σ3,H3,I3,w3⟩
  |brk=>exact q3
  |ret v=>exact q3
 |false =>
  rw[GD Zzi];exact wpAny_execs_nil ⟨σ1,H2,I2,q2⟩
structure It where
 go:Nat->Hp->Prop
 yld:Nat->Hp->V->Hp->Prop
 stop:Nat->Hp->Prop
def Ik(X:Cx)(pins:List (Addr×Obj))(H:Hp)(b:Addr):Prop :=
 H b=none/\b≠X.env.locals/\b∉X.fs/\(b∈X.ex\/X.s₀.heap.objs.size<=b)/\(∀x c,X.env.cells.lookup x=some c->c≠b)/\∀p∈X.pn++pins,p.1≠b
theorem Inv.fpOk(I:Inv X pins σ H s)(hb:s.heap.objs.size<=b)(hn:H' b=none):Ik X pins H' b:=by
 refine⟨hn,Zxe (Zzb I.lt hb),I.nofs hb,.inr (Zzp I.sz hb),λx c e z=>?_,λp hp z=>?_⟩
 ·let⟨v,q⟩:=I.cell x c e;exact absurd (Zzb q.lt (by rw[z];exact hb)) (Zx0 _)
 ·exact absurd (Zzb (Zzo (I.pin p hp).1) (by rw[z];exact hb)) (Zx0 _)
structure Nt(P:Program)(w:World)(K:Zzy)(tg:Expr)(J:It)(fp:List Addr)(it:Addr)(tn:Nat->Heap->Prop):Prop where
 mem:it∈fp
 obj:∀i h,tn i h->∀b∈fp,∃o,h.get? b=some o/\∀v,o.data≠.cell v
 keep:∀i h h',tn i h->(∀b∈fp,∀o,h.get? b=some o->h'.get? b=some o)->tn i h'
 item:∀(X:Cx),X.prog=P->X.w=w->X.K=K->X.calm=true->∀(i:Nat) (pins:List (Addr×Obj)) (s:Shared) (σ:St) (H:Hp) (E:Value->Shared->Prop),Inv X pins σ H s->(∀b∈fp,Ik X pins H b)->tn i s.heap->J.go i H ->
  wpAny (model P w) X.A (pyNext (.ref it)) (λr s1=>∃u,r=some u /\
   wpAny (model P w) X.A (letOwnedTupleGo tg (.ref it) u) (λ_ s2=>∃x H',Inv X pins σ H' s2/\AE x u/\J.yld i H x H'/\tn (i+1) s2.heap/\∀b∈fp,H' b=none) E s1) E s
 done:∀(X:Cx),X.prog=P->X.w=w->X.K=K->X.calm=true->∀(i:Nat) (pins:List (Addr×Obj)) (s:Shared) (σ:St) (H:Hp) (E:Value->Shared->Prop),Inv X pins σ H s->(∀b∈fp,Ik X pins H b)->tn i s.heap->J.stop i H ->
  wpAny (model P w) X.A (pyNext (.ref it)) (λr s1=>r=none/\Inv X pins σ H s1) E s
 self:∀(A:Around) (i:Nat) (s:Shared) (Q:Value->Shared->Prop) (E:Value->Shared->Prop),tn i s.heap->Q (.ref it) s->wpAny (model P w) A (pyIter (.ref it)) Q E s
abbrev TI:=St->Hp->(It->Hp->Prop)->Prop
def PIE(X:Cx)(pins:List (Addr×Obj))(σ:St)(tg:Expr)(R:It->Hp->Prop)(itv:Value)(s2:Shared):Prop :=
 ∃(it:Addr) (fp:List Addr) (tn:Nat->Heap->Prop) (J:It) (H':Hp),itv=.ref it/\Inv X pins σ H' s2/\Nt X.prog X.w X.K tg J fp it tn/\tn 0 s2.heap/\(∀b∈fp,Ik X pins H' b)/\R J H'
def PI(X:Cx)(tg iter:Expr)(wi:TI):Prop :=
 ∀(pins:List (Addr×Obj)) (s:Shared) (σ:St) (H:Hp) (R:It->Hp->Prop),Inv X pins σ H s->wi σ H R ->
  wpAny (model X.prog X.w) X.A (eval iter X.env) (λv s1=>wpAny (model X.prog X.w) X.A (pyIter v) (PIE X pins σ tg R) X.xe s1) X.xe s
theorem Ue{it:Addr}{o:Obj}{n:String}{vs:Array Value}{Q:Unit->Shared->Prop}(ho:s.heap.get? it=some o)(hc:o.cls=.type n)(hd:o.data=.fields vs)
  (hn:["enumerate", "zip", "dict_itemiterator", "dict_reverseitemiterator", "odict_iterator", "itertools.zip_longest", "itertools.pairwise"].contains n=false) (hQ:Q () s):wpAny M A (letOwnedTupleGo tg (.ref it) u) Q E s:=by
 unfold letOwnedTupleGo;cases tg<;>first
  |exact GG hQ
  | (cases u<;>first
    |exact GG hQ
    | (refine GF (wpAny_load ho ?_)
       rw[hc,hd]
       show wpAny M A (if (["enumerate", "zip", "dict_itemiterator", "dict_reverseitemiterator", "odict_iterator", "itertools.zip_longest", "itertools.pairwise"].contains n&&vs[0]? == some (rawInt _))=true then _ else _) Q E s
       rw[GD (by intro h;rw[hn,Zx6] at h;cases h)]
       exact GG hQ))
noncomputable def Itl(K:Zzy)(a:Addr):It :=
 ⟨λi H=>∃xs x,SqL K H a xs/\xs[i]?=some x,λi H x H'=>H'=H/\∀xs,SqL K H a xs->xs[i]?=some x,λi H=>∃xs,SqL K H a xs/\xs.length<=i⟩
noncomputable def Itt(K:Zzy)(a:Addr):It :=
 ⟨λi H=>∃xs x,SqT K H a xs/\xs[i]?=some x,λi H x H'=>H'=H/\∀xs,SqT K H a xs->xs[i]?=some x,λi H=>∃xs,SqT K H a xs/\xs.length<=i⟩
def Itr(lo:Int)(n:Nat):It:=⟨λi _=>i<n,λi H x H'=>H'=H/\x=.int (lo+i),λi _=>n<=i⟩
theorem Ej(a it:Addr):Nt P w K tg (Itl K a) [it] it (λi h=>h.IsListIter it a i) where
 mem:=by simp
 obj:=λi h st b hb=>by
  have e:b=it:=by simpa using hb
  subst e;let⟨o,e,c,d⟩:=st;exact⟨o,e,λv z=>by rw[d] at z;cases z⟩
 keep:=λi h h' st k=>st.at λo e=>k it (by simp) o e;item:=by
  intro X hP hw hK hc i pins s σ H E I hf st hg;subst hP hw hK;let⟨xs,x,hq,hx⟩:=hg;let⟨its,rv,p,hz⟩:=I.list hq;let⟨u,hu,ru⟩:=rv.get hx;let⟨f0,f1,f2,f3,f4,f5⟩:=hf it (by simp);refine wpAny_pyNext_list_item st p.isList (x:=u) (by simpa using hu) λh' st' sb=>?_;have I1:Inv X pins σ H {s with heap:=h'}:=I.turned (t':=s.toks) (λb o hb e=>(sb.2 b hb).trans e) f0 f1 f3 f4 f5;let⟨o,e,c,d⟩:=id st';exact⟨u,rfl,Ue (s:={s with heap:=h'}) e c d (by decide) ⟨x,H,I1,ru,⟨rfl,λys hy=>by rw[I.list_inj hy hq];exact hx⟩,st',λb hb=>(hf b hb).1⟩⟩
 done:=by
  intro X hP hw hK hc i pins s σ H E I hf st hg;subst hP hw hK;let⟨xs,hq,hx⟩:=hg;let⟨its,rv,p,hz⟩:=I.list hq;let⟨f0,f1,f2,f3,f4,f5⟩:=hf it (by simp);have hl:=rv.length;exact wpAny_pyNext_list_end (I.ok.hd hc) st p.isList (by simp;lia) λh' eb=>⟨rfl,I.turned (t':=s.toks) (λb o hb e=>eb b o hb e) f0 f1 f3 f4 f5⟩
 self:=λ_ _ _ _ _ st h=>wpAny_pyIter_listiter st h
theorem Ei(a it:Addr):Nt P w K tg (Itt K a) [it] it (λi h=>h.IsTupleIter it a i) where
 mem:=by simp
 obj:=λi h st b hb=>by
  have e:b=it:=by simpa using hb
  subst e;let⟨o,e,c,d⟩:=st;exact⟨o,e,λv z=>by rw[d] at z;cases z⟩
 keep:=λi h h' st k=>st.at λo e=>k it (by simp) o e;item:=by
  intro X hP hw hK hc i pins s σ H E I hf st hg;subst hP hw hK;let⟨xs,x,hq,hx⟩:=hg;let⟨its,rv,p,hz⟩:=I.tuple hq;let⟨u,hu,ru⟩:=rv.get hx;let⟨f0,f1,f2,f3,f4,f5⟩:=hf it (by simp);refine wpAny_pyNext_tuple_item st (show s.heap.IsTuple a its.toArray from p) (x:=u) (by simpa using hu) λh' st' sb=>?_;have I1:Inv X pins σ H {s with heap:=h'}:=I.turned (t':=s.toks) (λb o hb e=>(sb.2 b hb).trans e) f0 f1 f3 f4 f5;let⟨o,e,c,d⟩:=id st';exact⟨u,rfl,Ue (s:={s with heap:=h'}) e c d (by decide) ⟨x,H,I1,ru,⟨rfl,λys hy=>by rw[I.tuple_inj hy hq];exact hx⟩,st',λb hb=>(hf b hb).1⟩⟩
 done:=by
  intro X hP hw hK hc i pins s σ H E I hf st hg;subst hP hw hK;let⟨xs,hq,hx⟩:=hg;let⟨its,rv,p,hz⟩:=I.tuple hq;let⟨f0,f1,f2,f3,f4,f5⟩:=hf it (by simp);have hl:=rv.length;exact wpAny_pyNext_tuple_end (I.ok.hd hc) st (show s.heap.IsTuple a its.toArray from p) (by simp;lia) λh' eb=>⟨rfl,I.turned (t':=s.toks) (λb o hb e=>eb b o hb e) f0 f1 f3 f4 f5⟩
 self:=λ_ _ _ _ _ st h=>wpAny_pyIter_tupleiter st h
theorem Zg(it:Addr)(lo:Int)(n:Nat):Nt P w K tg (Itr lo n) [it] it (λi h=>IsRangeIter h it (lo+(i:Nat)*1) ((n:Int) - (i:Nat)) 1) where
 mem:=by simp
 obj:=λi h st b hb=>by
  have e:b=it:=by simpa using hb
  subst e;exact⟨_,st,λv z=>by
   have z':Data.fields _=Data.cell v:=z
   cases z'⟩
 keep:=λi h h' st k=>k it (by simp) _ st;item:=by
  intro X hP hw hK hc i pins s σ H E I hf st hg;subst hP hw hK;let⟨f0,f1,f2,f3,f4,f5⟩:=hf it (by simp);have W:=Walks.range (prog:=X.prog) (w:=X.w) (I.ok.hd hc) it lo 1 n;refine W.item i s _ _ hg st λv h' tk hv st' kk=>?_;let⟨t,rfl⟩:=hv;have I1:Inv X pins σ H {s with heap:=h',toks:=tk}:=I.turned (λb o hb e=>kk b o (by simpa using hb) e) f0 f1 f3 f4 f5;refine⟨_,rfl,Ue (s:={s with heap:=h',toks:=tk}) (n := "range_iterator") st' rfl rfl (by decide) ⟨.int (lo+i),H,I1,⟨t,?_⟩,⟨rfl,rfl⟩,st',λb hb=>(hf b hb).1⟩⟩;rw[Int.mul_one]
 done:=by
  intro X hP hw hK hc i pins s σ H E I hf st hg;subst hP hw hK;let⟨f0,f1,f2,f3,f4,f5⟩:=hf it (by simp);exact wpAny_pyNext_range_end (I.ok.hd hc) st (by have:n<=i:=hg;lia) λh' eb=>⟨rfl,I.turned (t':=s.toks) (λb o hb e=>eb b o hb e) f0 f1 f3 f4 f5⟩
 self:=λ_ _ _ _ _ st h=>wpAny_pyIter_rangeiter st h
def A0m(K:Zzy)(tl:TE):TI:=λσ H R=>tl σ H λx H1=>∃a,x=.ref a/\(∃xs,SqL K H1 a xs)/\R (Itl K a) H1
theorem wn{l:Expr}{tl:TE}(hl:PE X l tl):PI X tg l (A0m X.K tl):=by
 intro pins s σ H R I h;refine thn (hl pins s σ H _ I h) λv s1 z0=>?_;let⟨x,H1,I1,r1,q1⟩:=z0;let⟨a,e,⟨xs,hq⟩,q⟩:=q1;subst e;cases r1;let⟨its,rv,p,hz⟩:=I1.list hq;refine wpAny_pyIter_list p.isList ?_;refine⟨s1.heap.objs.size,[s1.heap.objs.size],_,_,H1,rfl,I1.kept (t':=s1.toks) λb o e=>Zzv _ e,Ej a _,⟨_,Zzj _ rfl,rfl,rfl⟩,λb hb=>?_,q⟩;have e:b=s1.heap.objs.size:=by simpa using hb
 subst e;exact I1.fpOk (Zzu _) (I1.hok.fresh (Zzu _))
theorem nj{R:It->Hp->Prop}{lo hi:Int}{t u v:Tok}{tk:Nat}(I:Inv X pins σ H s)(h1:-(2^62)<=lo)(h2:lo<2^62)(h3:-(2^62)<=hi)(h4:hi<2^62)
  (q:R (Itr lo (hi - lo).toNat) H):wpAny (model X.prog X.w) X.A (pyIter (.ref s.heap.objs.size)) (PIE X pins σ tg R) E {s with heap:=s.heap.push {cls:=.type "range",data:=.fields #[.int lo t,.int hi u,.int 1 v]},toks:=tk}:=by
 refine wpAny_pyIter_range (IsRange.new ..) (small_one h1 h2 h3 h4) ?_;have I1:Inv X pins σ H {s with heap:=s.heap.push {cls:=.type "range",data:=.fields #[.int lo t,.int hi u,.int 1 v]},toks:=tk}:=I.kept λb o e=>Zzv _ e;refine⟨(s.heap.push {cls:=.type "range",data:=.fields #[.int lo t,.int hi u,.int 1 v]}).objs.size,[(s.heap.push {cls:=.type "range",data:=.fields #[.int lo t,.int hi u,.int 1 v]}).objs.size],_,_,H,rfl,
  I1.kept (t':=tk) λb o e=>Zzv _ e,Zg _ lo (hi - lo).toNat,?_,λb hb=>?_,q⟩
 ·have e1:lo+((0:Nat):Int)*1=lo:=by simp
  have e2:(((hi - lo).toNat:Nat):Int) - ((0:Nat):Int)=Builtin.Range.rangeSize lo hi 1:=by rw[rangeSize_one];split<;>lia
  show IsRangeIter _ _ (lo+((0:Nat):Int)*1) ((((hi - lo).toNat:Nat):Int) - ((0:Nat):Int)) 1;rw[e1,e2];exact Zzj _ rfl
 ·have e:b=(s.heap.push {cls:=.type "range",data:=.fields #[.int lo t,.int hi u,.int 1 v]}).objs.size:=by simpa using hb
  subst e;exact I1.fpOk (Zzu _) (I1.hok.fresh (Zzu _))
def rn(ta:TA):TI:=λσ H R=>ta σ H λvs H1=>∃j:Int,vs=[.int j]/\-(2^62)<=j/\j<2^62/\R (Itr 0 j.toNat) H1
theorem ib{a:Expr}{ta:TA}{p:Pos}(hg:Gl X "range")(hm:X.mg "range" = none)(ha:PA X [a] ta)(hs:starEach [a] X.env=[(false,eval a X.env)]:=by rfl):PI X tg (.Call (.Name "range" p) [a] [] pos) (rn ta):=by
 intro pins s σ H R I h;refine Call_ (Gz I hg hm boot_range (Zxp (thn (ha pos pins s σ H _ I h) λus s1 ⟨vs,H1,I1,r1,q1⟩=>?_) hs rfl));let⟨j,e,q1,q2,q⟩:=q1;subst e;cases r1 with
 |cons r rr =>
  cases rr;let⟨t,rfl⟩:=r;exact call_range_1 (nj I1 (by lia) (by lia) q1 q2 (by simpa using q))
def A34(wi:TI)(g:TG)(tb:TS):TS:=λD σ H=>wi σ H λJ H1=>∃W:Nat->Nat->St->Hp->Prop,(∃m,W 0 m σ H1)/\∀i m σ H,W i m σ H ->
 (J.stop i H/\D.nx σ H)\/(J.go i H/\∃N:St->Hp->Prop,(∀σ' H',N σ' H'->∃m',m'<m/\W (i+1) m' σ' H')/\∀x H',J.yld i H x H'->g x σ H' λσ2 H2=>tb {D with nx:=N,ct:=N,bk:=D.nx} σ2 H2)
def Jd(fp:List Addr)(h:Heap):List (Addr×Obj):=fp.filterMap λb=>(h.get? b).map λo=>(b,o)
theorem Eu{o:Obj}(hb:b∈fp)(e:h.get? b=some o):(b,o)∈Jd fp h:=Zx5.mpr ⟨b,hb,by rw[e];rfl⟩
theorem iw{p:Addr×Obj}(hp:p∈Jd fp h):p.1∈fp/\h.get? p.1=some p.2:=by
 let⟨b,hb,e⟩:=Zx5.mp hp;cases q:h.get? b with
 |none=>rw[q] at e;cases e
 |some o =>
  rw[q] at e;have e':(b,o)=p:=Zzm e;subst e';exact⟨hb,q⟩
theorem Inv.pinned(I:Inv X pins σ H s)(hf:∀b∈fp,Ik X pins H b)(ho:∀b∈fp,∃o,s.heap.get? b=some o/\∀v,o.data≠.cell v):Inv X (pins++Jd fp s.heap) σ H s :=
 I.pins_of λp hp=>(Zz3.mp hp).elim (λz=>I.pin p (Zze _ z)) λz=>by
  let⟨hb,e⟩:=iw z;let⟨f0,f1,f2,_⟩:=hf p.1 hb;let⟨o,e',d⟩:=ho p.1 hb;rw[e] at e';cases e';exact⟨e,f0,f1,f2,d⟩
theorem Inv.unpinned(I:Inv X (pins++pl) σ H s):Inv X pins σ H s:=I.pins_of λp hp=>I.pin p (Zze _ (Zyi _ hp))
theorem Bj{wi:TI}{g:TG}{tb:TS}(hp:PassesOwn (model X.prog X.w) X.A X.env X.xe)(hc:X.calm=true)(hi:PI X tg iter wi)(hg:PG X tg g)(hb:PSs X body tb)
  (hs:∀x,foldedSetIterable iter X.env x=pure x:=by intro _;rfl):PS X (.For tg iter body [] pos) (A34 wi g tb):=by
 intro pins s σ H D I h;refine wpAny_For (thn (hi pins s σ H _ I h) λv s1 h1=>thn h1 λitv s2 h2=>?_) hs;let⟨it,fp,tn,J,H2,e,I2,T,st2,f2,W,⟨m0,w0⟩,turn⟩:=h2;subst e;have stat:∀{H':Hp},(∀b∈fp,H' b=none)->∀b∈fp,Ik X pins H' b:=λhn b hb=>⟨hn b hb,(f2 b hb).2⟩;refine codeAny_forLoop_any (λn s'=>∃i σ' H',Inv X pins σ' H' s'/\tn i s'.heap/\(∀b∈fp,H' b=none)/\W i n σ' H') ?_ m0 ⟨0,σ,H2,I2,st2,λb hb=>(f2 b hb).1,w0⟩;rintro n s3 ⟨i,σ3,H3,I3,st3,fr3,w3⟩;rcases turn i n σ3 H3 w3 with ⟨stop,qn⟩ | ⟨go,N,hN,step⟩
 ·refine wpAny_passesOwn hp (thn (T.done X rfl rfl rfl hc i pins s3 σ3 H3 X.xe I3 (stat fr3) st3 stop) λr s4 z0=>?_);let⟨hr,I4⟩:=z0;subst hr;exact wpAny_execs_nil ⟨σ3,H3,I4,qn⟩
 ·refine wpAny_passesOwn hp (thn (T.item X rfl rfl rfl hc i pins s3 σ3 H3 X.xe I3 (stat fr3) st3 go) λr s4 z0=>?_);let⟨u,hr,h4⟩:=z0;subst hr;refine wpAny_passesOwn hp (thn h4 λ_ s5 z0=>?_);let⟨x,H5,I5,r5,y5,st5,fr5⟩:=z0;have I5':=I5.pinned (stat fr5) (T.obj _ _ st5);refine wpAny_passesOwn hp (thn (hg _ s5 σ3 H5 x u _ I5' r5 (step x H5 y5)) λ_ s6 z0=>?_);let⟨σ6,H6,I6,q6⟩:=z0;refine wpAny_passesOwn hp (thn (hb _ s6 σ6 H6 _ I6 q6) λf s7 q7=>?_);have again:∀{σ7:St} {H7:Hp},Inv X (pins++Jd fp s5.heap) σ7 H7 s7->N σ7 H7->∃m,m<n/\∃i σ' H',Inv X pins σ' H' s7/\tn i s7.heap/\(∀b∈fp,H' b=none)/\W i m σ' H':=λ{σ7 H7} I7 n7=>by
   let⟨m',hm,w7⟩:=hN σ7 H7 n7;refine⟨m',hm,i+1,σ7,H7,I7.unpinned,T.keep _ _ _ st5 λb hb o e=>(I7.pin (b,o) (Zze _ (Zze _ (Eu hb e)))).1,λb hb=>?_,w7⟩;let⟨o,e,d⟩:=T.obj _ _ st5 b hb;exact(I7.pin (b,o) (Zze _ (Zze _ (Eu hb e)))).2.1
  cases f with
  |next=>let⟨σ7,H7,I7,n7⟩:=q7;exact again I7 n7
  |cont=>let⟨σ7,H7,I7,n7⟩:=q7;exact again I7 n7
  |brk=>let⟨σ7,H7,I7,q7⟩:=q7;exact⟨σ7,H7,I7.unpinned,q7⟩
  |ret v=>let⟨x7,σ7,H7,I7,r7,q7⟩:=q7;exact⟨x7,σ7,H7,I7.unpinned,r7,q7⟩
theorem sk{g:TG}{tb:TS}{D:AX}(Pv:Nat->St->Hp->Prop)(h0:Pv 0 σ H)(hl:∀i σ H,i<=xs.length->Pv i σ H->SqL K H a xs)
  (hs:∀i x σ H,xs[i]?=some x->Pv i σ H->g x σ H λσ2 H2=>tb {D with nx:=Pv (i+1),ct:=Pv (i+1),bk:=D.nx} σ2 H2) (hd:∀σ H,Pv xs.length σ H->D.nx σ H) :
  ∃W:Nat->Nat->St->Hp->Prop,(∃m,W 0 m σ H)/\∀i m σ H,W i m σ H ->
   ((Itl K a).stop i H/\D.nx σ H)\/((Itl K a).go i H/\∃N:St->Hp->Prop,(∀σ' H',N σ' H'->∃m',m'<m/\W (i+1) m' σ' H')/\∀x H',(Itl K a).yld i H x H'->g x σ H' λσ2 H2=>tb {D with nx:=N,ct:=N,bk:=D.nx} σ2 H2):=by
 refine⟨λi m σ H=>m=xs.length - i/\i<=xs.length/\Pv i σ H,⟨xs.length,by simp,Zyl _,h0⟩,?_⟩;rintro i m σ H ⟨rfl,hi,p⟩;have q:=hl i σ H hi p;by_cases hlt:i<xs.length
 ·refine .inr ⟨⟨xs,xs[i],q,by simp[hlt]⟩,Pv (i+1),λσ' H' p'=>⟨xs.length - (i+1),by lia,rfl,hlt,p'⟩,λx H' y=>?_⟩;let⟨e,y⟩:=y;subst e;exact hs i x σ _ (y xs q) p
 ·have e:i=xs.length:=by lia
  subst e;exact .inl ⟨⟨xs,q,Zzu _⟩,hd σ H p⟩
abbrev R2:=V->V->Hp->VK->Prop
def OpR(X:Cx)(f:Value->Value->Sem Value)(r:R2):Prop :=
 ∀(pins:List (Addr×Obj)) (s:Shared) (σ:St) (H:Hp) (x y:V) (v u:Value) (Q:VK),Inv X pins σ H s->AE x v->AE y u->r x y H Q ->
  wpAny (model X.prog X.w) X.A (f v u) (EP X pins σ Q) X.xe s
def UnR(X:Cx)(f:Value->Sem Value)(r:V->Hp->VK->Prop):Prop :=
 ∀(pins:List (Addr×Obj)) (s:Shared) (σ:St) (H:Hp) (x:V) (v:Value) (Q:VK),Inv X pins σ H s->AE x v->r x H Q ->
  wpAny (model X.prog X.w) X.A (f v) (EP X pins σ Q) X.xe s
def AI(X:Cx)(f:Value)(r:List V->Hp->VK->Prop):Prop :=
 ∀(pins:List (Addr×Obj)) (s:Shared) (σ:St) (H:Hp) (xs:List V) (us:List Value) (Q:VK),Inv X pins σ H s->AC xs us->r xs H Q ->
  wpAny (model X.prog X.w) X.A (call f us) (EP X pins σ Q) X.xe s
def TruR(X:Cx)(r:V->Hp->(Bool->Hp->Prop)->Prop):Prop :=
 ∀(pins:List (Addr×Obj)) (s:Shared) (σ:St) (H:Hp) (x:V) (v:Value) (Q:Bool->Hp->Prop),Inv X pins σ H s->AE x v->r x H Q ->
  wpAny (model X.prog X.w) X.A (truthy v) (TP X pins σ Q) X.xe s
def tOp(r:R2)(ta tb:TE):TE:=λσ H Q=>ta σ H λx H1=>tb σ H1 λy H2=>r x y H2 Q
def tUn(r:V->Hp->VK->Prop)(ta:TE):TE:=λσ H Q=>ta σ H λx H1=>r x H1 Q
def rI(C:Int->Int->Prop)(g:Int->Int->V):R2:=λx y H Q=>∃i j,x=.int i/\y=.int j/\C i j/\Q (g i j) H
def rI0(g:Int->Int->V):R2:=λx y H Q=>∃i j,x=.int i/\y=.int j/\Q (g i j) H
def rU(g:Int->V):V->Hp->VK->Prop:=λx H Q=>∃i,x=.int i/\Q (g i) H
section
variable {a b c:Expr}{tb tc:TE}
theorem A2e(ha:PE X a ta)(hb:PE X b tb){R:V->V->Hp->Prop}(I:Inv X pins σ H s)
  (h:ta σ H λx H1=>tb σ H1 λy H2=>R x y H2) {Q:Value->Shared->Prop} {f:Value->Value->Sem Value}
  (hf:∀v u s2 x y H2,Inv X pins σ H2 s2->AE x v->AE y u->R x y H2->wpAny (model X.prog X.w) X.A (f v u) Q X.xe s2) :
  wpAny (model X.prog X.w) X.A (eval a X.env) (λv s₁=>wpAny (model X.prog X.w) X.A (eval b X.env) (λu s₂=>wpAny (model X.prog X.w) X.A (f v u) Q X.xe s₂) X.xe s₁) X.xe s:=by
 refine thn (ha pins s σ H _ I h) λv s1 z0=>?_;let⟨x,H1,I1,r1,q1⟩:=z0;refine thn (hb pins s1 σ H1 _ I1 q1) λu s2 z0=>?_;let⟨y,H2,I2,r2,q2⟩:=z0;exact hf v u s2 x y H2 I2 r1 r2 q2
theorem Ae{op:Operator}{r:R2}(ho:OpR X (binaryOp op) r)(ha:PE X a ta)(hb:PE X b tb):PE X (.BinOp a op b pos) (tOp r ta tb):=by
 intro pins s σ H Q I h;exact wpAny_BinOp (A2e ha hb I h λv u s2 x y H2 I2 rx ry q=>ho pins s2 σ H2 x y v u Q I2 rx ry q)
theorem Qm{op:UnaryOp}{r:V->Hp->VK->Prop}(ho:UnR X (unaryOp op) r)(ha:PE X a ta):PE X (.UnaryOp op a pos) (tUn r ta):=by
 intro pins s σ H Q I h;exact UnaryOp_ (thn (ha pins s σ H _ I h) λv s1 z0=>by let⟨x,H1,I1,r1,q1⟩:=z0;exact ho pins s1 σ H1 x v Q I1 r1 q1)
theorem opI{f:Value->Value->Sem Value}{C:Int->Int->Prop}{g:Int->Int->Int}
  (rule:∀(i j:Int) (t u:Tok) (s:Shared) (Q:Value->Shared->Prop) (E:Value->Shared->Prop),C i j->Q (.int (g i j) s.toks) {s with toks:=s.toks+1}->wpAny (model X.prog X.w) X.A (f (.int i t) (.int j u)) Q E s) :
  OpR X f (rI C λi j=>.int (g i j)):=by
 intro pins s σ H x y v u Q I rx ry h;let⟨i,j,rfl,rfl,hc,q⟩:=h;let⟨t,rfl⟩:=rx;let⟨t',rfl⟩:=ry;exact rule i j t t' s _ _ hc ⟨.int (g i j),H,I.tok _,⟨_,rfl⟩,q⟩
theorem xb{f:Value->Value->Sem Value}{g:Int->Int->Int}
  (rule:∀(i j:Int) (t u:Tok) (s:Shared) (Q:Value->Shared->Prop) (E:Value->Shared->Prop),Q (.int (g i j) s.toks) {s with toks:=s.toks+1}->wpAny (model X.prog X.w) X.A (f (.int i t) (.int j u)) Q E s) :
  OpR X f (rI0 λi j=>.int (g i j)):=by
 intro pins s σ H x y v u Q I rx ry h;let⟨i,j,rfl,rfl,q⟩:=h;let⟨t,rfl⟩:=rx;let⟨t',rfl⟩:=ry;exact rule i j t t' s _ _ ⟨.int (g i j),H,I.tok _,⟨_,rfl⟩,q⟩
theorem xc{f:Value->Value->Sem Value}{g:Int->Int->Bool}
  (rule:∀(i j:Int) (t u:Tok) (s:Shared) (Q:Value->Shared->Prop) (E:Value->Shared->Prop),Q (.bool (g i j)) s->wpAny (model X.prog X.w) X.A (f (.int i t) (.int j u)) Q E s) :
  OpR X f (rI0 λi j=>.bl (g i j)):=by
 intro pins s σ H x y v u Q I rx ry h;let⟨i,j,rfl,rfl,q⟩:=h;let⟨t,rfl⟩:=rx;let⟨t',rfl⟩:=ry;exact rule i j t t' s _ _ ⟨.bl (g i j),H,I,rfl,q⟩
def CPow(i j:Int):Prop:=0<=j/\j<=1000000/\i.natAbs<2^64
def EJ(i j:Int):Prop:=(-(2^64)<i/\i<2^64)\/(-(2^64)<j/\j<2^64)
theorem EJ.ok{i j:Int}(h:EJ i j):IntMulOk i j:=by
 rcases h with ⟨h1,h2⟩ | ⟨h1,h2⟩
 ·exact .of_left (intBits_le_64 h1 h2)
 ·exact .of_right (intBits_le_64 h1 h2)
theorem D4:OpR X (binaryOp .Add) (rI0 λi j=>.int (i+j)):=xb λ_ _ _ _ _ _ _ q=>add_int q
theorem N1:OpR X (binaryOp .Sub) (rI0 λi j=>.int (i - j)):=xb λ_ _ _ _ _ _ _ q=>sub_int q
theorem oq:OpR X (binaryOp .Mult) (rI EJ λi j=>.int (i*j)):=opI λ_ _ _ _ _ _ _ hc q=>mul_int q hc.ok
theorem Ks:OpR X (binaryOp .Mod) (rI (λ_ j=>0<j) λi j=>.int (i % j)):=opI λi j _ _ _ _ _ hc q=>by
 have h1:(0:Int)<j:=hc;exact mod_int' (by lia) (by rw[Int.fmod_eq_emod_of_nonneg i (by lia)];exact q)
theorem Zz:OpR X (binaryOp .Pow) (rI CPow λi j=>.int (i^j.toNat)):=opI λ_ _ _ _ _ _ _ hc q=>pow_int_small hc.1 hc.2.1 hc.2.2 q
theorem yj:OpR X (inplaceOp .Add) (rI0 λi j=>.int (i+j)):=xb λ_ _ _ _ _ _ _ q=>iadd_int q
theorem yi:OpR X (inplaceOp .Sub) (rI0 λi j=>.int (i - j)):=xb λ_ _ _ _ _ _ _ q=>isub_int q
theorem unI{f:Value->Sem Value}{g:Int->Int}
  (rule:∀(i:Int) (t:Tok) (s:Shared) (Q:Value->Shared->Prop) (E:Value->Shared->Prop),Q (.int (g i) s.toks) {s with toks:=s.toks+1}->wpAny (model X.prog X.w) X.A (f (.int i t)) Q E s) :
  UnR X f (rU λi=>.int (g i)):=by
 intro pins s σ H x v Q I rx h;let⟨i,rfl,q⟩:=h;let⟨t,rfl⟩:=rx;exact rule i t s _ _ ⟨.int (g i),H,I.tok _,⟨_,rfl⟩,q⟩
theorem Kk:UnR X (unaryOp .USub) (rU λi=>.int (-i)):=unI λ_ _ _ _ _ q=>neg_int q
end
def w6:V->V->Bool
 |.non,.non=>true | .non,.int _=>true | .int _,.non=>true | .non,.bl _=>true | .bl _,.non=>true | .non,.str _=>true | .str _,.non=>true
 |.int _,.int _=>true | .bl _,.bl _=>true | .str _,.str _=>true | .byt _,.byt _=>true
 |.int _,.str _=>true | .str _,.int _=>true | .bl _,.str _=>true | .str _,.bl _=>true
 |_,_=>false
def rEq:R2:=λx y H Q=>w6 x y=true/\Q (.bl (decide (x=y))) H
def rNe:R2:=λx y H Q=>w6 x y=true/\Q (.bl (!decide (x=y))) H
theorem gg{i j:Int}:decide (V.int i=V.int j)=(i == j):=by
 rw[Zw3];simp
theorem tf{i j:Bool}:decide (V.bl i=V.bl j)=(i == j):=by
 rw[Zw3];simp
theorem gc{i j:Str}:decide (V.str i=V.str j)=(i == j):=by
 rw[Zw3];simp
theorem gh{i j:Array UInt8}:decide (V.byt i=V.byt j)=(i.toList == j.toList):=by
 rw[Zw3];cases i;cases j;simp
section
variable {a b c:Expr}{tb tc:TE}
theorem Bg{Q:VK}{k k':Bool}(I:Inv X pins σ H s)(q:Q (.bl k) H)(e:k=k'):EP X pins σ Q (.bool k') s:=by
 subst e;exact⟨.bl k,H,I,rfl,q⟩
theorem A3k:OpR X (compareOp .Eq) rEq:=by
 intro pins s σ H x y v u Q I rx ry h;let⟨hs,q⟩:=h;cases x with
 |non =>
  cases rx;cases y with
  |non=>cases ry;exact PySem.EqNone.eq_none_none (Bg I q (by simp))
  |bl j=>cases ry;exact PySem.EqNone.eq_none_bool (Bg I q (by simp))
  |int j=>let⟨t',rfl⟩:=ry;exact PySem.EqNone.eq_none_int (Bg I q (by simp))
  |str j=>let⟨t',rfl⟩:=ry;exact PySem.EqNone.eq_none_str (Bg I q (by simp))
  |_=>exact absurd (show false=true from hs) Zzi
 |bl i =>
  cases rx;cases y with
  |non=>cases ry;exact PySem.EqNone.eq_bool_none (Bg I q (by simp))
  |bl j=>cases ry;exact eq_bool (Bg I q tf)
  |str j=>let⟨t',rfl⟩:=ry;exact PySem.EqMixed.eq_bool_str (Bg I q (by simp))
  |_=>exact absurd (show false=true from hs) Zzi
 |int i =>
  let⟨t,rfl⟩:=rx;cases y with
  |non=>cases ry;exact PySem.EqNone.eq_int_none (Bg I q (by simp))
  |int j=>let⟨t',rfl⟩:=ry;exact eq_int (Bg I q gg)
  |str j=>let⟨t',rfl⟩:=ry;exact PySem.EqMixed.eq_int_str (Bg I q (by simp))
  |_=>exact absurd (show false=true from hs) Zzi
 |str i =>
  let⟨t,rfl⟩:=rx;cases y with
  |non=>cases ry;exact PySem.EqNone.eq_str_none (Bg I q (by simp))
  |bl j=>cases ry;exact PySem.EqMixed.eq_str_bool (Bg I q (by simp))
  |int j=>let⟨t',rfl⟩:=ry;exact PySem.EqMixed.eq_str_int (Bg I q (by simp))
  |str j=>let⟨t',rfl⟩:=ry;exact eq_str (Bg I q gc)
  |_=>exact absurd (show false=true from hs) Zzi
 |byt i =>
  let⟨t,rfl⟩:=rx;cases y with
  |byt j=>let⟨t',rfl⟩:=ry;exact PySem.W.eq_bytes (Bg I q gh)
  |_=>exact absurd (show false=true from hs) Zzi
 |_=>cases y<;>exact absurd (show false=true from hs) Zzi
theorem A3i:OpR X (compareOp .NotEq) rNe:=by
 intro pins s σ H x y v u Q I rx ry h;let⟨hs,q⟩:=h;cases x with
 |non =>
  cases rx;cases y with
  |non=>cases ry;exact PySem.EqNone.ne_none_none (Bg I q (by simp))
  |bl j=>cases ry;exact PySem.EqNone.ne_none_bool (Bg I q (by simp))
  |int j=>let⟨t',rfl⟩:=ry;exact PySem.EqNone.ne_none_int (Bg I q (by simp))
  |str j=>let⟨t',rfl⟩:=ry;exact PySem.EqNone.ne_none_str (Bg I q (by simp))
  |_=>exact absurd (show false=true from hs) Zzi
 |bl i =>
  cases rx;cases y with
  |non=>cases ry;exact PySem.EqNone.ne_bool_none (Bg I q (by simp))
  |bl j=>cases ry;exact ne_bool (Bg I q (congrArg not tf))
  |str j=>let⟨t',rfl⟩:=ry;exact PySem.EqMixed.ne_bool_str (Bg I q (by simp))
  |_=>exact absurd (show false=true from hs) Zzi
 |int i =>
  let⟨t,rfl⟩:=rx;cases y with
  |non=>cases ry;exact PySem.EqNone.ne_int_none (Bg I q (by simp))
  |int j=>let⟨t',rfl⟩:=ry;exact ne_int (Bg I q (congrArg not gg))
  |str j=>let⟨t',rfl⟩:=ry;exact PySem.EqMixed.ne_int_str (Bg I q (by simp))
  |_=>exact absurd (show false=true from hs) Zzi
 |str i =>
  let⟨t,rfl⟩:=rx;cases y with
  |non=>cases ry;exact PySem.EqNone.ne_str_none (Bg I q (by simp))
  |bl j=>cases ry;exact PySem.EqMixed.ne_str_bool (Bg I q (by simp))
  |int j=>let⟨t',rfl⟩:=ry;exact PySem.EqMixed.ne_str_int (Bg I q (by simp))
  |str j=>let⟨t',rfl⟩:=ry;exact ne_str (Bg I q (congrArg not gc))
  |_=>exact absurd (show false=true from hs) Zzi
 |byt i =>
  let⟨t,rfl⟩:=rx;cases y with
  |byt j=>let⟨t',rfl⟩:=ry;exact PySem.W.ne_bytes (Bg I q (congrArg not gh))
  |_=>exact absurd (show false=true from hs) Zzi
 |_=>cases y<;>exact absurd (show false=true from hs) Zzi
theorem A3j:OpR X (compareOp .Lt) (rI0 λi j=>.bl (decide (i<j))):=xc λ_ _ _ _ _ _ _ q=>lt_int q
theorem Lr:OpR X (compareOp .LtE) (rI0 λi j=>.bl (decide (i<=j))):=xc λ_ _ _ _ _ _ _ q=>le_int q
theorem Xu:OpR X (compareOp .Gt) (rI0 λi j=>.bl (decide (j<i))):=xc λ_ _ _ _ _ _ _ q=>gt_int q
theorem Xv:OpR X (compareOp .GtE) (rI0 λi j=>.bl (decide (j<=i))):=xc λ_ _ _ _ _ _ _ q=>ge_int q
theorem ii:OpR X (compareOp .In) (λx y H Q=>∃i j,x=.str i/\y=.str j/\Q (.bl (!(Zvp j i 0 j.length 1).isEmpty)) H):=by
 intro pins s σ H x y v u Q I rx ry h;let⟨i,j,rfl,rfl,q⟩:=h;let⟨t,rfl⟩:=rx;let⟨t',rfl⟩:=ry;exact in_str (Bg I q rfl)
theorem A1q:OpR X (compareOp .Is) (λx y H Q=>y=.non/\Q (.bl (decide (x=.non))) H):=by
 intro pins s σ H x y v u Q I rx ry h;let⟨rfl,q⟩:=h;cases ry;refine is_none_gen (Bg I q ?_);cases x<;>first
  | (cases rx;rfl)
  | (let⟨t,rfl⟩:=rx;rfl)
theorem wy:OpR X (compareOp .IsNot) (λx y H Q=>y=.non/\Q (.bl (!decide (x=.non))) H):=by
 intro pins s σ H x y v u Q I rx ry h;let⟨rfl,q⟩:=h;cases ry;refine isnot_none_gen (Bg I q ?_);cases x<;>first
  | (cases rx;rfl)
  | (let⟨t,rfl⟩:=rx;rfl)
theorem OpR.or{f:Value->Value->Sem Value}{r r':R2}(h:OpR X f r)(h':OpR X f r'):OpR X f (λx y H Q=>r x y H Q\/r' x y H Q):=by
 intro pins s σ H x y v u Q I rx ry q;rcases q with q | q
 ·exact h pins s σ H x y v u Q I rx ry q
 ·exact h' pins s σ H x y v u Q I rx ry q
theorem Ak(b:Expr){op:CmpOp}(h:op≠.In:=by decide)(h2:op≠.NotIn:=by decide):behindInMarks op b=false:=by
 have e1:(op == CmpOp.In)=false:=by cases op<;>first | rfl | exact absurd rfl h
 have e2:(op == CmpOp.NotIn)=false:=by cases op<;>first | rfl | exact absurd rfl h2
 cases b<;>simp[behindInMarks,e1,e2]
theorem Bt{op:CmpOp}{r:R2}(ho:OpR X (compareOp op) r)(ha:PE X a ta)(hb:PE X b tb)(hm:behindInMarks op b=false):PE X (.Compare a [op] [b] pos) (tOp r ta tb):=by
 intro pins s σ H Q I h;exact wpAny_Compare1 (A2e ha hb I h λv u s2 x y H2 I2 rx ry q=>ho pins s2 σ H2 x y v u Q I2 rx ry q) hm
def lg(t:TE):TT:=λσ H Q=>t σ H λx H'=>∃k,x=.bl k/\Q k H'
theorem Aj{op:CmpOp}{r:R2}(ho:OpR X (compareOp op) r)(ha:PE X a ta)(hb:PE X b tb)(hm:behindInMarks op b=false):PT X (.Compare a [op] [b] pos) (lg (tOp r ta tb)):=by
 intro pins s σ H Q I h;refine wpAny_isTrue_Compare1 (thn (ha pins s σ H _ I h) λv s1 ⟨x,H1,I1,r1,q1⟩=>thn (hb pins s1 σ H1 _ I1 q1) λu s2 ⟨y,H2,I2,r2,q2⟩ =>
  thn (ho pins s2 σ H2 x y v u _ I2 r1 r2 q2) λc s3 ⟨z,H3,I3,r3,k,e,q3⟩=>?_) hm
 subst e;cases r3;exact wpAny_truthy_bool ⟨H3,I3,q3⟩
def Zo(r r':R2)(ta tb tc:TE):TE:=λσ H Q=>ta σ H λx H1=>tb σ H1 λy H2=>r x y H2 λz H3=>∃k,z=.bl k /\
 (if k=true then tc σ H3 λw' H4=>r' y w' H4 Q else Q (.bl false) H3)
theorem oh{op op':CmpOp}{r r':R2}(ho:OpR X (compareOp op) r)(ho':OpR X (compareOp op') r')(ha:PE X a ta)(hb:PE X b tb)(hc:PE X c tc)
  (hm:lastMarks [op,op'] [b,c]=false:=by with_unfolding_all rfl):PE X (.Compare a [op,op'] [b,c] pos) (Zo r r' ta tb tc):=by
 intro pins s σ H Q I h;refine Compare_chain (thn (ha pins s σ H _ I h) λv s1 ⟨x,H1,I1,r1,q1⟩=>chain_link (thn (hb pins s1 σ H1 _ I1 q1) λu s2 ⟨y,H2,I2,r2,q2⟩ =>
  thn (ho pins s2 σ H2 x y v u _ I2 r1 r2 q2) λd s3 ⟨z,H3,I3,r3,k,e,q3⟩=>?_)) hm
 subst e;cases r3;refine wpAny_truthy_bool ?_;cases k with
 |false=>exact ite_ff ⟨.bl false,H3,I3,rfl,q3⟩
 |true=>exact ite_tt (chain_last (thn (hc pins s3 σ H3 _ I3 q3) λw' s4 z0=>by let⟨z',H4,I4,r4,q4⟩:=z0;exact ho' pins s4 σ H4 y z' u w' Q I4 r2 r4 q4))
theorem Qi{op op':CmpOp}{r r':R2}(ho:OpR X (compareOp op) r)(ho':OpR X (compareOp op') r')(ha:PE X a ta)(hb:PE X b tb)(hc:PE X c tc)
  (hm:lastMarks [op,op'] [b,c]=false:=by with_unfolding_all rfl):PT X (.Compare a [op,op'] [b,c] pos) (lg (Zo r r' ta tb tc)):=by
 intro pins s σ H Q I h;refine isTrue_chain (thn (ha pins s σ H _ I h) λv s1 ⟨x,H1,I1,r1,q1⟩=>test_link (thn (hb pins s1 σ H1 _ I1 q1) λu s2 ⟨y,H2,I2,r2,q2⟩ =>
  thn (ho pins s2 σ H2 x y v u _ I2 r1 r2 q2) λd s3 ⟨z,H3,I3,r3,k,e,q3⟩=>?_)) hm
 subst e;cases r3;refine wpAny_truthy_bool ?_;cases k with
 |false =>
  let⟨k',e',q'⟩:=q3;cases e';exact ite_ff ⟨H3,I3,q'⟩
 |true =>
  refine ite_tt (test_last (thn (hc pins s3 σ H3 _ I3 q3) λw' s4 ⟨z',H4,I4,r4,q4⟩=>thn (ho' pins s4 σ H4 y z' u w' _ I4 r2 r4 q4) λd' s5 z0=>?_));let⟨z2,H5,I5,r5,k2,e2,q5⟩:=z0;subst e2;cases r5;exact wpAny_truthy_bool ⟨H5,I5,q5⟩
def TruV(K:Zzy)(x:V)(H:Hp)(k:Bool):Prop :=
 match x with
 |.non=>k=false
 |.bl b=>k=b
 |.int i=>k=(i != 0)
 |.str y=>y.length<=sizeLine/\k=((y.length:Int) != 0)
 |.byt y=>y.size<=sizeLine/\k=((y.size:Int) != 0)
 |.ref p=>(∃xs,SqL K H p xs/\k=!xs.isEmpty)\/(∃xs,SqT K H p xs/\k=!xs.isEmpty)\/∃kvs,H p=some (.dK kvs)/\k=!kvs.isEmpty
 |_=>False
theorem ba{κ:Type}{kvs:List (κ×V)}{vs:List (κ×Value)}(r:KV kvs vs):(!vs.isEmpty)=!kvs.isEmpty:=by
 cases r<;>rfl
theorem Rj(r:AC xs its):(!its.toArray.isEmpty)=!xs.isEmpty:=by
 cases r<;>simp
theorem Jj:(sizeLine:Nat)<2^63:=by rw[sizeLine_eq];decide
theorem Zh:TruR X (λx H Q=>∃k,TruV X.K x H k/\Q k H):=by
 intro pins s σ H x v Q I rx h;let⟨k,e,q⟩:=h;have hl:=Jj;have hs:sizeLine=16777216:=sizeLine_eq;cases x with
 |non =>
  cases rx;have e':k=false:=e;subst e';exact truthy_none ⟨H,I,q⟩
 |bl b =>
  cases rx;have e':k=b:=e;subst e';exact wpAny_truthy_bool ⟨H,I,q⟩
 |int i =>
  let⟨t,rfl⟩:=rx;have e':k=(i != 0):=e;subst e';exact PySem.P.truthy_int ⟨H,I,q⟩
 |str y =>
  let⟨t,rfl⟩:=rx;obtain⟨hy,e'⟩:y.length<=sizeLine/\k=((y.length:Int) != 0):=e;subst e';exact PySem.P.truthy_str (by lia) ⟨H,I.tok _,q⟩
 |byt y =>
  let⟨t,rfl⟩:=rx;obtain⟨hy,e'⟩:y.size<=sizeLine/\k=((y.size:Int) != 0):=e;subst e';exact PySem.W.truthy_bytes (by lia) ⟨H,I.tok _,q⟩
 |ref p =>
  cases rx;have e':(∃xs,SqL X.K H p xs/\k=!xs.isEmpty)\/(∃xs,SqT X.K H p xs/\k=!xs.isEmpty)\/∃kvs,H p=some (.dK kvs)/\k=!kvs.isEmpty:=e;rcases e' with ⟨xs,hx,e'⟩ | ⟨xs,hx,e'⟩ | ⟨kvs,hx,e'⟩
  ·subst e';let⟨its,r,pl,hz⟩:=I.list hx;have hlen:=r.length;exact wpAny_truthy_list pl.isList (by simp only[Zzr];lia) ⟨H,I.tok _,by rw[Rj r];exact q⟩
  ·subst e';let⟨its,r,pl,hz⟩:=I.tuple hx;have hlen:=r.length;exact truthy_tuple pl (by simp only[Zzr];lia) ⟨H,I.tok _,by rw[Rj r];exact q⟩
  ·subst e';obtain⟨hz,hS,vs,r,m⟩:kvs.length<=sizeLine/\(p == sysModules)=false/\∃vs,KV kvs vs/\s.heap.DictOf (B3 X.prog X.w) p vs:=I.hok p _ hx;have hlen:kvs.length=vs.length:=Paired.length r;exact wpAny_truthy_dict hS m (by lia) ⟨H,I.tok _,by rw[ba r];exact q⟩
 |_=>exact(show False from e).elim
theorem Ab:OpR X (binaryOp .Add) (λx y H Q=>∃i j,x=.str i/\y=.str j/\i.length+j.length<=sizeLine/\Q (.str (i++j)) H):=by
 intro pins s σ H x y v u Q I rx ry h;let⟨i,j,rfl,rfl,hz,q⟩:=h;let⟨t,rfl⟩:=rx;let⟨t',rfl⟩:=ry;exact add_str (λt' tk=>⟨.str (i++j),H,I.tok _,⟨_,rfl⟩,q⟩) hz
theorem Yr:OpR X (inplaceOp .Add) (λx y H Q=>∃i j,x=.str i/\y=.str j/\i.length+j.length<=sizeLine/\Q (.str (i++j)) H):=by
 intro pins s σ H x y v u Q I rx ry h;let⟨i,j,rfl,rfl,hz,q⟩:=h;let⟨t,rfl⟩:=rx;let⟨t',rfl⟩:=ry;exact iadd_str (λt' tk=>⟨.str (i++j),H,I.tok _,⟨_,rfl⟩,q⟩) hz
theorem F9{x:V}(r:AC [x] us):∃u,us=[u]/\AE x u:=by
 cases r with
 |cons r1 r2=>cases r2;exact⟨_,rfl,r1⟩
theorem cz{x y:V}(r:AC [x,y] us):∃u w',us=[u,w']/\AE x u/\AE y w':=by
 cases r with
 |cons r1 r2 =>
  cases r2 with
  |cons r3 r4=>cases r4;exact⟨_,_,rfl,r1,r3⟩
theorem ju(hc:X.calm=true):AI X (.builtin "max") (λxs H Q=>∃i j,xs=[.int i,.int j]/\Q (.int (if j > i then j else i)) H):=by
 intro pins s σ H xs us Q I r h;let⟨i,j,rfl,q⟩:=h;let⟨u,w',rfl,⟨t,rfl⟩,⟨t',rfl⟩⟩:=cz r;refine max_two_ints (I.ok.hd hc) λh' tk k=>⟨_,H,I.kept k,?_,q⟩;by_cases hj:j > i
 ·rw[GE hj,GE hj];exact⟨_,rfl⟩
 ·rw[GD hj,GD hj];exact⟨_,rfl⟩
theorem jt(hc:X.calm=true):AI X (.builtin "min") (λxs H Q=>∃i j,xs=[.int i,.int j]/\Q (.int (if j<i then j else i)) H):=by
 intro pins s σ H xs us Q I r h;let⟨i,j,rfl,q⟩:=h;let⟨u,w',rfl,⟨t,rfl⟩,⟨t',rfl⟩⟩:=cz r;refine min_two_ints (I.ok.hd hc) λh' tk k=>⟨_,H,I.kept k,?_,q⟩;by_cases hj:j<i
 ·rw[GE hj,GE hj];exact⟨_,rfl⟩
 ·rw[GD hj,GD hj];exact⟨_,rfl⟩
theorem Uq:AI X (.type "int") (λxs H Q=>(∃i,xs=[.int i]/\Q (.int i) H)\/∃k,xs=[.bl k]/\Q (.int (if k then 1 else 0)) H):=by
 intro pins s σ H xs us Q I r h;rcases h with ⟨i,rfl,q⟩ | ⟨k,rfl,q⟩
 ·let⟨u,rfl,t,rfl⟩:=F9 r;exact call_int_int ⟨.int i,H,I,⟨_,rfl⟩,q⟩
 ·let⟨u,rfl,r1⟩:=F9 r;cases r1;exact call_int_bool ⟨.int (if k then 1 else 0),H,I.tok _,⟨_,rfl⟩,q⟩
end
structure DO(h:Heap)(x dx C:Addr)(mA:Str->Option Value):Prop where
 obj:h.get? x=some (Zxf C dx)
 ns:h.Ns1 dx mA
 ne:dx≠x
theorem j7{mA:Str->Option Value}(n:h.Ns1 dx mA):∃od,h.get? dx=some od/\∀name,Zv0 name od=some (mA name):=by
 let⟨o,es,ep,ho,hd,hk,_,hm⟩:=n;refine⟨o,ho,λname=>?_⟩;have e:=hm name;unfold nsFind findBy at e;rw[<- Array.find?_toList] at e;unfold Zv0;rw[hd];dsimp only;split
 ·rename_i y q;rw[q] at e;exact congrArg some e
 ·rename_i q;rw[q] at e;have a:es.toList.any (·.refKey)=false:=by
   rw[List.any_eq_false];intro y hy;let⟨z,t,hkey⟩:=hk y (Array.mem_toList_iff.mp hy);simp[DictEntry.refKey,hkey]
  have a':¬ es.toList.any (·.refKey)=true:=by rw[a];exact Zzi
  rw[GD a'];exact congrArg some e
theorem DO.look{x:Addr}{mA:Str->Option Value}(I:DO h x dx C mA):∃od,PySem.W.InstAt h x (Zxf C dx) C (some od)/\∀name,Zv0 name od=some (mA name) :=
 let ⟨od,ho,hl⟩:=j7 I.ns
 ⟨od,⟨I.obj,rfl,rfl,ho⟩,hl⟩
section
variable {x:Addr}{mA:Str->Option Value}{name:Str}{v:Value}
theorem yo{expr:Bool}(X:K.In s.heap)(I:DO s.heap x dx C mA)(hg:Zwb K C name=true)(hh:Zvn K C=true)
  (ha:Zyc K (.ref C) name=some none) (hv:mA name=some v) (hv':PySem.W.handedIn v=true) (h:Q v {s with toks:=s.toks+1}) :
  wpAny (model prog w) A (getAttr (.ref x) name expr) Q E s:=by
 let⟨od,J,hl⟩:=I.look;exact PySem.W.get_value X J (Zv3 hg).1 (PySem.W.findObj_own hh ha rfl (by rw[hl,hv])) hv' h
theorem si{pl:Sem Bool}{Q:Value×List Value->Shared->Prop}(X:K.In s.heap)(I:DO s.heap x dx C mA)(hg:Zwb K C name=true)
  (hf:Zyc K (.ref C) name=some (some (.ref f))) (ht:Zv9 K (.ref f)=true) (hv:mA name=none) (h:Q (.ref f,[.ref x]) s) :
  wpAny (model prog w) A (getMethod (.ref x) name pl) Q E s:=by
 let⟨od,J,hl⟩:=I.look;exact PySem.W.method_fn X J (Zv3 hg).1 (Zv3 hg).2 hf (beq_iff_eq.mp ht) (by show (Zv0 name od).map (·.isSome)=some false;rw[hl,hv];rfl) h
theorem vy{ns:List Str}{Q:Unit->Shared->Prop}(X:K.In s.heap)(I:DO s.heap x dx C mA)
  (hs:Zyc K (.ref C) "__setattr__" = some (some (.builtin "object.__setattr__"))) (hp:PySem.W.plainOver K C=true) (ht:PySem.W.takerIn K C name=some none) (hh:Zvn K C=true)
  (hw:PySem.Within mA ns) (hsz:ns.length<=sizeLine)
  (h:∀h',DO h' x dx C (λy=>if y=name then some v else mA y)->Zxs dx s.heap h'->Q () {s with heap:=h',toks:=s.toks+2}) :
  wpAny (model prog w) A (setAttr (.ref x) name v) Q E s:=by
 let⟨od,J,hl⟩:=I.look;refine PySem.W.set_plain X J hs (PySem.W.osa_open (s:={s with toks:=s.toks+1}) (r:=none) X J hp ht λb=>?_);let⟨cd,hc,hd'⟩:=PySem.W.any_some hh;have hx:s.heap.get? x=some ⟨.ref C,some dx,.plain,#[]⟩:=I.obj;refine GF (GG (GF (GF (wpAny_loadPart hx (GF (PySem.W.Looks.here (s:={s with toks:=s.toks+1}) (PySem.W.looks_clsIn X hc) ?_))))));rw[hd'];refine GG (a:=some dx) (GF (GG (GF ?_)));refine wpAny_nsSet1 (s:={s with toks:=s.toks+1}) I.ns λh' hn2 hs2=>?_;let⟨oD,esD,epD,hoD,hdD,hcD⟩:=hn2.count (PySem.Within.cons name v hw);refine GF (wpAny_lookBehind hoD (by rw[hdD];exact pastItsLine_dict (Zzp hcD (by rw[Zyz];lia))) ?_);exact GG (h _ ⟨(hs2.2 _ (Zza I.ne)).trans I.obj,hn2,I.ne⟩ hs2)
theorem qi{vs:List Value}(X:K.In s.heap)(hm:PySem.W.makesIn K C=true)
  (hi:Zyc K (.ref C) "__init__" = some (some (.ref f))) (hf:PySem.W.typeIn K (.ref f)=some (.type "function"))
  (h:codeAny (model prog w) (A.under (.builtin "type.__call__" ⟨.ref C::vs,kw⟩)) (.call (.ref f) ⟨.ref (s.heap.objs.size+1)::vs,kw⟩) (PySem.W.InitBack (s.heap.objs.size+1) R)
   {s with heap:=(s.heap.push Zxz).push (Zxf C s.heap.objs.size)}) :
  codeAny (model prog w) A (.call (.ref C) ⟨vs,kw⟩) R s:=by
 let⟨hh,g,d,t,os⟩:=s;exact PySem.W.make_core (PySem.W.makes_of X hm) (PySem.W.looks_findIn X hi) (λself=>PySem.W.bind_fn X self hf) (.inl rfl) h
end
def K5(f:Str)(v:V):List (Str×V)->List (Str×V)
 |[]=>[(f,v)]
 | (g,x)::r=>if g=f then (g,v)::r else (g,x)::K5 f v r
theorem Oi(f g:Str)(v:V):∀fs:List (Str×V),(K5 f v fs).lookup g=if g=f then some v else fs.lookup g
 |[]=>by
  show Zxg g [(f,v)]=_;by_cases h:g=f
  ·have hb:(g == f)=true:=beq_iff_eq.mpr h
   simp only[Zxg,hb,GE h]
  ·have hb:(g == f)=false:=beq_eq_false_iff_ne.mpr h
   simp only[Zxg,hb,GD h]
 | (k,x)::r=>by
  have ih:=Oi f g v r;rw[show K5 f v ((k,x)::r)=(if k=f then (k,v)::r else (k,x)::K5 f v r) from rfl];by_cases hk:k=f
  ·rw[GE hk];by_cases h:g=k
   ·have hb:(g == k)=true:=beq_iff_eq.mpr h
    simp only[Zxg,hb,GE (h.trans hk)]
   ·have hb:(g == k)=false:=beq_eq_false_iff_ne.mpr h
    simp only[Zxg,hb,GD (λe:g=f=>h (e.trans hk.symm))]
  ·rw[GD hk];by_cases h:g=k
   ·have hb:(g == k)=true:=beq_iff_eq.mpr h
    simp only[Zxg,hb,GD (λe:g=f=>hk (h.symm.trans e))]
   ·have hb:(g == k)=false:=beq_eq_false_iff_ne.mpr h
    simp only[Zxg,hb];exact ih
theorem Na(f:Str)(v:V):∀fs:List (Str×V),f∈(K5 f v fs).map (·.1)/\∀g,g∈fs.map (·.1)->g∈(K5 f v fs).map (·.1)
 |[]=>⟨by simp[K5],λg h=>by simp at h⟩
 | (k,x)::r=>by
  let⟨i1,i2⟩:=Na f v r;rw[show K5 f v ((k,x)::r)=(if k=f then (k,v)::r else (k,x)::K5 f v r) from rfl];by_cases hk:k=f
  ·rw[GE hk];subst hk;exact⟨by simp,λg h=>by simpa using h⟩
  ·rw[GD hk];refine⟨?_,λg h=>?_⟩
   ·rw[Zzk];exact Zzs _ i1
   ·rw[Zzk] at h ⊢;rcases Zzw.mp h with e | e
    ·exact Zzw.mpr (.inl e)
    ·exact Zzs _ (i2 g e)
theorem Om(f:Str)(v:V):∀fs:List (Str×V),(K5 f v fs).length<=fs.length+1
 |[]=>by simp[K5]
 | (k,x)::r=>by
  have ih:=Om f v r;rw[show K5 f v ((k,x)::r)=(if k=f then (k,v)::r else (k,x)::K5 f v r) from rfl];by_cases hk:k=f
  ·rw[GE hk,Zyz,Zyz];lia
  ·rw[GD hk,Zyz,Zyz];lia
theorem BB.some_of{o:Option Value}(r:BB (some v) o):∃u,o=some u/\AE v u:=by
 cases o with
 |none=>exact(show False from r).elim
 |some u=>exact⟨u,rfl,r⟩
theorem BB.none_of{o:Option Value}(r:BB none o):o=none:=by
 cases o with
 |none=>rfl
 |some u=>exact(show False from r).elim
theorem jf(r:AE v u):PySem.W.handedIn u=true:=by
 cases v with
 |non=>cases (show u=Value.none from r);rfl
 |bl b=>cases (show u=Value.bool b from r);rfl
 |int i=>let⟨t,e⟩:=(show ∃t,u=Value.int i t from r);cases e;rfl
 |str x=>let⟨t,e⟩:=(show ∃t,u=Value.str x t from r);cases e;rfl
 |byt b=>let⟨t,e⟩:=(show ∃t,u=Value.bytes b t from r);cases e;rfl
 |flt b=>let⟨t,e⟩:=(show ∃t,u=Value.float b t from r);cases e;rfl
 |ref a=>cases (show u=Value.ref a from r);rfl
 |ty n=>cases (show u=Value.type n from r);rfl
section
variable {fs fs':List (Str×V)}
theorem Ph(hok:HOk P w H h)(e:H a=some (.ins C dx fs)):∃mA,DO h a dx C mA/\(∀f,BB (fs.lookup f) (mA f))/\PySem.Within mA (fs.map (·.1))/\fs.length<=1000/\H dx=some (.own a):=by
 let⟨d,z,ne,ob,mA,n,r,q⟩:=(show AG P w H h a (.ins C dx fs) from hok a _ e);exact⟨mA,⟨ob,n,ne⟩,r,q,z,d⟩
end
structure Cls(K:Zzy)(C:Addr):Prop where
 pg:Zwb K C Str.empty=true
 hd:Zvn K C=true
 po:PySem.W.plainOver K C=true
 sa:Zyc K (.ref C) "__setattr__" = some (some (.builtin "object.__setattr__"))
theorem Cls.get(c:Cls K C)(f:Str):Zwb K C f=true:=c.pg
def BX(K:Zzy)(C:Addr)(f:Str):Prop:=Zyc K (.ref C) f=some none
theorem BX.taker{f:Str}(n:BX K C f):PySem.W.takerIn K C f=some none:=by
 unfold PySem.W.takerIn;rw[show Zyc K (.ref C) f=some none from n];rfl
structure A2l(K:Zzy)(C:Addr)(m:Str)(f:Addr):Prop where
 at_:Zyc K (.ref C) m=some (some (.ref f))
 fn:Zv9 K (.ref f)=true
 kp:Zxj K (.ref f)=true
section
variable {fs:List (Str×V)}{f:Str}
theorem bh{b:Bool}(I:Inv X pins σ H s)(e:H a=some (.ins C dx fs))(c:Cls X.K C)(n:BX X.K C f)(l:fs.lookup f=some v)
  (h:∀u s',Inv X pins σ H s'->AE v u->Q u s'):wpAny (model X.prog X.w) A (getAttr (.ref a) f b) Q E s:=by
 let⟨mA,O,r,_,_,_⟩:=Ph I.hok e;let⟨u,hu,ru⟩:=BB.some_of (v:=v) (o:=mA f) (by rw[<- l];exact r f);exact yo I.kIn O (c.get f) c.hd n hu (jf ru) (h u _ (I.tok _) ru)
theorem bg{m:Str}{g:Addr}{pl:Sem Bool}{Q:Value×List Value->Shared->Prop}(I:Inv X pins σ H s)(e:H a=some (.ins C dx fs))(c:Cls X.K C)(k:A2l X.K C m g)(l:fs.lookup m=none)
  (h:Q (.ref g,[.ref a]) s):wpAny (model X.prog X.w) A (getMethod (.ref a) m pl) Q E s:=by
 let⟨mA,O,r,_,_,_⟩:=Ph I.hok e;have hn:mA m=none:=BB.none_of (by rw[<- l];exact r m);exact si I.kIn O (c.get m) k.at_ k.fn hn h
theorem Zt{y:V}{Q:Unit->Shared->Prop}(I:Inv X pins σ H s)(e:H a=some (.ins C dx fs))(c:Cls X.K C)(n:BX X.K C f)(hl:fs.length<1000)(ry:AE y u)
  (h:∀s',Inv X pins σ (upd H a (.ins C dx (K5 f y fs))) s'->Q () s'):wpAny (model X.prog X.w) A (setAttr (.ref a) f u) Q E s:=by
 let⟨mA,O,r,wi,_,ho⟩:=Ph I.hok e;have hz:(fs.map (·.1)).length<=sizeLine:=by rw[Zzz,sizeLine_eq];lia
 refine vy I.kIn O c.sa c.po n.taker c.hd wi hz λh' O' sb=>h _ ?_;have hd:∃o,h'.get? dx=some o:=by let⟨o,_,_,e',_⟩:=O'.ns;exact⟨o,e'⟩
 refine I.write (x:=a) (e:=dx) (by rw[e];exact True.intro) (.inr ho) (λb q hb z=>(sb.2 b hb).trans z) hd ?_;refine⟨by rw[A6 O.ne];exact ho,?_,O.ne,O'.obj,_,O'.ns,λg=>?_,λg hg=>?_⟩
 ·have:=Om f y fs;lia
 ·show BB ((K5 f y fs).lookup g) (if g=f then some u else mA g)
  rw[Oi];by_cases q:g=f
  ·rw[GE q,GE q];exact ry
  ·rw[GD q,GD q];exact r g
 ·by_cases q:g=f
  ·rw[q];exact(Na f y fs).1
  ·refine(Na f y fs).2 g (wi g λz=>hg ?_);show (if g=f then some u else mA g)=none;rw[GD q];exact z
theorem Inv.made(I:Inv X pins σ H s):Inv X pins σ (upd (upd H s.heap.objs.size (.own (s.heap.objs.size+1))) (s.heap.objs.size+1) (.ins C s.heap.objs.size []))
  {s with heap:=(s.heap.push Zxz).push (Zxf C s.heap.objs.size)}:=by
 have e1:(s.heap.push Zxz).get? s.heap.objs.size=some Zxz:=Zzj s.heap rfl;have e2:((s.heap.push Zxz).push (Zxf C s.heap.objs.size)).get? (s.heap.objs.size+1)=some (Zxf C s.heap.objs.size):=by
  have:=Zzj (s.heap.push Zxz) (o:=Zxf C s.heap.objs.size) rfl;rwa [Zy0] at this
 have e3:(s.heap.push Zxz).Ns s.heap.objs.size (λ_=>none):=⟨Zxz,#[],_,e1,rfl,(λe he=>absurd he (by simp)),λ_=>rfl⟩;have I1:=I.laid (a:=s.heap.objs.size) (o:=.own (s.heap.objs.size+1)) (h':=s.heap.push Zxz) (t':=s.toks) (λb u q=>Zzv _ q) (Zzu _) ⟨_,e1⟩;refine I1.laid (a:=s.heap.objs.size+1) (o:=.ins C s.heap.objs.size []) (t':=s.toks) (λb u q=>Zzv _ q) (Zvz (Zy0 _ _)) ?_;have ne:s.heap.objs.size≠s.heap.objs.size+1:=Zz0 (Nat.lt_succ_self _);refine⟨by rw[A6 ne,AA],Zyl _,ne,e2,λ_=>none,(Heap.Ns1.of_empty e3).at λo q=>Zzv _ q,λ_=>True.intro,λy hy=>absurd rfl hy⟩
theorem zf{f:Str}(hb:attributeBase e f env (eval e env)=eval e env)
  (h:wpAny (model prog w) A (eval e env) (λo s₁=>wpAny (model prog w) A (getAttr o f true) Q E s₁) E s):wpAny (model prog w) A (eval (.Attribute e f pos) env) Q E s :=
 Attribute_any_ h (by rw[arm_eval_Attribute,hb])
end
def A35(K:Zzy)(ta:TE)(f:Str):TE:=λσ H Q=>ta σ H λx H1=>∃a C dx fs v,x=.ref a/\H1 a=some (.ins C dx fs)/\Cls K C/\BX K C f/\fs.lookup f=some v/\Q v H1
def A38(K:Zzy)(ta tv:TE)(f:Str):TS:=λD σ H=>tv σ H λy H1=>ta σ H1 λx H2=>∃a C dx fs,x=.ref a/\H2 a=some (.ins C dx fs)/\Cls K C/\BX K C f/\fs.length<1000 /\
 D.nx σ (upd H2 a (.ins C dx (K5 f y fs)))
section
variable {o value:Expr}{f:Str}{tpos:Pos}{tv:TE}
theorem Vd(he:PE X e ta)(hb:attributeBase e f X.env (eval e X.env)=eval e X.env):PE X (.Attribute e f pos) (A35 X.K ta f):=by
 intro pins s σ H Q I h;refine zf hb (thn (he pins s σ H _ I h) λu s1 z0=>?_);let⟨x,H1,I1,rx,a,C,dx,fs,v,ex,ea,c,n,l,q⟩:=z0;subst ex;obtain rfl:u=Value.ref a:=rx;exact bh I1 ea c n l λu' s2 I2 ru=>⟨v,H1,I2,ru,q⟩
theorem V6(ha:PE X o ta)(hv:PE X value tv)(hs:swapsWith value (some (.Attribute o f pos')) pos.line X.env=pure false):PS X (.Assign [.Attribute o f pos'] value pos) (A38 X.K ta tv f):=by
 intro pins s σ H D I h;refine plainObj_wpAny_Assign_Attribute (thn (hv pins s σ H _ I h) λu s1 ⟨y,H1,I1,ry,q⟩=>thn (ha pins s1 σ H1 _ I1 q) λov s2 ⟨x,H2,I2,rx,a,C,dx,fs,ex,ea,c,n,l,q2⟩=>?_) hs;subst ex;obtain rfl:ov=Value.ref a:=rx;exact Zt I2 ea c n l ry λs3 I3=>⟨σ,_,I3,q2⟩
end
section
variable {c:Value}{b:Bool}
inductive Nr (K:Zzy) (H:Hp):V->Value->Prop where
 |non:Nr K H .non (.type "NoneType")
 |bl (x:Bool):Nr K H (.bl x) (.type "bool")
 |int (i:Int):Nr K H (.int i) (.type "int")
 |str (x:Str):Nr K H (.str x) (.type "str")
 |flt (x:UInt64):Nr K H (.flt x) (.type "float")
 |lst {a:Addr} {xs:List V} (e:H a=some (.lst xs)):Nr K H (.ref a) (.type "list")
 |frz {a:Addr} {o:Obj} {xs:List V} (e:H a=some (.frz o (.lst xs))):Nr K H (.ref a) (.type "list")
 |tup {a:Addr} {xs:List V} (e:H a=some (.tup xs)):Nr K H (.ref a) (.type "tuple")
 |dK {a:Addr} {kvs:List (Key×V)} (e:H a=some (.dK kvs)):Nr K H (.ref a) (.type "dict")
 |dT {a:Addr} {kvs:List (List Key×V)} (e:H a=some (.dT kvs)):Nr K H (.ref a) (.type "dict")
 |ins {a C dx:Addr} {fs:List (Str×V)} (e:H a=some (.ins C dx fs)) (cl:Cls K C) (ha:Zyc K (.ref C) "__class__" = some (some (.builtin "object.__class__")))
   (hn:PySem.W.specialIn K (.builtin "object.__class__") "__get__" = some (some (.builtin "getset_descriptor.__get__"))) (htk:PySem.W.takesIn K (.builtin "object.__class__")=some true)
   (hm:PySem.W.mroIn K C (.type "object")=some true):Nr K H (.ref a) (.ref C)
theorem jb{x:V}{t:Value}(I:Inv X pins σ H s)(rx:AE x u)(ty:Nr X.K H x t)(e:PySem.W.kitOne X.K t c=some b)(h:∀tk,Q (.bool b) {s with toks:=tk}) :
  wpAny (model X.prog X.w) A (call (.builtin "isinstance") [u,c]) Q E s:=by
 cases ty with
 |non=>cases (show u=Value.none from rx);exact Zy5 PySem.W.kitx_none I.kIn True.intro e (λz=>nomatch z) h
 |bl y=>cases (show u=Value.bool y from rx);exact Zy5 PySem.W.kitx_bool I.kIn True.intro e (λz=>nomatch z) h
 |int i=>let⟨t,q⟩:=(show ∃t,u=Value.int i t from rx);cases q;exact Zy5 PySem.W.kitx_int I.kIn True.intro e (λz=>nomatch z) h
 |str y=>let⟨t,q⟩:=(show ∃t,u=Value.str y t from rx);cases q;exact Zy5 PySem.W.kitx_str I.kIn True.intro e (λz=>nomatch z) h
 |flt y=>let⟨t,q⟩:=(show ∃t,u=Value.float y t from rx);cases q;exact Zy5 PySem.W.kitx_float I.kIn True.intro e (λz=>nomatch z) h
 |@lst a xs ea =>
  cases (show u=Value.ref a from rx);let⟨_,_,n,_,h1⟩:=(show AG X.prog X.w H s.heap a (.lst xs) from I.hok a _ ea);exact Zy5 PySem.W.kitx_list I.kIn ⟨_,h1,rfl⟩ e (λz=>nomatch z) h
 |@frz a ob xs ea =>
  cases (show u=Value.ref a from rx);let⟨_,_,_,n,_,h1⟩:=(show AG X.prog X.w H s.heap a (.frz ob (.lst xs)) from I.hok a _ ea);exact Zy5 PySem.W.kitx_list I.kIn ⟨_,h1,rfl⟩ e (λz=>nomatch z) h
 |@tup a xs ea =>
  cases (show u=Value.ref a from rx);let⟨_,_,_,p⟩:=(show AG X.prog X.w H s.heap a (.tup xs) from I.hok a _ ea);let⟨o,h1,h2,_⟩:=p;exact Zy5 PySem.W.kitx_tuple I.kIn ⟨o,h1,h2⟩ e (λz=>nomatch z) h
 |@dK a kvs ea =>
  cases (show u=Value.ref a from rx);let⟨_,_,vs,_,p⟩:=(show AG X.prog X.w H s.heap a (.dK kvs) from I.hok a _ ea);let⟨o,es,ep,h1,h2,_⟩:=p;exact Zy5 PySem.W.kitx_dict I.kIn ⟨o,h1,h2.1⟩ e (λz=>nomatch z) h
 |@dT a kvs ea =>
  cases (show u=Value.ref a from rx);let⟨_,_,xs,_,o,es,ep,h1,h2,_⟩:=(show AG X.prog X.w H s.heap a (.dT kvs) from I.hok a _ ea);exact Zy5 PySem.W.kitx_dict I.kIn ⟨o,h1,h2.1⟩ e (λz=>nomatch z) h
 |@ins a C dx fs ea cl ha hn htk hm =>
  cases (show u=Value.ref a from rx);let⟨mA,O,_⟩:=Ph I.hok ea;let⟨od,J,_⟩:=O.look;exact Zy5 (PySem.W.kitx_own (cl.get _) cl.hd ha hn htk hm) I.kIn J e (λz=>nomatch z) h
end
structure AM(k:Nat)(A:Around):Prop where
 hd:A.handled=none
 dp:A.depth+3*k+5<recursionLimit
 un:A.units+16*k+200<cLine
theorem AM.mono{k:Nat}(r:AM k A)(h:j<=k):AM j A:=⟨r.hd,by have:=r.dp;lia,by have:=r.un;lia⟩
theorem AM.deeper{k:Nat}(r:AM (k+1) A)(env:Env):AM k (A.deeper env) :=
 ⟨r.hd,by have:=r.dp;show A.depth+1+3*k+5<_;lia,by have:=r.un;show A.units+3+16*k+200<_;lia⟩
theorem ax:(A.under (.builtin "type.__call__" ⟨.ref C::us,kw⟩)).depth=A.depth+1:=by
 first | rfl | simp[Around.under,Code.weight,Code.isCreation,Code.isGuard,Code.isCaller,Code.frames,Code.isFrame,guardIds]
theorem aw:(A.under (.builtin "type.__call__" ⟨.ref C::us,kw⟩)).units=A.units+1:=by
 first | rfl | simp[Around.under,Code.cUnits,Code.frames,Code.isFrame]
theorem AM.make{k:Nat}(r:AM (k+1) A)(C:Addr)(us:List Value)(kw:List (Str×Value)):AM k (A.under (.builtin "type.__call__" ⟨.ref C::us,kw⟩)) :=
 ⟨r.hd,by have:=r.dp;rw[ax];lia,by have:=r.un;rw[aw];lia⟩
theorem AM.depth{k:Nat}(r:AM k A):A.depth<recursionLimit:=by have:=r.dp;lia
theorem AM.units{k:Nat}(r:AM k A):A.units+64<cLine:=by have:=r.un;lia
def ER:TA:=λ_ H Q=>Q [] H
def lu(ta:TE)(tr:TA):TA:=λσ H Q=>ta σ H λx H1=>tr σ H1 λxs H2=>Q (x::xs) H2
theorem A0:PA X [] ER:=λ_ _ _ _ H Q I h=>Calls.spliced_nil ⟨[],H,I,.nil,h⟩
theorem wx(ha:PE X e te)(hr:PA X es t)(hs:starEach (e::es) X.env=(false,eval e X.env)::starEach es X.env:=by rfl):PA X (e::es) (lu te t):=by
 intro pos pins s σ H Q I h;rw[hs];show wpAny _ _ (spliced ((false,eval e X.env)::backTo pos (starEach es X.env))) _ _ s;refine Zuv (thn (ha pins s σ H _ I h) λu s1 z0=>?_);let⟨x,H1,I1,r1,q1⟩:=z0;exact thn (hr pos pins s1 σ H1 _ I1 q1) λus s2 ⟨xs,H2,I2,r2,q2⟩=>⟨x::xs,H2,I2,.cons r1 r2,q2⟩
def A2w(t:TA):TE:=λσ H Q=>t σ H λxs H1=>xs.length<=sizeLine/\∀p,H1 p=none->Q (.ref p) (upd H1 p (.tup xs))
def A31(t:TA):TE:=λσ H Q=>t σ H λxs H1=>xs.length<=sizeLine/\∀p,H1 p=none->Q (.ref p) (upd H1 p (.lst xs))
theorem Bo{x1}(h:PA X es t):PE X (.Tuple es x1 pos) (A2w t):=by
 intro pins s σ H Q I hq;refine wpAny_Tuple_spliced (thn (h pos pins s σ H _ I hq) λus s1 ⟨xs,H1,I1,r,z,q⟩=>⟨by rw[<- r.length];exact z,?_⟩);have hf:H1 s1.heap.objs.size=none:=I1.hok.fresh (Zzu _);refine⟨.ref s1.heap.objs.size,upd H1 s1.heap.objs.size (.tup xs),I1.laid (t':=s1.toks) (λb u e=>Zzv _ e) (Zzu _) ?_,rfl,q _ hf⟩;exact⟨z,us,r,⟨_,Zzj _ rfl,rfl,_,rfl⟩⟩
theorem B7(h:PA X es t):PE X (.List es pos) (A31 t):=by
 intro pins s σ H Q I hq;refine wpAny_List_spliced (thn (h pos pins s σ H _ I hq) λus s1 ⟨xs,H1,I1,r,z,q⟩=>⟨by rw[<- r.length];exact z,?_⟩);have hf:H1 s1.heap.objs.size=none:=I1.hok.fresh (Zzu _);refine⟨.ref s1.heap.objs.size,upd H1 s1.heap.objs.size (.lst xs),I1.laid (t':=s1.toks) (λb u e=>Zzv _ e) (Zzu _) ?_,rfl,q _ hf⟩;exact⟨z,us,0,r,Zzj _ rfl⟩
abbrev Sp:=List V->Hp->VK->XK->Prop
abbrev CXT:=List Env->Hp->Shared->XK->Value->Shared->Prop
variable {CX:CXT}
structure DP(P:Program)(w:World)(K:Zzy)(mg:Str->Option Value)(base:Heap)(A:Around)(outer:List Env)(s:Shared)(H:Hp):Prop where
 frames:A.frames=some outer
 mod:Mod K mg base
 bs:∀b o,base.get? b=some o->s.heap.get? b=some o/\H b=none
 bsz:base.objs.size<=s.heap.objs.size
 funs:s.heap.FunFrames base outer
 frf:∀b∈frs outer,H b=none
 hok:HOk P w H s.heap
 bare:AllBare s.gens
def CE(outer:List Env)(P:Program)(w:World)(H:Hp)(s:Shared)(Q:VK)(u:Value)(s':Shared):Prop :=
 ∃v H',s'.os=s.os/\AllBare s'.gens/\Un (frs outer) [] H H' s.heap s'.heap/\HOk P w H' s'.heap/\AE v u/\Q v H'
def CR(CX:CXT)(outer:List Env)(P:Program)(w:World)(H:Hp)(s:Shared)(Q:VK)(E:XK)(r:Result)(s':Shared):Prop :=
 match r with
 |.ok (.ret u)=>CE outer P w H s Q u s'
 |.ok _=>False
 |.error e=>CX outer H s E e s'
structure Aq(P:Program)(w:World)(K:Zzy)(mg:Str->Option Value)(base:Heap)(CX:CXT)(k:Nat)(f:Addr)(fd:FuncData)(ps:List Str)(sp:Sp):Prop where
 len:∀vs H Q E,sp vs H Q E->vs.length=ps.length
 run:∀(A:Around) (outer:List Env) (s:Shared) (H:Hp) (args:Args) (us:List Value) (vs:List V) (Q:VK) (E:XK),AM k A->DP P w K mg base A outer s H->BindsTo s fd args (ps.zip us)->AC vs us->sp vs H Q E ->
  codeAny (model P w) A (.call (.ref f) args) (CR CX outer P w H s Q E) s
theorem DP.make(e:DP P w K mg base A outer s H)(C:Addr)(us:List Value)(kw:List (Str×Value)) :
  DP P w K mg base (A.under (.builtin "type.__call__" ⟨.ref C::us,kw⟩)) outer s H:=⟨by first | exact e.frames | (simpa [Around.under,Code.envs,Code.isFrame,pushEnvs] using e.frames),e.mod,e.bs,e.bsz,e.funs,e.frf,e.hok,e.bare⟩
theorem Inv.env0(I:Inv X pins σ H s):DP X.prog X.w X.K X.mg X.base X.A X.stack s H :=
 ⟨I.ok.frames,I.ok.mod,I.bs,Zzp I.ok.bsz I.sz,I.stack,I.stkFree,I.hok,I.bare⟩
theorem Inv.after{Q:VK}(I:Inv X pins σ H s)(h:CE X.stack X.prog X.w H s Q u s'):EP X pins σ Q u s':=by
 let⟨v,H',os,bare,un,hok,r,q⟩:=h;let⟨hh,g,d,t,os'⟩:=s';obtain rfl:os'=s.os:=os;exact⟨v,H',I.call (h':=hh) (g':=g) (d':=d) (t':=t) (ch:=[]) un hok bare (λb z=>absurd z (by simp)),r,q⟩
def db(sp:Sp)(dvs:List V)(E:XK)(t:TA):TE:=λσ H Q=>t σ H λvs H1=>sp (vs++dvs) H1 Q E
def lq(C:Addr)(sp:Sp)(dvs:List V)(E:XK)(t:TA):TE:=λσ H Q=>t σ H λvs H1=>∀x dx,H1 x=none->H1 dx=none->dx≠x ->
 sp (.ref x::(vs++dvs)) (upd (upd H1 dx (.own x)) x (.ins C dx [])) (λv H2=>v=.non/\Q (.ref x) H2) E
def BF(K:Zzy)(fd:FuncData)(ps:List Str)(ds:List Value):Prop :=
 ∀(s:Shared) (us:List Value),K.In s.heap->(us++ds).length=ps.length->BindsTo s fd ⟨us,[]⟩ (ps.zip (us++ds))
theorem BF.all(h:∀us:List Value,us.length=ps.length->bindArgs fd ⟨us,[]⟩=pure (ps.zip us)):BF K fd ps []:=λs us _ hl=>by
 rw[Zyt] at hl ⊢;exact .of_eq (h us hl)
def Rz(CX:CXT)(X:Cx)(E:XK):Prop:=∀(pins:List (Addr×Obj)) (σ:St) (H:Hp) (s:Shared) (e:Value) (s':Shared),Inv X pins σ H s->CX X.stack H s E e s'->X.xe e s'
section
variable {k:Nat}{sp:Sp}{dvs:List V}{ds:List Value}{E:XK}{m:Str}{p:Pos}{o:Expr}
theorem A1c{Q:VK}{vs:List V}(F:Aq X.prog X.w X.K X.mg X.base CX k f fd ps sp)(hr:AM k X.A)(hb:BF X.K fd ps ds)(hd:AC dvs ds)(hx:Rz CX X E)
  (I:Inv X pins σ H s) (r:AC vs us) (h:sp (vs++dvs) H Q E):wpAny (model X.prog X.w) X.A (call (.ref f) us) (EP X pins σ Q) X.xe s:=by
 have r2:AC (vs++dvs) (us++ds):=r.append hd;have hl:(us++ds).length=ps.length:=by rw[<- r2.length];exact F.len _ _ _ _ h
 refine wpAny_call (codeAny_mono (F.run X.A X.stack s H ⟨us,[]⟩ (us++ds) (vs++dvs) Q E hr I.env0 (hb s us I.kIn hl) r2 h) λr s' hq=>?_);cases r with
 |error e=>exact hx pins σ H s e s' I hq
 |ok fl =>
  cases fl with
  |ret u=>exact I.after hq
  |next=>exact False.elim hq
  |brk=>exact False.elim hq
  |cont=>exact False.elim hq
theorem wq(F:Aq X.prog X.w X.K X.mg X.base CX k f fd ps sp)(hr:AM k X.A)(hg:Gl X x)(hm:X.mg x=some (.ref f))(hk:Zxj X.K (.ref f)=true)(hb:BF X.K fd ps ds)(hd:AC dvs ds)(hx:Rz CX X E)
  (ha:PA X (e::es) t) (hdb:(x == ("__debug__" : Str))=false:=by decide) (he:starEach (e::es) X.env=(false,eval e X.env)::starEach es X.env:=by rfl) (hpl:(backTo pos (starEach es X.env)).any (·.1)=false:=by rfl) :
  PE X (.Call (.Name x p) (e::es) [] pos) (db sp dvs E t):=by
 intro pins s σ H Q I h;refine wpAny_Call_Name_kw (Jz I hg hm ?_ hdb);refine Zuu (h₀:=X.base) I.ok.mod.kin hk (thn (ha pos pins s σ H _ I h) λus s1 ⟨vs,H1,I1,r,q⟩=>⟨I1.kIn,?_⟩) he hpl;exact A1c F hr hb hd hx I1 r q
structure Mk(K:Zzy)(C f:Addr):Prop where
 makes:PySem.W.makesIn K C=true
 init:Zyc K (.ref C) "__init__" = some (some (.ref f))
 fn:Zv9 K (.ref f)=true
 kp:Zxj K (.ref C)=true
theorem my{Q:VK}{vs:List V}(M:Mk X.K C f)(F:Aq X.prog X.w X.K X.mg X.base CX k f fd ps sp)(hr:AM (k+1) X.A)(hb:BF X.K fd ps ds)(hd:AC dvs ds)
  (hx:Rz CX X E) (I:Inv X pins σ H s) (r:AC vs us)
  (h:∀x dx,H x=none->H dx=none->dx≠x->sp (.ref x::(vs++dvs)) (upd (upd H dx (.own x)) x (.ins C dx [])) (λv H2=>v=.non/\Q (.ref x) H2) E) :
  wpAny (model X.prog X.w) X.A (call (.ref C) us) (EP X pins σ Q) X.xe s:=by
 have hq:=h (s.heap.objs.size+1) s.heap.objs.size (I.hok.fresh (Nat.le_succ _)) (I.hok.fresh (Zzu _)) (Zz0 (Nat.lt_succ_self _));have I2:=Inv.made (C:=C) I;have r2:AC (V.ref (s.heap.objs.size+1)::(vs++dvs)) (Value.ref (s.heap.objs.size+1)::(us++ds)):=.cons rfl (r.append hd);have hl:(Value.ref (s.heap.objs.size+1)::us++ds).length=ps.length:=by
  have e:=r2.length;rw[F.len _ _ _ _ hq] at e;exact e.symm
 refine wpAny_call (qi (f:=f) I.kIn M.makes M.init (beq_iff_eq.mp M.fn) (codeAny_mono (F.run _ X.stack _ _ ⟨Value.ref (s.heap.objs.size+1)::us,[]⟩ (Value.ref (s.heap.objs.size+1)::(us++ds)) _ _ E (hr.make C us [])
  (I2.env0.make C us []) (hb _ (Value.ref (s.heap.objs.size+1)::us) I2.kIn hl) r2 hq) λr s' hq'=>?_))
 cases r with
 |error e=>exact hx pins σ _ _ e s' I2 hq'
 |ok fl =>
  cases fl with
  |ret u =>
   let⟨v,H',I3,rv,ev,q3⟩:=I2.after hq';subst ev;exact⟨rv,⟨V.ref (s.heap.objs.size+1),H',I3,rfl,q3⟩⟩
  |next=>exact False.elim hq'
  |brk=>exact False.elim hq'
  |cont=>exact False.elim hq'
theorem o0(M:Mk X.K C f)(F:Aq X.prog X.w X.K X.mg X.base CX k f fd ps sp)(hr:AM (k+1) X.A)(hg:Gl X x)(hm:X.mg x=some (.ref C))(hb:BF X.K fd ps ds)(hd:AC dvs ds)(hx:Rz CX X E)
  (hdb:(x == ("__debug__" : Str))=false:=by decide):PE X (.Call (.Name x p) [] [] pos) (lq C sp dvs E ER):=by
 intro pins s σ H Q I h;refine wpAny_Call_Name_kw (Jz I hg hm ?_ hdb);exact PySem.W.callWith_K0 I.kIn M.kp (my (us:=[]) M F hr hb hd hx I .nil h)
end
section
variable {k:Nat}{ks:List Str}{sp:Sp}{E:XK}{m:Str}{p kpos:Pos}{o:Expr}{kws:List Keyword}{tk:TA}{nm:Option Str}
variable {g:List Value->List Value->List Value}{gV:List V->List V->List V}
end
structure Bu(N P:List Str)(sc:Scope):Prop where
 kind:sc.kind=.function
 co:sc.isCoroutine=false
 gen:sc.isGenerator=false
 nd:N.Nodup
 pre:N.take P.length=P
 par:∀x∈P,sc.names.lookup x=some .local\/sc.names.lookup x=some .cell
 nofree:∀y∈sc.names,y.2≠.free
theorem Ur:∀{binds:List (Str×Value)} {m:Str->Option Value},(∀v,(x,v)∉binds)->bindL kindOf binds m x=m x
 |[],_,_=>rfl
 | (n,v)::r,m,h=>by
  unfold bindL;rw[Ur λw hw=>h w (Zzs _ hw)];split
  ·have:x≠n:=by rintro rfl;exact h v Zzq
   simp[this]
  ·rfl
theorem Ut:∀{binds:List (Str×Value)} {m:Str->Option Value},(∀v,(x,v)∉binds)->bindC kindOf binds m x=m x
 |[],_,_=>rfl
 | (n,v)::r,m,h=>by
  unfold bindC;rw[Ut λw hw=>h w (Zzs _ hw)];split
  ·rfl
  ·have:x≠n:=by rintro rfl;exact h v Zzq
   simp[this]
theorem Us{kindOf:Str->Option NameKind}{x:Str}{v:Value}:∀{P:List Str} {vs:List Value} {i:Nat} {m:Str->Option Value},P.Nodup->P[i]?=some x->vs[i]?=some v->kindOf x=some .local ->
  bindL kindOf (P.zip vs) m x=some v
 |[],_,_,_,_,h,_,_=>by simp at h
 |_::_,[],_,_,_,_,h,_=>by simp at h
 |p::P,w::vs,0,m,nd,h1,h2,hk=>by
  simp at h1 h2;subst h1;subst h2;show bindL kindOf ((p,w)::P.zip vs) m p=_;unfold bindL;rw[Ur λv hv=>(Zye.mp nd).1 (List.of_mem_zip hv).1,GE hk];simp
 |p::P,w::vs,i+1,m,nd,h1,h2,hk=>by
  show bindL kindOf ((p,w)::P.zip vs) m x=_;unfold bindL;exact Us (i:=i) (Zye.mp nd).2 (by simpa using h1) (by simpa using h2) hk
theorem Uu{kindOf:Str->Option NameKind}{x:Str}{v:Value}:∀{P:List Str} {vs:List Value} {i:Nat} {m:Str->Option Value},P.Nodup->P[i]?=some x->vs[i]?=some v->kindOf x≠some .local ->
  bindC kindOf (P.zip vs) m x=some v
 |[],_,_,_,_,h,_,_=>by simp at h
 |_::_,[],_,_,_,_,h,_=>by simp at h
 |p::P,w::vs,0,m,nd,h1,h2,hk=>by
  simp at h1 h2;subst h1;subst h2;show bindC kindOf ((p,w)::P.zip vs) m p=_;unfold bindC;rw[Ut λv hv=>(Zye.mp nd).1 (List.of_mem_zip hv).1,GD hk];simp
 |p::P,w::vs,i+1,m,nd,h1,h2,hk=>by
  show bindC kindOf ((p,w)::P.zip vs) m x=_;unfold bindC;exact Uu (i:=i) (Zye.mp nd).2 (by simpa using h1) (by simpa using h2) hk
def Io(N:List Str)(vs:List V):St:=vs.map some++Zz4 (N.length - vs.length) none
def No(CX:CXT)(P:Program)(w:World)(K:Zzy)(mg:Str->Option Value)(base:Heap)(N:List Str)(qual:Str)(scope:Scope)(f:Addr)(cd:Value)(A:Around)(outer:List Env)(s:Shared)(H:Hp)(E:XK):Cx where
 prog:=P
 w:=w
 K:=K
 mg:=mg
 base:=base
 A:=A.deeper (envOfC qual scope s.heap.objs.size f cd)
 N:=N
 s₀:=s
 H₀:=H
 env:=envOfC qual scope s.heap.objs.size f cd
 outer:=outer
 stack:=envOfC qual scope s.heap.objs.size f cd::outer
 ex:=[]
 calm:=true
 fn:=λ_=>true
 pn:=[]
 xe:=λe s'=>wpAny (model P w) (A.deeper (envOfC qual scope s.heap.objs.size f cd)) (leaving (envOfC qual scope s.heap.objs.size f cd) e) (λ_ s''=>CX outer H s E e s'') (λe' s''=>CX outer H s E e' s'') s'
theorem Z4(h:sc.names.lookup x=some .cell):∃c,(cellsFrom n sc.names []).lookup x=some c:=by
 have q:=PySem.W.cellsFrom_some sc.names n [] (.inl h);exact Zws.mp q
theorem jc{s1:Shared}{E:XK}{vs:List V}
  (S:Bu N ps scope) (hd:A.handled=none) (e0:DP P w K mg base A outer s H) (hl:vs.length=ps.length) (r:AC vs us)
  (x:InCallC s s.heap.objs.size (bindL (envOfC qual scope s.heap.objs.size f cd).kindOf (ps.zip us) λ_=>none) (cellsFrom (s.heap.objs.size+1) scope.names []) (bindC (envOfC qual scope s.heap.objs.size f cd).kindOf (ps.zip us) λ_=>none) s1) :
  Inv (No CX P w K mg base N qual scope f cd A outer s H E) [] (Io N vs) H s1:=by
 have hpl:ps.length<=N.length:=by have:=congrArg Zxn S.pre;rw[Zyy] at this;lia
 let⟨h1,tk,rfl,hk⟩:=x.done;have noA:∀b:Addr,b∉(No CX P w K mg base N qual scope f cd A outer s H E).ex:=λb z=>absurd (show b∈([]:List Addr) from z) (by simp);refine⟨⟨e0.mod,S.kind,rfl,rfl,Zzu _,λy z c h1 h2=>?_,λy hy=>?_,λy c _ h=>?_,λ_=>hd,Around.frames_deeper e0.frames,.inr ⟨rfl,rfl⟩,λb z=>absurd z (noA b),e0.bs,e0.bsz,λb _ _=>noA b,λb z=>absurd z (noA b),e0.funs,e0.frf⟩,
  rfl,e0.bare,Un.kept hk,⟨_,x.toInCall.ns,λi y v h1 h2 h3=>?_⟩,λy c h=>⟨_,x.cell y c h⟩,e0.hok.fresh (Zzu _),λy c h=>?_,λp hp=>absurd (show p∈([]:List (Addr×Obj)) from hp) (by simp),e0.hok.kept hk,?_⟩
 ·exact name_of_addr x.apart (Zxo h1) (Zxo h2)
 ·have hy:scope.names.lookup y=some .cell\/scope.names.lookup y=some .free:=hy
  rcases hy with hy | hy
  ·exact Z4 hy
  ·exact absurd rfl (S.nofree _ (Zxo hy))
 ·exact Nat.le_of_lt (x.above y c (Zxo h))
 ·have hi:i<vs.length:=by
   unfold Io at h2;by_cases hi:i<vs.length
   ·exact hi
   ·rw[Zy2 (by simpa using hi)] at h2;rw[List.getElem?_replicate] at h2;split at h2<;>cases h2
  have ha:vs[i]?=some v:=by
   unfold Io at h2;rw[Zxw (by simpa using hi),Zzx] at h2;cases e:vs[i]? with
   |none=>rw[e] at h2;cases h2
   |some a=>rw[e] at h2;cases h2;rfl
  let⟨u,hu,rv⟩:=r.get ha;have hp:ps[i]?=some y:=by
   rw[<- S.pre,Zvy (by lia)];exact h1
  have ndP:ps.Nodup:=by rw[<- S.pre];exact S.nd.sublist (List.take_sublist _ _)
  refine⟨u,rv,?_⟩;rcases S.par y (Zzn hp) with k | k
  ·exact .inl ⟨k,Us ndP hp hu k⟩
  ·let⟨c,e⟩:=Z4 (n:=s.heap.objs.size+1) k;refine .inr ⟨.inl k,c,e,?_⟩;have q:=x.cell y c e;rw[Uu ndP hp hu (by show scope.names.lookup y≠_;rw[k];decide)] at q;exact q
 ·exact e0.hok.fresh (Nat.le_of_lt (x.above y c (Zxo h)))
 ·unfold Io;show _=N.length;rw[Zz8,Zzz,List.length_replicate];lia
theorem sv{k:Nat}{name:Str}{dV kV doc pm cdv ct:Value}{an:Option Addr}
  {osl:Array (Option Value)} {N ps:List Str} {sp:Sp} (lk:K.lookup f=some ⟨oc,od,.func (Zxm name qual params body scope dV kV doc pm an cdv ct),osl⟩) (hcd:Zuz K cdv qual=true) (S:Bu N ps scope)
  (len:∀vs H Q E,sp vs H Q E->vs.length=ps.length)
  (hbody:∀(A:Around) (outer:List Env) (s:Shared) (H:Hp) (vs:List V) (Q:VK) (E:XK),AM k (A.deeper (envOfC qual scope s.heap.objs.size f cdv))->sp vs H Q E ->
   ∃t,PSs (No CX P w K mg base N qual scope f cdv A outer s H E) body t/\t {nx:=λ_ H'=>Q .non H',rt:=Q} (Io N vs) H) :
  Aq P w K mg base CX (k+1) f (Zxm name qual params body scope dV kV doc pm an cdv ct) ps sp:=by
 refine⟨len,λA outer s H args us vs Q E hr e0 hb r hsp=>?_⟩;have hl:=len _ _ _ _ hsp;have KX:K.In s.heap:=e0.mod.kin.keeps λb o e=>(e0.bs b o e).1;have lim:s.heap.NoLimit:=e0.mod.nolimit.keeps λb o e=>(e0.bs b o e).1;have hkind:∀y∈ps.zip us,scope.names.lookup y.1=some .local\/(scope.names.lookup y.1=some .cell/\((cellsFrom (s.heap.objs.size+1) scope.names []).lookup y.1).isSome=true):=λ⟨n,v⟩ hy=>by
  rcases S.par n (List.of_mem_zip hy).1 with q | q
  ·exact .inl q
  ·exact .inr ⟨q,PySem.W.cellsFrom_some _ _ _ (.inl q)⟩
 refine codeAny_call_function hr.depth (KX _ _ lk) rfl S.co S.gen rfl (PySem.W.codeRec_of KX hcd) (hb _ _ _ _ ?_);refine wpAny_newFunctionEnv_cells S.kind hkind λenv he s1 x=>?_;subst he;refine⟨lim.keeps x.toInCall.keep,codeAny_func ?_⟩;let⟨t,ht,hq⟩:=hbody A outer s H vs Q E (hr.deeper _) hsp;have I:Inv (No CX P w K mg base N qual scope f cdv A outer s H E) [] (Io N vs) H s1:=jc S hr.hd e0 hl r x;refine wpAny_mono (ht [] s1 (Io N vs) H _ I hq) (λfl s' hs=>?_) λe s' hs=>hs;have fin:∀{σ':St} {H':Hp} {v:V} {u:Value},Inv (No CX P w K mg base N qual scope f cdv A outer s H E) [] σ' H' s'->AE v u->Q v H'->CE outer P w H s Q u s' :=
  λ{σ' H' v u} J rv q=>⟨v,H',J.os,J.bare,J.base,J.hok,rv,q⟩
 cases fl with
 |ret u =>
  let⟨v,σ',H',J,rv,q⟩:=hs;exact fin J rv q
 |next =>
  let⟨σ',H',J,q⟩:=hs;exact fin (v:=V.non) (u:=Value.none) J rfl q
 |brk =>
  let⟨_,_,_,q⟩:=hs;exact False.elim q
 |cont =>
  let⟨_,_,_,q⟩:=hs;exact False.elim q
section
variable {p:Pos}{id:String}{r:List V->Hp->VK->Prop}
def tCB(r:List V->Hp->VK->Prop)(t:TA):TE:=λσ H Q=>t σ H λvs H1=>r vs H1 Q
theorem om(hc:AI X (.builtin id) r)(hg:Gl X x)(hm:X.mg x=none)(hv:bootBuiltins x=some (.builtin id))(ha:PA X (e::es) t)(hn:x ≠ "__name__" := by decide)(hdb:(x == ("__debug__" : Str))=false:=by decide)
  (he:starEach (e::es) X.env=(false,eval e X.env)::starEach es X.env:=by rfl) (hpl:(backTo pos (starEach es X.env)).any (·.1)=false:=by rfl):PE X (.Call (.Name x p) (e::es) [] pos) (tCB r t):=by
 intro pins s σ H Q I h;refine wpAny_Call_Name_kw (Gz I hg hm hv ?_ hn hdb);exact PyProof.Rows.callWith_builtin1 (thn (ha pos pins s σ H _ I h) λus s1 z0=>by let⟨vs,H1,I1,r1,q1⟩:=z0;exact hc pins s1 σ H1 vs us Q I1 r1 q1) he hpl
theorem ic(hc:AI X (.type T) r)(hg:Gl X x)(hm:X.mg x=none)(hv:bootBuiltins x=some (.type T))(ha:PA X (e::es) t)(hn:x ≠ "__name__" := by decide)(hdb:(x == ("__debug__" : Str))=false:=by decide)
  (he:starEach (e::es) X.env=(false,eval e X.env)::starEach es X.env:=by rfl) (hpl:(backTo pos (starEach es X.env)).any (·.1)=false:=by rfl):PE X (.Call (.Name x p) (e::es) [] pos) (tCB r t):=by
 intro pins s σ H Q I h;refine wpAny_Call_Name_kw (Gz I hg hm hv ?_ hn hdb);exact Zxp (thn (ha pos pins s σ H _ I h) λus s1 z0=>by let⟨vs,H1,I1,r1,q1⟩:=z0;exact hc pins s1 σ H1 vs us Q I1 r1 q1) he hpl
end
end L2
open L2
variable {xs:List V}{H H' H1:Hp}{g:TG}{X:Cx}{σ:St}{v:V}{t:TA}{ta te:TE}{r:Str×List Key}{kvs:List (Key×V)}{CX:CXT}{sp:Sp}{ks:List Key}{tt:TT}{J:It}{yl:Nat->V->Prop}{rm:V->List V->Hp->VK->Prop}{ss:List (Bool×Addr×List V)}
namespace HT
open PySem PyProof.Rows
section
open PySem.SeqAt
open PySem.AutoSeq1 (wpAny_loadPart')
open PySem.MeetsSeq PySem.MeetsSeq2 PySem.MeetsSeq3
end
theorem za{t:Addr}{vs ws:List Value}(ht:IsTup s.heap t vs.toArray)(hb:IsTup s.heap b ws.toArray)(hv:vs≠[])
  (h1:ws=[]->Q (.ref t) s) (h2:ws≠[]->Q (.ref s.heap.objs.size) {s with heap:=s.heap.push {cls:=.type "tuple",data:=.seq (vs++ws).toArray}})
  (hsz:vs.length+ws.length<=sizeLine):wpAny (model prog w) A (binaryOp .Add (.ref t) (.ref b)) Q E s:=by
 let⟨⟨cls,dd,data,sl⟩,ho,hc,n,hd⟩:=id ht;let⟨⟨cls2,dd2,data2,sl2⟩,ho2,hc2,n2,hd2⟩:=id hb;simp only at hc hd hc2 hd2;subst hc hd hc2 hd2;have e:vs.toArray++ws.toArray=(vs++ws).toArray:=by simp
 by_cases hw:ws=[]
 ·exact concat_meets ⟨_,ho,rfl⟩ ⟨_,ho2,rfl⟩ noFill_tuple_add seq_tuple_add Zvk Zvo (Zvx _ _)
   (tuple_addW1 t b vs.toArray ws.toArray n n2 dd dd2 sl sl2 (by simpa using hv) (by simp[hw])) ⟨ho,ho2,h1 hw⟩
 ·refine concat_meets ⟨_,ho,rfl⟩ ⟨_,ho2,rfl⟩ noFill_tuple_add seq_tuple_add Zvk Zvo (Zvx _ _)
   (tuple_addW2 t b vs.toArray ws.toArray n n2 dd dd2 sl sl2 (by simpa using hv) (by simpa using hw) (by rw[Zzr,Zzr];exact hsz)) ⟨ho,ho2,?_⟩
  rw[e];exact h2 hw
noncomputable def sIx(n d:Nat):Option Int->Nat
 |none=>d
 |some v=>if v<0 then (v+(n:Int)).toNat else min v.toNat n
theorem mv(n d:Nat):sIx n d none=d:=rfl
theorem mx(n d:Nat)(hd:d<=n)(o:Option Int):sIx n d o<=n:=by
 cases o with
 |none=>exact hd
 |some v =>
  show (if v<0 then (v+(n:Int)).toNat else min v.toNat n)<=n;by_cases hv:v<0
  ·rw[GE hv];lia
  ·rw[GD hv];exact Nat.min_le_right _ _
theorem gl(v:Int)(n d:Nat):(if v<0 then max (v+(n:Int)) 0 else min v (n:Int))=((sIx n d (some v):Nat):Int):=by
 show (if v<0 then max (v+(n:Int)) 0 else min v (n:Int))=(((if v<0 then (v+(n:Int)).toNat else min v.toNat n):Nat):Int);by_cases hv:v<0
 ·simp only[GE hv];lia
 ·simp only[GD hv];lia
theorem c9(lo hi:Option Int)(n:Nat):Zw2 lo hi 1 (n:Int)=(((sIx n 0 lo:Nat):Int),((sIx n n hi:Nat):Int)):=by
 have h1:¬ ((1:Int)<0):=by lia
 unfold Zw2;simp only[h1,if_false];refine Prod.ext ?_ ?_
 ·cases lo with
  |none=>rfl
  |some v=>exact gl v n 0
 ·cases hi with
  |none=>rfl
  |some v=>exact gl v n n
theorem Zw(i j:Nat):Zwx (i:Int) (j:Int) 1=j - i:=by
 unfold Zwx;have h1:(1:Int) > 0:=by lia
 simp only[h1,if_true,Int.ediv_one];split<;>lia
theorem Px{v:Value}{o:Option Int}{Q:Option Int->Shared->Prop}(p:IsPart v o)(h:Q o s):wpAny (model prog w) A (Builtin.Slice.slicePartIndex v) Q E s:=by
 cases p with
 |none=>exact slicePart_none h
 |int i t=>exact slicePart_int h
theorem Hk{sl:Addr}{vl vu:Value}{Q:Int×Int×Nat->Shared->Prop}(hs:s.heap.IsSliceOf sl vl vu .none)(pl:IsPart vl lo)(pu:IsPart vu hi)
  (h:Q (((sIx n 0 lo:Nat):Int),1,sIx n n hi - sIx n 0 lo) s):wpAny (model prog w) A (Builtin.Slice.sliceApplied (.ref sl) (pure (n:Int))) Q E s:=by
 let⟨os,hos,hcs,hds⟩:=id hs;unfold Builtin.Slice.sliceApplied Builtin.Slice.sliceFields;refine GF (GF (wpAny_field hos hds (x:=vl) rfl (GF (wpAny_field hos hds (x:=vu) rfl (GF (wpAny_field hos hds (x:=.none) rfl (GG ?_)))))));refine GF (slicePart_none ?_);show wpAny _ _ (if ((1:Int) == 0)=true then _ else _) _ _ s;rw[GD (by decide)];refine GF (Px pl (GF (Px pu (GF (GG ?_)))));show wpAny _ _ (match Zw2 lo hi 1 (n:Int) with | (lo,hi)=>pure (lo,(1:Int),Zwx lo hi 1)) _ _ s;rw[c9 lo hi n];show wpAny _ _ (pure (((sIx n 0 lo:Nat):Int),(1:Int),Zwx ((sIx n 0 lo:Nat):Int) ((sIx n n hi:Nat):Int) 1)) _ _ s;rw[Zw];exact GG h
theorem nv(xs:Array Value)(i k:Nat):((Zys k).filterMap λ(m:Nat)=>xs[((i:Int)+(m:Int)*1).toNat]?).toArray=((xs.toList.drop i).take k).toArray:=by
 have e:(λ(m:Nat)=>xs[((i:Int)+(m:Int)*1).toNat]?)=λm=>xs[i+m]?:=by
  funext m;have:((i:Int)+(m:Int)*1).toNat=i+m:=by lia
  rw[this]
 rw[e];have:=pick_run xs i k;rw[List.filterMap_map] at this;have e2:((λx=>xs[x]?)∘λx=>i+x)=λm=>xs[i+m]?:=rfl;rw[e2] at this;rw[this]
theorem Me{t sl:Addr}{vl vu:Value}(ht:IsTup s.heap t items)(hs:s.heap.IsSliceOf sl vl vu .none)(pl:IsPart vl lo)(pu:IsPart vu hi)
  (hw:¬ (sIx items.size 0 lo=0/\sIx items.size items.size hi=items.size))
  (h:Q (.ref s.heap.objs.size) {s with heap:=s.heap.push {cls:=.type "tuple",data:=.seq ((items.toList.drop (sIx items.size 0 lo)).take (sIx items.size items.size hi - sIx items.size 0 lo)).toArray}})
  (hsz:items.size<=sizeLine):wpAny (model prog w) A (getItem (.ref t) (.ref sl)) Q E s:=by
 have htake:sizeOk (.seq ((items.toList.drop (sIx items.size 0 lo)).take (sIx items.size items.size hi - sIx items.size 0 lo)).toArray):=by
  show ((items.toList.drop (sIx items.size 0 lo)).take (sIx items.size items.size hi - sIx items.size 0 lo)).toArray.size<=sizeLine;rw[Zzr,Zyy,Zy4,Zy8];lia
 have hj:sIx items.size items.size hi<=items.size:=mx _ _ (Zzu _) hi;let⟨os,hos,hcs,hds⟩:=id hs;have hTs:s.TypeIs (.ref sl) "slice" := ⟨os,hos,hcs⟩;unfold getItem;try with_reducible refine wpAny_holding ?_
 first | refine GF (GG ?_) | skip
 refine GF (wpAny_sequenceKey ht.typeIs (by decide) ?_);refine GF (wpAny_callSpecial?_slot (name:=Str.ofString "__getitem__") ht.typeIs Zya
  (wpAny_call_entry Zya ht.typeIs entry_tuple_getitem ?_ (args_tuple_getitem _ _)))
 show wpAny _ _ (Builtin.Tuple.tupleItemsOf (.ref t) >>= _) _ _ s;refine GF (tupleItemsOf_ ht ?_);refine GF (wpAny_typeOf hTs ?_);rw[GE (by decide)];refine GF (Hk hs pl pu ?_);have hno:¬ ((((sIx items.size 0 lo:Nat):Int) == 0&&(1:Int) == 1&&(sIx items.size items.size hi - sIx items.size 0 lo) == items.size)=true):=by
  intro q;rw[Zz1,Zz1] at q;have q1:((sIx items.size 0 lo:Nat):Int)=0:=eq_of_beq q.1.1;have q2:sIx items.size items.size hi - sIx items.size 0 lo=items.size:=eq_of_beq q.2;exact hw ⟨by lia,by lia⟩
 show wpAny _ _ (if (((sIx items.size 0 lo:Nat):Int) == 0&&(1:Int) == 1&&(sIx items.size items.size hi - sIx items.size 0 lo) == items.size)=true then _ else _) _ _ s;rw[GD hno,nv];first
  |exact GF (m:=Zwr _) (wpAny_newObj_type (GG ⟨_,rfl,GG h⟩) htake)
  |exact GF (m:=Zwr _) (wpAny_newObj_type (GF (GG (GG ⟨_,rfl,GG h⟩))) htake)
  |exact GF (GF (m:=Zwr _) (wpAny_newObj_type (GG (GG ⟨_,rfl,GG h⟩)) htake))
  |exact GF (GF (m:=Zwr _) (wpAny_newObj_type (GG ⟨_,rfl,GG h⟩) htake))
end HT
namespace L2
open PySem PySem.Spec PyProof.Rows
abbrev TO:=St->Hp->(Option Int->Hp->Prop)->Prop
def PO(X:Cx)(e:Option Expr)(t:TO):Prop :=
 ∀(pins:List (Addr×Obj)) (s:Shared) (σ:St) (H:Hp) (Q:Option Int->Hp->Prop),Inv X pins σ H s->t σ H Q ->
  wpAny (model X.prog X.w) X.A (evalPart e X.env) (λu s'=>∃o H',Inv X pins σ H' s'/\IsPart u o/\Q o H') X.xe s
def EW:TO:=λ_ H Q=>Q none H
def zy(t:TE):TO:=λσ H Q=>t σ H λx H1=>∃i,x=.int i/\Q (some i) H1
section
variable {lo hi:Option Expr}{tl th:TO}{p2:Pos}
theorem Db:PO X none EW:=by
 intro pins s σ H Q I h;rw[evalPart_none];exact GG ⟨none,H,I,.none,h⟩
theorem Cc(h:PE X e te):PO X (some e) (zy te):=by
 intro pins s σ H Q I hw;rw[evalPart_some];refine thn (h pins s σ H _ I hw) λu s1 z0=>?_;let⟨x,H1,I1,r1,q1⟩:=z0;let⟨i,rfl,q⟩:=q1;let⟨t,rfl⟩:=r1;exact⟨some i,H1,I1,.int i t,q⟩
def SlR(X:Cx)(r:V->Option Int->Option Int->Hp->VK->Prop):Prop :=
 ∀(pins:List (Addr×Obj)) (s:Shared) (σ:St) (H:Hp) (x:V) (v vl vu:Value) (lo hi:Option Int) (sl:Addr) (Q:VK),Inv X pins σ H s->AE x v->s.heap.IsSliceOf sl vl vu .none->IsPart vl lo->IsPart vu hi->r x lo hi H Q ->
  ∃T id,typeLookup (.type T) "__getitem__" = pure (some (.builtin id))/\s.TypeIs v T/\wpAny (model X.prog X.w) X.A (getItem v (.ref sl)) (EP X pins σ Q) X.xe s
def tSl(r:V->Option Int->Option Int->Hp->VK->Prop)(te:TE)(tl th:TO):TE:=λσ H Q=>te σ H λx H1=>tl σ H1 λl H2=>th σ H2 λu H3=>r x l u H3 Q
theorem C5{r:V->Option Int->Option Int->Hp->VK->Prop}(hr:SlR X r)(he:PE X e te)(hl:PO X lo tl)(hu:PO X hi th):PE X (.Subscript e (.Slice lo hi none p2) pos) (tSl r te tl th):=by
 intro pins s σ H Q I h;refine Subscript_ (thn (he pins s σ H _ I h) λv s1 z0=>?_);let⟨x,H1,I1,r1,q1⟩:=z0;refine wpAny_Slice (thn (hl pins s1 σ H1 _ I1 q1) λvl s2 ⟨l,H2,I2,pl,q2⟩=>thn (hu pins s2 σ H2 _ I2 q2) λvu s3 z0=>?_);let⟨u,H3,I3,pu,q3⟩:=z0;rw[evalPart_none];refine GG ?_;have I4:Inv X pins σ H3 {s3 with heap:=s3.heap.push {cls:=.type "slice",data:=.fields #[vl,vu,.none]}}:=I3.kept (t':=s3.toks) λb ob q=>Zzv _ q;let⟨T,id,hT,ht,hg⟩:=hr pins {s3 with heap:=s3.heap.push {cls:=.type "slice",data:=.fields #[vl,vu,.none]}} σ H3 x v vl vu l u s3.heap.objs.size Q I4 r1 (Heap.IsSliceOf.new ..) pl pu q3;show wpAny (model X.prog X.w) X.A (subscriptTail e (.Slice lo hi none p2) v (.ref s3.heap.objs.size)) (EP X pins σ Q) X.xe {s3 with heap:=s3.heap.push {cls:=.type "slice",data:=.fields #[vl,vu,.none]}};exact tail_any (ops:=[.ref s3.heap.objs.size,v]) ht hT hg (by with_unfolding_all rfl)
noncomputable def Fk(xs:List V)(lo hi:Option Int):List V:=(xs.drop (HT.sIx xs.length 0 lo)).take (HT.sIx xs.length xs.length hi - HT.sIx xs.length 0 lo)
theorem Jp(xs:List V)(lo hi:Option Int):(Fk xs lo hi).length<=xs.length:=by
 unfold Fk;rw[Zyy,Zy4];lia
def rSlT(K:Zzy):V->Option Int->Option Int->Hp->VK->Prop:=λx lo hi H Q=>∃a xs,x=.ref a/\SqT K H a xs /\
 ¬ (HT.sIx xs.length 0 lo=0/\HT.sIx xs.length xs.length hi=xs.length)/\∀p,H p=none->Q (.ref p) (upd H p (.tup (Fk xs lo hi)))
theorem A1a:SlR X (rSlT X.K):=by
 intro pins s σ H x v vl vu lo hi sl Q I rx hs pl pu h;let⟨a,xs,rfl,hx,hw,q⟩:=h;cases rx;let⟨its,r,ht,hz⟩:=I.tuple hx;have hlen:its.toArray.size=xs.length:=by rw[Zzr];exact r.length.symm
 refine⟨"tuple",_,Zya.lookup,ht.typeIs,?_⟩;refine HT.Me ht hs pl pu (by rw[hlen];exact hw) ?_ (by rw[hlen];exact hz);rw[hlen];refine⟨.ref s.heap.objs.size,_,I.laid (t':=s.toks) (o:=.tup (Fk xs lo hi)) (λb ob q=>Zzv _ q) (Zzu _) ?_,rfl,q _ (I.hok.fresh (Zzu _))⟩;exact⟨Zzp (Jp xs lo hi) hz,_,(r.drop (HT.sIx xs.length 0 lo)).take (HT.sIx xs.length xs.length hi - HT.sIx xs.length 0 lo),IsTup.new _ _⟩
def A3c(K:Zzy):R2:=λx y H Q=>∃a b xs ys,x=.ref a/\y=.ref b/\SqT K H a xs/\SqT K H b ys/\xs≠[]/\xs.length+ys.length<=sizeLine /\
 (ys=[]->Q (.ref a) H)/\(ys≠[]->∀p,H p=none->Q (.ref p) (upd H p (.tup (xs++ys))))
theorem AC.nil_iff(r:AC xs us):us=[]↔xs=[]:=by
 cases r with
 |nil=>simp
 |cons _ _=>simp
theorem wz:OpR X (binaryOp .Add) (A3c X.K):=by
 intro pins s σ H x y v u Q I rx ry h;let⟨a,b,xs,ys,rfl,rfl,ha,hb,hx,hz,q1,q2⟩:=h;cases rx;cases ry;let⟨its,r1,p1,_⟩:=I.tuple ha;let⟨its2,r2,p2,_⟩:=I.tuple hb;refine HT.za p1 p2 (λz=>hx (r1.nil_iff.mp z)) (λz=>⟨.ref a,H,I,rfl,q1 (r2.nil_iff.mp z)⟩) (λz=>?_) (by rw[<- r1.length,<- r2.length];exact hz);refine⟨.ref s.heap.objs.size,_,I.laid (t':=s.toks) (o:=.tup (xs++ys)) (λb ob q=>Zzv _ q) (Zzu _) ?_,rfl,q2 (λw=>z (r2.nil_iff.mpr w)) _ (I.hok.fresh (Zzu _))⟩;exact⟨by rw[Zz8];exact hz,_,r1.append r2,IsTup.new _ _⟩
end
def ixN(n:Nat)(i:Int):Option Nat:=if 0<=i then (if i<n then some i.toNat else none) else if -(n:Int)<=i then some (i+n).toNat else none
noncomputable def atI{α:Type}(xs:List α)(i:Int):Option α:=(ixN xs.length i).bind λj=>xs[j]?
theorem fw{i:Int}(h:ixN n i=some j):seqIndex? i n=some j/\j<n/\-(n:Int)<=i/\i<n:=by
 unfold ixN at h;by_cases h0:0<=i
 ·rw[GE h0] at h;by_cases h1:i<n
  ·rw[GE h1] at h;have e:i.toNat=j:=Zzm h;exact⟨by rw[seqIndex_of h0 h1,e],by lia,by lia,h1⟩
  ·rw[GD h1] at h;cases h
 ·rw[GD h0] at h;by_cases h1:-(n:Int)<=i
  ·rw[GE h1] at h;have e:(i+n).toNat=j:=Zzm h;exact⟨by rw[seqIndex_neg (by lia) h1,e],by lia,h1,by lia⟩
  ·rw[GD h1] at h;cases h
theorem Wy{α:Type}{xs:List α}{i:Int}{v:α}(h:atI xs i=some v):∃j,seqIndex? i xs.length=some j/\xs[j]?=some v/\j<xs.length/\-(xs.length:Int)<=i/\i<xs.length:=by
 unfold atI at h;cases e:ixN xs.length i with
 |none=>rw[e] at h;cases h
 |some j =>
  rw[e] at h;let⟨h1,h2,h3,h4⟩:=fw e;exact⟨j,h1,h,h2,h3,h4⟩
theorem K4{α:Type}{xs:List α}{v:α}(h:xs[j]?=some v):atI xs (j:Int)=some v:=by
 have hj:j<xs.length:=(Zzf.mp h).1;have e:ixN xs.length (j:Int)=some j:=by
  unfold ixN;rw[GE (by lia),GE (by lia)];simp
 unfold atI;rw[e];exact h
def Pn(b:Expr):Prop:=∀o i,subscripted b false o i=operate [o,i] (getItem o i)
def IxR(X:Cx)(r:R2):Prop :=
 ∀(value slice:Expr) (pins:List (Addr×Obj)) (s:Shared) (σ:St) (H:Hp) (x y:V) (v u:Value) (Q:VK),Inv X pins σ H s->AE x v->AE y u->r x y H Q ->
  subscripted slice false v u=operate [v,u] (getItem v u)->wpAny (model X.prog X.w) X.A (subscriptTail value slice v u) (EP X pins σ Q) X.xe s
def MtR(X:Cx)(id:String)(r:V->List V->Hp->VK->Prop):Prop :=
 ∀(pins:List (Addr×Obj)) (s:Shared) (σ:St) (H:Hp) (x:V) (xs:List V) (v:Value) (us:List Value) (Q:VK),Inv X pins σ H s->AE x v->AC xs us->r x xs H Q ->
  wpAny (model X.prog X.w) X.A (call (.builtin id) (v::us)) (EP X pins σ Q) X.xe s
section
variable {a b:Expr}{tb:TE}
theorem ef{r:R2}(hr:IxR X r)(ha:PE X a ta)(hb:PE X b tb)(hs:Pn b):PE X (.Subscript a b pos) (tOp r ta tb):=by
 intro pins s σ H Q I h;exact Subscript_ (A2e ha hb I h λv u s2 x y H2 I2 rx ry q=>hr a b pins s2 σ H2 x y v u Q I2 rx ry q (hs _ _))
def A3a(K:Zzy):R2:=λx y H Q=>∃p xs i v,x=.ref p/\y=.int i/\SqL K H p xs/\atI xs i=some v/\Q v H
def rIxT(K:Zzy):R2:=λx y H Q=>∃p xs i v,x=.ref p/\y=.int i/\SqT K H p xs/\atI xs i=some v/\Q v H
def rIxS:R2:=λx y H Q=>∃z i c,x=.str z/\y=.int i/\z.length<=sizeLine/\atI z.cps.toList i=some c/\Q (.str ⟨#[c]⟩) H
theorem W5:IxR X (A3a X.K):=by
 intro value slice pins s σ H x y v u Q I rx ry h hs;let⟨p,xs,i,z,rfl,rfl,hq,he,q⟩:=h;cases rx;let⟨t,rfl⟩:=ry;let⟨its,r,pl,hz⟩:=I.list hq;let⟨j,h1,h2,h3,h4,h5⟩:=Wy he;let⟨w,ew,rw'⟩:=r.get h2;have hl:=r.length;have hn:=Jj;have fin:EP X pins σ Q w s:=⟨z,H,I,rw',q⟩;by_cases h0:0<=i
 ·have hj:i.toNat=j:=by
   rw[seqIndex_of h0 h5] at h1;exact Zzm h1
  exact item_listR pl.isList h0 (by lia) (by rw[hj];simpa using ew) fin hs
 ·have hj:(i+(its.toArray.size:Int)).toNat=j:=by
   rw[seqIndex_neg (by lia) h4] at h1;rw[Zzr,<- hl];exact Zzm h1
  exact subscriptTail_builtinR (x:=w) pl.isList.typeIs slot_list_getitem.lookup
   (wpAny_getItem_list_neg (Q:=λr s'=>r=w/\EP X pins σ Q r s') pl.isList (by lia) (by rw[Zzr]<;>lia) (by lia) (by rw[hj];simpa using ew) ⟨rfl,fin⟩) hs
theorem A20:IxR X (rIxT X.K):=by
 intro value slice pins s σ H x y v u Q I rx ry h hs;let⟨p,xs,i,z,rfl,rfl,hq,he,q⟩:=h;cases rx;let⟨t,rfl⟩:=ry;let⟨its,r,pl,hz⟩:=I.tuple hq;let⟨j,h1,h2,h3,h4,h5⟩:=Wy he;let⟨w,ew,rw'⟩:=r.get h2;have hl:=r.length;have hn:=Jj;have fin:EP X pins σ Q w s:=⟨z,H,I,rw',q⟩;exact subscriptTail_builtinR (x:=w) pl.typeIs slot_tuple_getitem.lookup
  (getItem_tuple (j:=j) (Q:=λr s'=>r=w/\EP X pins σ Q r s') pl (by lia) (by lia) (by rw[Zzr,<- hl];exact h1) (by simpa using ew) ⟨rfl,fin⟩) hs
theorem A22:IxR X rIxS:=by
 intro value slice pins s σ H x y v u Q I rx ry h hs;let⟨z,i,c,rfl,rfl,hz,he,q⟩:=h;let⟨t,rfl⟩:=rx;let⟨t',rfl⟩:=ry;let⟨j,h1,h2,h3,h4,h5⟩:=Wy he;have hl:z.cps.toList.length=z.length:=by simp[Str.length]
 rw[hl] at h1 h4 h5;have hn:=Jj;exact tail_any (typeIs_str s z t) slot_str_getitem.lookup (getItem_str (c:=c) (by
  have e1:decide (i < -(2^63:Int))=false:=GC (by lia)
  have e2:decide (i≥2^63)=false:=GC (by lia)
  rw[e1,e2,Bool.or_false]) (by rw[h1];simpa using h2) ⟨.str ⟨#[c]⟩,H,I.tok _,⟨_,rfl⟩,q⟩) hs
theorem av(its:List Value)(n j:Nat)(u:Value):Obj.mapSeq (·.setIfInBounds j u) {cls:=.type "list",data:=.seq its.toArray n}={cls:=.type "list",data:=.seq (its.set j u).toArray n}:=by
 simp[Obj.mapSeq]
theorem Inv.lst(I:Inv X pins σ H s)(h:H p=some (.lst xs)) :
  ∃(its:List Value) (n:Nat),AC xs its/\s.heap.get? p=some {cls:=.type "list",data:=.seq its.toArray n}/\xs.length<=sizeLine:=by
 let⟨z,its,n,r,e⟩:=I.hok p _ h;exact⟨its,n,r,e,z⟩
theorem Inv.lstUpd{ys:List V}{its':List Value}{n':Nat}{f:Obj->Obj}(I:Inv X pins σ H s)(h:H p=some (.lst xs))
  (ho:s.heap.get? p=some {cls:=.type "list",data:=.seq its.toArray n}) (hf:f {cls:=.type "list",data:=.seq its.toArray n}={cls:=.type "list",data:=.seq its'.toArray n'}) (r:AC ys its') (hz:ys.length<=sizeLine) (t:Nat) :
  Inv X pins σ (upd H p (.lst ys)) {s with heap:=s.heap.update p f,toks:=t}:=by
 have e:(s.heap.update p f).get? p=some {cls:=.type "list",data:=.seq its'.toArray n'}:=by
  rw[Zxv f ho (by rw[hf]<;>rfl),hf]
 refine I.write (x:=p) (e:=p) (by rw[h];trivial) (.inl rfl) (λb u hb q=>(Zyo _ _ (Zza hb)).trans q) ⟨_,e⟩ ?_;exact⟨hz,its',n',r,e⟩
def ET:V->V->V->Hp->(Hp->Prop)->Prop:=λo i v H Q=>∃p xs k j,o=.ref p/\i=.int k/\H p=some (.lst xs)/\ixN xs.length k=some j/\Q (upd H p (.lst (xs.set j v)))
theorem G7:vc X ET:=by
 intro pins s σ H o i v ov iv u Q I ro ri rv h;let⟨p,xs,k,j,rfl,rfl,hp,hj,q⟩:=h;cases ro;let⟨t,rfl⟩:=ri;let⟨its,n,r,ho,hz⟩:=I.lst hp;let⟨h1,h2,h3,h4⟩:=fw hj;have hl:=r.length;have hn:=Jj;have I':Inv X pins σ (upd H p (.lst (xs.set j v))) {s with heap:=s.heap.update p (Obj.mapSeq (·.setIfInBounds j u))} :=
  I.lstUpd hp ho (av its n j u) (r.set rv j) (by rw[List.length_set];exact hz) s.toks
 by_cases h0:0<=k
 ·have hk:k.toNat=j:=by
   rw[seqIndex_of h0 h4] at h1;exact Zzm h1
  exact PySem.W.ki_setAt ho h0 (by lia) (by rw[Zzr,<- hl];exact h4) (by rw[hk];exact⟨_,I',q⟩)
 ·have hk:(k+(its.toArray.size:Int)).toNat=j:=by
   rw[seqIndex_neg (by lia) h3] at h1;rw[Zzr,<- hl];exact Zzm h1
  exact PySem.W.ki_setBack ho (by lia) (by rw[Zzr,<- hl];exact h3) (by lia) (by rw[hk];exact⟨_,I',q⟩)
theorem V2(lo hi:Option Int)(n:Nat):(sliceBounds lo hi none n).1=((HT.sIx n 0 lo:Nat):Int)/\(sliceBounds lo hi none n).2.1=((HT.sIx n n hi:Nat):Int)/\(sliceBounds lo hi none n).2.2=1:=by
 refine⟨?_,?_,rfl⟩
 ·cases lo with
  |none=>simp[sliceBounds,HT.sIx]
  |some i =>
   simp only[sliceBounds,HT.sIx,Option.getD_none,show (1:Int) > 0 by decide,if_true];by_cases h:i<0
   ·simp only[h,if_true]<;>lia
   ·simp only[h,if_false]<;>lia
 ·cases hi with
  |none=>simp[sliceBounds,HT.sIx]
  |some i =>
   simp only[sliceBounds,HT.sIx,Option.getD_none,show (1:Int) > 0 by decide,if_true];by_cases h:i<0
   ·simp only[h,if_true]<;>lia
   ·simp only[h,if_false]<;>lia
theorem S6(its:List Value)(lo hi:Option Int):slicePick its.toArray lo hi none=((its.drop (HT.sIx its.length 0 lo)).take (HT.sIx its.length its.length hi - HT.sIx its.length 0 lo)).toArray:=by
 let⟨h1,h2,h3⟩:=V2 lo hi its.toArray.size;unfold slicePick;rw[h1,h2,h3];simp only[sliceRange_one,pick_run,Zzr]<;>rfl
def A39(K:Zzy):V->Option Int->Option Int->Hp->VK->Prop:=λx lo hi H Q=>∃a xs,x=.ref a/\SqL K H a xs/\∀p,H p=none->Q (.ref p) (upd H p (.lst (Fk xs lo hi)))
theorem dh:SlR X (A39 X.K):=by
 intro pins s σ H x v vl vu lo hi sl Q I rx hs pl pu h;let⟨a,xs,rfl,hx,q⟩:=h;cases rx;let⟨its,r,ht,hz⟩:=I.list hx;have hlen:=r.length;refine⟨"list",_,slot_list_getitem.lookup,ht.isList.typeIs,?_⟩;refine wpAny_getItem_list_slice ht.isList hs pl pu .none (by simp) ?_ (by rw[Zzr]<;>lia);rw[S6,<- hlen];refine⟨.ref s.heap.objs.size,_,I.laid (t':=s.toks) (o:=.lst (Fk xs lo hi)) (λb ob q=>Zzv _ q) (Zzu _) ?_,rfl,q _ (I.hok.fresh (Zzu _))⟩;exact⟨Zzp (Jp xs lo hi) hz,_,0,(r.drop (HT.sIx xs.length 0 lo)).take (HT.sIx xs.length xs.length hi - HT.sIx xs.length 0 lo),Zzj _ rfl⟩
def Gf:V->Bool
 |.non=>true
 |.bl _=>true
 |.int _=>true
 |.str _=>true
 |_=>false
noncomputable def eqV:V->V->Bool
 |.non,.non=>true
 |.bl a,.bl b=>a == b
 |.bl a,.int b=>(if a then 1 else 0) == b
 |.int a,.bl b=>a == (if b then 1 else 0)
 |.int a,.int b=>a == b
 |.str a,.str b=>a == b
 |_,_=>false
theorem A26{y x:V}{v:Value}(ry:AE y u)(rx:AE x v)(fy:Gf y=true)(fx:Gf x=true):SeqAt.EqAt A s u v (eqV y x):=by
 cases y with
 |non =>
  cases ry;cases x with
  |non=>cases rx;exact SeqAt.EqAt.same _
  |bl b=>cases rx;exact SeqAt.EqAt.none_bool b
  |int b=>let⟨t,rfl⟩:=rx;exact SeqAt.EqAt.none_int b t
  |str b=>let⟨t,rfl⟩:=rx;exact SeqAt.EqAt.none_str b t
  |_=>exact absurd (show false=true from fx) Zzi
 |bl a =>
  cases ry;cases x with
  |non=>cases rx;exact SeqAt.EqAt.bool_none a
  |bl b=>cases rx;exact SeqAt.EqAt.bool_bool a b
  |int b=>let⟨t,rfl⟩:=rx;exact SeqAt.EqAt.bool_int a b t
  |str b=>let⟨t,rfl⟩:=rx;exact SeqAt.EqAt.bool_str a b t
  |_=>exact absurd (show false=true from fx) Zzi
 |int a =>
  let⟨t',rfl⟩:=ry;cases x with
  |non=>cases rx;exact SeqAt.EqAt.int_none a t'
  |bl b=>cases rx;exact SeqAt.EqAt.int_bool a t' b
  |int b=>let⟨t,rfl⟩:=rx;exact SeqAt.EqAt.int_int a t' b t
  |str b=>let⟨t,rfl⟩:=rx;exact SeqAt.EqAt.int_str a t' b t
  |_=>exact absurd (show false=true from fx) Zzi
 |str a =>
  let⟨t',rfl⟩:=ry;cases x with
  |non=>cases rx;exact SeqAt.EqAt.str_none a t'
  |bl b=>cases rx;exact SeqAt.EqAt.str_bool a t' b
  |int b=>let⟨t,rfl⟩:=rx;exact SeqAt.EqAt.str_int a t' b t
  |str b=>let⟨t,rfl⟩:=rx;exact SeqAt.EqAt.str_str a t' b t
  |_=>exact absurd (show false=true from fx) Zzi
 |_=>exact absurd (show false=true from fy) Zzi
noncomputable def eqU(x:V)(u:Value):Bool:=match u with
 |.none=>eqV .non x
 |.bool b=>eqV (.bl b) x
 |.int i _=>eqV (.int i) x
 |.str z _=>eqV (.str z) x
 |_=>false
theorem bj{x y:V}(r:AE y u)(f:Gf y=true):eqU x u=eqV y x:=by
 cases y with
 |non=>cases r;rfl
 |bl b=>cases r;rfl
 |int i=>let⟨t,rfl⟩:=r;rfl
 |str z=>let⟨t,rfl⟩:=r;rfl
 |_=>exact absurd (show false=true from f) Zzi
theorem Ml{x:V}:∀{xs:List V} {us:List Value},AC xs us->xs.all Gf=true->us.any (eqU x)=xs.any λy=>eqV y x
 |_,_,.nil,_=>rfl
 |y::xs,u::us,.cons r t,f=>by
  rw[Zwm,Zz1] at f;rw[Zwl,Zwl,bj r f.1,Ml t f.2]
theorem Gc{x:V}{v:Value}(rx:AE x v)(fx:Gf x=true):∀{xs:List V} {us:List Value},AC xs us->xs.all Gf=true->∀u∈us,SeqAt.EqAt A s u v (eqU x u)
 |_,_,.nil,_=>λu hu=>by cases hu
 |y::xs,u::us,.cons r t,f=>λu' hu=>by
  rw[Zwm,Zz1] at f;rcases Zzw.mp hu with rfl | hu
  ·rw[bj r f.1];exact A26 r rx f.1 fx
  ·exact Gc rx fx t f.2 u' hu
def inV(x:V)(xs:List V):Bool:=xs.any λy=>eqV y x
def rIn(K:Zzy)(neg:Bool):R2:=λx y H Q=>∃p xs,y=.ref p/\(SqL K H p xs\/SqT K H p xs)/\Gf x=true/\xs.all Gf=true/\Q (.bl (if neg then !inV x xs else inV x xs)) H
theorem ij:OpR X (compareOp .In) (rIn X.K false):=by
 intro pins s σ H x y v u Q I rx ry h;let⟨p,xs,rfl,hq,fx,fs,q⟩:=h;cases ry;rcases hq with hq | hq
 ·let⟨its,r,pl,hz⟩:=I.list hq;refine SeqAt.in_listAt (eqU x) pl.isList (λw hw=>Gc rx fx r fs w (by simpa using hw)) ⟨.bl _,H,I,rfl,?_⟩;rw[show its.toArray.any (eqU x)=its.any (eqU x) by simp,Ml r fs];exact q
 ·let⟨its,r,pl,hz⟩:=I.tuple hq;refine SeqAt.in_tupleAt (eqU x) pl (λw hw=>Gc rx fx r fs w (by simpa using hw)) ⟨.bl _,H,I,rfl,?_⟩;rw[show its.toArray.any (eqU x)=its.any (eqU x) by simp,Ml r fs];exact q
theorem Vg:OpR X (compareOp .NotIn) (rIn X.K true):=by
 intro pins s σ H x y v u Q I rx ry h;let⟨p,xs,rfl,hq,fx,fs,q⟩:=h;cases ry;rcases hq with hq | hq
 ·let⟨its,r,pl,hz⟩:=I.list hq;refine SeqAt.notIn_listAt (eqU x) pl.isList (λw hw=>Gc rx fx r fs w (by simpa using hw)) ⟨.bl _,H,I,rfl,?_⟩;rw[show its.toArray.any (eqU x)=its.any (eqU x) by simp,Ml r fs];exact q
 ·let⟨its,r,pl,hz⟩:=I.tuple hq;refine SeqAt.notIn_tupleAt (eqU x) pl (λw hw=>Gc rx fx r fs w (by simpa using hw)) ⟨.bl _,H,I,rfl,?_⟩;rw[show its.toArray.any (eqU x)=its.any (eqU x) by simp,Ml r fs];exact q
theorem Vf:OpR X (compareOp .NotIn) (λx y H Q=>∃i j,x=.str i/\y=.str j/\Q (.bl (!(!(Zvp j i 0 j.length 1).isEmpty))) H):=by
 intro pins s σ H x y v u Q I rx ry h;let⟨i,j,rfl,rfl,q⟩:=h;let⟨t,rfl⟩:=rx;let⟨t',rfl⟩:=ry;exact notIn_str ⟨.bl _,H,I,rfl,q⟩
theorem Ih:AI X (.builtin "len") (λxs H Q=>∃p ys,xs=[.ref p]/\(SqL X.K H p ys\/SqT X.K H p ys)/\Q (.int ys.length) H):=by
 intro pins s σ H xs us Q I r h;let⟨p,ys,rfl,hq,q⟩:=h;let⟨u,rfl,rx⟩:=F9 r;cases rx;have hn:=Jj;rcases hq with hq | hq
 ·let⟨its,r',pl,hz⟩:=I.list hq;have hlen:=r'.length;exact Calls.call_len_list pl.isList (by simp only[Zzr]<;>lia) ⟨.int ys.length,H,I.tok _,⟨s.toks+1,by rw[Zzr,hlen]⟩,q⟩
 ·let⟨its,r',pl,hz⟩:=I.tuple hq;have hlen:=r'.length;exact len_tuple pl (by simp only[Zzr]<;>lia) ⟨.int ys.length,H,I.tok _,⟨s.toks+1,by rw[Zzr,hlen]⟩,q⟩
theorem Wq:AI X (.builtin "len") (λxs H Q=>∃z,xs=[.str z]/\z.length<=sizeLine/\Q (.int z.length) H):=by
 intro pins s σ H xs us Q I r h;let⟨z,rfl,hz,q⟩:=h;let⟨u,rfl,t,rfl⟩:=F9 r;have hn:=Jj;exact len_str (by lia) ⟨.int z.length,H,I.tok _,⟨_,rfl⟩,q⟩
theorem Wp:AI X (.type "list") (λxs H Q=>∃p ys,xs=[.ref p]/\(SqL X.K H p ys\/SqT X.K H p ys)/\∀l,H l=none->Q (.ref l) (upd H l (.lst ys))):=by
 intro pins s σ H xs us Q I r h;let⟨p,ys,rfl,hq,q⟩:=h;let⟨u,rfl,rx⟩:=F9 r;cases rx;have fin:∀(its:List Value),AC ys its->ys.length<=sizeLine->∀(h':Heap) (c':Nat),(∀b o',s.heap.get? b=some o'->h'.get? b=some o') ->
   h'.get? s.heap.objs.size=some {cls:=.type "list",dict:=none,data:=.seq its.toArray c',slots:=#[]}->EP X pins σ Q (.ref s.heap.objs.size) {s with heap:=h'}:=λits r' hz h' c' kp e =>
  ⟨.ref s.heap.objs.size,_,I.laid (t':=s.toks) kp (Zzu _) (show AG X.prog X.w _ h' _ (.lst ys) from ⟨hz,its,c',r',e⟩),rfl,q _ (I.hok.fresh (Zzu _))⟩
 rcases hq with hq | hq
 ·let⟨its,r',pl,hz⟩:=I.list hq;have hlen:=r'.length;let⟨o,ho,hc,n,hd⟩:=pl.isList;exact call_list_seq p (.inl rfl) ho hc hd (λh' c' kp e=>fin its r' hz h' c' kp e) (by simp only[Zzr]<;>lia)
 ·let⟨its,r',pl,hz⟩:=I.tuple hq;have hlen:=r'.length;let⟨o,ho,hc,n,hd⟩:=pl;exact call_list_seq p (.inr rfl) ho hc hd (λh' c' kp e=>fin its r' hz h' c' kp e) (by simp only[Zzr]<;>lia)
theorem T8:AI X (.type "tuple") (λxs H Q=>∃p ys,xs=[.ref p]/\((SqL X.K H p ys/\∀l,H l=none->Q (.ref l) (upd H l (.tup ys)))\/(SqT X.K H p ys/\Q (.ref p) H))):=by
 intro pins s σ H xs us Q I r h;let⟨p,ys,rfl,h⟩:=h;let⟨u,rfl,rx⟩:=F9 r;cases rx;rcases h with ⟨hq,q⟩ | ⟨hq,q⟩
 ·let⟨its,r',pl,hz⟩:=I.list hq;have hlen:=r'.length;refine call_tuple_list pl.isList (λh' kp=>?_) (by simp only[Zzr]<;>lia);have I1:Inv X pins σ H {s with heap:=h'}:=I.kept (t':=s.toks) kp;have I2:Inv X pins σ (upd H h'.objs.size (.tup ys)) {s with heap:=h'.push {cls:=.type "tuple",data:=.seq its.toArray}} :=
   I1.laid (t':=s.toks) (λb o e=>Zzv _ e) (Zzu _) (show AG X.prog X.w _ _ _ (.tup ys) from ⟨hz,its,r',IsTup.new _ _⟩)
  exact⟨.ref h'.objs.size,_,I2,rfl,q _ (I1.hok.fresh (Zzu _))⟩
 ·let⟨its,r',pl,hz⟩:=I.tuple hq;exact call_tuple_same pl ⟨.ref p,H,I,rfl,q⟩
def tyV(K:Zzy)(T:String)(x:V)(H:Hp):Prop:=match x with
 |.str _=>T = "str"
 |.int _=>T = "int"
 |.ref p=>(T = "list" /\ ∃xs,SqL K H p xs)\/(T = "tuple" /\ ∃o,K.lookup p=some o/\o.cls=.type "tuple" /\ o.dict=none) \/
   (T = "dict" /\ ((∃kvs,H p=some (.dK kvs))\/∃kvs,H p=some (.dT kvs)))\/(T = "set" /\ ∃S n,H p=some (.set S n))
 |_=>False
theorem A0y{x:V}{v:Value}(I:Inv X pins σ H s)(r:AE x v)(ty:tyV X.K T x H) :
  s.TypeIs v T/\∀a,v=.ref a->∃ob,s.heap.get? a=some ob/\ob.dict=none:=by
 cases x with
 |str z =>
  let⟨t,rfl⟩:=r;cases (show T = "str" from ty);exact⟨typeIs_str s z t,λ_ e=>nomatch e⟩
 |int i =>
  let⟨t,rfl⟩:=r;cases (show T = "int" from ty);exact⟨typeIs_int s i t,λ_ e=>nomatch e⟩
 |ref p =>
  cases r;rcases ty with ⟨rfl,xs,hq⟩ | ⟨rfl,o,hk,hc,hd⟩ | ⟨rfl,hk⟩ | ⟨rfl,S,n,hk⟩
  ·let⟨its,_,pl,_⟩:=I.list hq;refine⟨pl.isList.typeIs,λa e=>?_⟩;cases e;let⟨o,n,e,c,hd,_⟩:=pl;exact⟨o,e,hd⟩
  ·refine⟨⟨o,I.kIn p o hk,hc⟩,λa e=>?_⟩;cases e;exact⟨o,I.kIn _ o hk,hd⟩
  ·have z:∃o,s.heap.get? p=some o/\o.ExactDict:=by
    rcases hk with ⟨kvs,hk⟩ | ⟨kvs,hk⟩
    ·let⟨_,_,_,_,o,_,_,e,ex,_⟩:=I.hok p _ hk;exact⟨o,e,ex⟩
    ·let⟨_,_,_,_,o,_,_,e,ex,_⟩:=I.hok p _ hk;exact⟨o,e,ex⟩
   let⟨o,e,ex⟩:=z;refine⟨⟨o,e,ex.1⟩,λa e2=>?_⟩;cases e2;exact⟨o,e,ex.2.1⟩
  ·let⟨o,_,_,_,e,ex,_⟩:=I.hok p _ hk;refine⟨⟨o,e,ex.1⟩,λa e2=>?_⟩;cases e2;exact⟨o,e,ex.2.1⟩
 |_=>exact False.elim ty
variable {o:Expr}{to:TE}{name:Str}{id:String}{r:V->List V->Hp->VK->Prop}
end
def MtM(X:Cx)(id:String)(r:V->List V->Hp->VK->Prop):Prop :=
 ∀(pins:List (Addr×Obj)) (s:Shared) (σ:St) (H:Hp) (x:V) (xs:List V) (v:Value) (us:List Value) (Q:VK),Inv X pins σ H s->AE x v->AC xs us->r x xs H Q ->
  wpAny (model X.prog X.w) X.A (call (.builtin id) (v::us)) (EP X pins σ Q) X.xe s
theorem AC.one:∀{x:V} {us:List Value},AC [x] us->∃u,us=[u]/\AE x u
 |_,_,.cons r .nil=>⟨_,rfl,r⟩
theorem AC.eraseIdx:∀{xs:List V} {us:List Value} (i:Nat),AC xs us->AC (xs.eraseIdx i) (us.eraseIdx i)
 |_,_,_,.nil=>.nil
 |_,_,0,.cons _ t=>t
 |_,_,i+1,.cons r t=>.cons r (AC.eraseIdx i t)
theorem AC.rep(h:AC xs us):∀k:Nat,AC (Zz4 k xs).flatten (Zz4 k us).flatten
 |0=>.nil
 |k+1=>by
  rw[Zx8,Zx8,Zwg,Zwg];exact AC.append h (AC.rep h k)
theorem U9{α:Type}:∀(l:List α) (i:Nat),(l.eraseIdx i).length<=l.length
 |[],_=>Zzu _
 |_::_,0=>Nat.le_succ _
 |_::r,i+1=>Nat.succ_le_succ (U9 r i)
theorem Ug(its:List Value):∀(k:Nat) (acc:List Value),
  List.foldl (λx1 x2=>x1++x2) acc.toArray (Zz4 k its.toArray)=(acc++(Zz4 k its).flatten).toArray
 |0,acc=>by simp
 |k+1,acc=>by
  have e:acc.toArray++its.toArray=(acc++its).toArray:=by simp
  have e2:(acc++its)++(Zz4 k its).flatten=acc++(Zz4 (k+1) its).flatten:=by
   rw[Zx8,Zwg,List.append_assoc]
  rw[<- e2,<- Ug its k (acc++its),<- e,Zx8,List.foldl_cons]
section
variable {l:Addr}{ys zs:List V}
theorem Inv.lset{its':List Value}{f:Array Value->Array Value}(I:Inv X pins σ H s)(hH:H l=some (.lst xs))
  (e:s.heap.get? l=some {cls:=.type "list",data:=.seq its.toArray n}) (hf:f its.toArray=its'.toArray) (hv:AC ys its') (hz:ys.length<=sizeLine) :
  Inv X pins σ (upd H l (.lst ys)) {s with heap:=s.heap.update l (Obj.mapSeq f),toks:=t'}:=by
 have q:=PySem.IsL.update e f;rw[hf] at q;refine I.write (x:=l) (e:=l) (by rw[hH];exact trivial) (.inl rfl) (λb' u hb hu=>(Zyo s.heap (Obj.mapSeq f) (Zza hb)).trans hu) ⟨_,q⟩ ?_;exact⟨hz,its',_,hv,q⟩
theorem Inv.lnew(I:Inv X pins σ H s)(hv:AC ys its)(hz:ys.length<=sizeLine) :
  Inv X pins σ (upd H s.heap.objs.size (.lst ys)) {s with heap:=s.heap.push {cls:=.type "list",data:=.seq its.toArray},toks:=t'} :=
 I.laid (λ_ _ q=>Zzv _ q) (Zzu _) ⟨hz,its,0,hv,Zzj _ rfl⟩
theorem Inv.fresh(I:Inv X pins σ H s):H s.heap.objs.size=none:=I.hok.fresh (Zzu _)
theorem Inv.lstM(I:Inv X pins σ H s)(hH:H l=some (.lst xs)):xs.length<=sizeLine/\∃(its:List Value) (n:Nat),AC xs its/\xs.length=its.length/\s.heap.get? l=some {cls:=.type "list",data:=.seq its.toArray n}:=by
 let⟨z,its,n,r,e⟩:=I.hok l _ hH;exact⟨z,its,n,r,r.length,e⟩
theorem Qz(h:n<=sizeLine):Zxd n=false:=by
 unfold Zxd;exact GC (by lia)
end
def EX:V->List V->Hp->VK->Prop:=λx vs H Q=>∃l xs y,x=.ref l/\vs=[y]/\H l=some (.lst xs)/\xs.length<sizeLine/\Q .non (upd H l (.lst (xs++[y])))
theorem Co:MtM X "list.append" EX:=by
 intro pins s σ H x vs v us Q I rx rv h;let⟨l,xs,y,rfl,rfl,hH,hz,q⟩:=h;cases rx;let⟨u,rfl,ru⟩:=rv.one;let⟨z,its,n,r,hl,e⟩:=I.lstM hH;refine call_meets F.slot_list_append ⟨_,e,rfl⟩ F.entry_list_append (F.args_list_append_2 _ _) (PySem.list_append l its.toArray n u (by rw[Zzr];lia)) ⟨e,?_⟩;refine⟨.non,_,I.lset (its':=its++[u]) hH e (by simp) (r.append (.cons ru .nil)) ?_,rfl,q⟩;rw[Zz8,Zxu];lia
def EY:V->List V->Hp->VK->Prop:=λx vs H Q=>∃l b xs zs,x=.ref l/\vs=[.ref b]/\H l=some (.lst xs)/\H b=some (.lst zs)/\xs.length+zs.length<=sizeLine/\Q .non (upd H l (.lst (xs++zs)))
theorem j0:MtM X "list.extend" EY:=by
 intro pins s σ H x vs v us Q I rx rv h;let⟨l,b,xs,zs,rfl,rfl,hH,hB,hz,q⟩:=h;cases rx;let⟨u,rfl,ru⟩:=rv.one;cases ru;let⟨z,its,n,r,hl,e⟩:=I.lstM hH;let⟨z2,its2,n2,r2,hl2,e2⟩:=I.lstM hB;have hsz:its.toArray.size+its2.toArray.size<=sizeLine:=by rw[Zzr,Zzr];lia
 have hlong:¬ (!its.toArray.isEmpty&&Zxd (its.toArray.size+its2.toArray.size))=true:=by
  rw[Qz hsz,Zwt];exact Zzi
 refine call_meets F.slot_list_extend ⟨_,e,rfl⟩ F.entry_list_extend (F.args_list_extend_2 _ _)
  (AutoSeq1.list_extend_list_list_0 l its.toArray n b its2.toArray n2 hlong (by rw[Zzr];lia) (by lia)) ⟨e,e2,?_⟩
 refine⟨.non,_,I.lset (its':=its++its2) hH e (by simp) (r.append r2) ?_,rfl,q⟩;rw[Zz8];lia
def FD:V->List V->Hp->VK->Prop:=λx vs H Q=>∃l xs i k y,x=.ref l/\vs=[.int i]/\H l=some (.lst xs)/\-(2^63)<=i/\i<2^63/\seqIndex? i xs.length=some k/\xs[k]?=some y/\Q y (upd H l (.lst (xs.eraseIdx k)))
theorem qb:MtM X "list.pop" FD:=by
 intro pins s σ H x vs v us Q I rx rv h;let⟨l,xs,i,k,y,rfl,rfl,hH,h1,h2,hk,hy,q⟩:=h;cases rx;let⟨u,rfl,ru⟩:=rv.one;let⟨t,rfl⟩:=ru;let⟨z,its,n,r,hl,e⟩:=I.lstM hH;let⟨w,hw,rw'⟩:=r.get hy;refine call_meets F.slot_list_pop ⟨_,e,rfl⟩ F.entry_list_pop (F.args_list_pop_2 _ _)
  (MeetsSeq.list_pop_at l its.toArray n i t k w (fitsIndex_both h1 h2) (by rw[Zzr,<- hl];exact hk) (by rw[<- Zwe];exact hw) (by rw[Zzr];lia)) ⟨e,?_⟩
 refine⟨y,_,I.lset (its':=its.eraseIdx k) hH e ?_ (r.eraseIdx k) ?_,rw',q⟩
 ·show its.toArray.eraseIdxIfInBounds k=(its.eraseIdx k).toArray
  rw[List.eraseIdxIfInBounds_toArray]
 ·have:=U9 xs k
  lia
def rCat:R2:=λx y H Q=>∃l b xs zs,x=.ref l/\y=.ref b/\H l=some (.lst xs)/\H b=some (.lst zs)/\xs.length+zs.length<=sizeLine/\∀p,H p=none->Q (.ref p) (upd H p (.lst (xs++zs)))
theorem Hz:OpR X (binaryOp .Add) rCat:=by
 intro pins s σ H x y v u Q I rx ry h;let⟨l,b,xs,zs,rfl,rfl,hH,hB,hz,q⟩:=h;cases rx;cases ry;let⟨z,its,n,r,hl,e⟩:=I.lstM hH;let⟨z2,its2,n2,r2,hl2,e2⟩:=I.lstM hB;refine PySem.P.add_list e e2 ?_ (by rw[Zzr,Zzr];lia);have ea:its.toArray++its2.toArray=(its++its2).toArray:=by simp
 rw[ea];exact⟨.ref _,_,I.lnew (t':=s.toks) (r.append r2) (by rw[Zz8];lia),rfl,q _ I.fresh⟩
def rRep:R2:=λx y H Q=>∃l k xs,x=.ref l/\y=.int k/\H l=some (.lst xs)/\-(2^63)<=k/\k<2^63/\xs.length*k.toNat<=sizeLine /\
 ∀p,H p=none->Q (.ref p) (upd H p (.lst (Zz4 k.toNat xs).flatten))
theorem xy{α:Type}(xs:List α)(k:Nat):(Zz4 k xs).flatten.length=k*xs.length:=by
 induction k with
 |zero=>simp
 |succ k ih=>rw[Zx8,Zwg,Zz8,ih,Nat.succ_mul,Nat.add_comm]
theorem Qq:OpR X (binaryOp .Mult) rRep:=by
 intro pins s σ H x y v u Q I rx ry h;let⟨l,k,xs,rfl,rfl,hH,h1,h2,hz,q⟩:=h;cases rx;let⟨t,rfl⟩:=ry;let⟨z,its,n,r,hl,e⟩:=I.lstM hH;have hlen:its.toArray.size*k.toNat<=sizeLine:=by rw[Zzr,<- hl];exact hz
 have hcap:¬ its.toArray.size*k.toNat > (2^63 - 1) / 8:=by
  have:(sizeLine:Nat)<=(2^63 - 1) / 8:=by decide
  lia
 have hfit:¬ (!Builtin.List.listFitsIndex k)=true:=by
  rw[fitsIndex_both h1 h2];exact Zzi
 have hlong:¬ Zxd (its.toArray.size*k.toNat)=true:=by
  rw[Qz hlen];exact Zzi
 have hnew:List.foldl (λx1 x2=>x1++x2) #[] (Zz4 (if its.toArray.isEmpty=true then 0 else k.toNat) its.toArray)=(Zz4 k.toNat its).flatten.toArray:=by
  have f0:∀m:Nat,List.foldl (λx1 x2=>x1++x2) #[] (Zz4 m its.toArray)=(Zz4 m its).flatten.toArray:=λm=>by
   have:=Ug its m [];rw[Zw1] at this;exact this
  rw[f0];cases its with
  |nil=>simp
  |cons a r'=>rw[GD (by simp)]
 refine wpAny_binaryOp_repeat_ref (T := "list") (U := "int") (by decide) ⟨_,e,rfl⟩ (λs'=>typeIs_int s' k t) noFill_list_mul F.fills_int_mul F.slot_int_rmul repeat_list F.slot_int_index.lookup
  (call_meets F.slot_int_rmul (typeIs_int s k t) F.entry_int_rmul (F.args_int_rmul_2 _ _) (int___rmul___int_list k t l its.toArray n)
   ⟨e,rfl,⟨_,e,rfl⟩,call_meets F.slot_list_mul ⟨_,e,rfl⟩ F.entry_list_mul (F.args_list_mul_2 _ _) (AutoListH.list___mul___list_int_3 l its.toArray n k t hfit hcap hlong) ⟨e,?_⟩⟩)
 rw[hnew];exact⟨.ref _,_,I.lnew (t':=s.toks) (r.rep k.toNat) (by rw[xy,Nat.mul_comm];exact hz),rfl,q _ I.fresh⟩
section
variable {κ:Type}[DecidableEq κ]
noncomputable def C1(kvs:List (κ×V))(k:κ):Option V:=(kvs.find? λkv=>decide (kv.1=k)).map (·.2)
def Dx(kvs:List (κ×V))(k:κ)(v:V):List (κ×V) :=
 if (kvs.any λkv=>decide (kv.1=k))=true then kvs.map (λkv=>if kv.1=k then (kv.1,v) else kv) else kvs++[(k,v)]
theorem Cm{p:κ×V}{r:List (κ×V)}{k:κ}(e:p.1=k):C1 (p::r) k=some p.2:=by simp[C1,Zwj,e]
theorem Ca{p:κ×V}{r:List (κ×V)}{k:κ}(e:¬ p.1=k):C1 (p::r) k=C1 r k:=by simp[C1,Zwj,e]
theorem Fb(k:κ):∀kvs:List (κ×V),(kvs.any λkv=>decide (kv.1=k))=(C1 kvs k).isSome
 |[]=>rfl
 |p::r=>by
  rw[Zwl];by_cases e:p.1=k
  ·simp only[Cm e,GB e,Bool.true_or,Option.isSome_some]
  ·rw[Ca e,GC e,Bool.false_or];exact Fb k r
theorem X7(k j:κ)(y:V):∀kvs:List (κ×V),C1 (kvs.map λkv=>if kv.1=k then (kv.1,y) else kv) j=(C1 kvs j).map λx=>if j=k then y else x
 |[]=>rfl
 |p::r=>by
  have ih:=X7 k j y r;rw[Zzk];by_cases h:p.1=k
  ·rw[GE h];by_cases e:p.1=j
   ·rw[Cm (p:=(p.1,y)) e,Cm e,Zx1,GE (e.symm.trans h)]
   ·rw[Ca (p:=(p.1,y)) e,Ca e,ih]
  ·rw[GD h];by_cases e:p.1=j
   ·rw[Cm (p:=p) e,Cm e,Zx1,GD (λz=>h (e.trans z))]
   ·rw[Ca (p:=p) e,Ca e,ih]
theorem Ti(k j:κ)(y:V):∀kvs:List (κ×V),C1 kvs k=none->C1 (kvs++[(k,y)]) j=if j=k then some y else C1 kvs j
 |[],_=>by
  by_cases e:k=j
  ·rw[GE e.symm];exact Cm (p:=(k,y)) e
  ·rw[GD (λz=>e z.symm)];exact Ca (p:=(k,y)) e
 |p::r,hn=>by
  rw[Zwa];have hk:¬ p.1=k:=λz=>by rw[Cm z] at hn;cases hn
  rw[Ca hk] at hn;have ih:=Ti k j y r hn;by_cases e:p.1=j
  ·rw[Cm e,Cm e,GD (λz=>hk (e.trans z))]
  ·rw[Ca e,Ca e,ih]
theorem Iw(kvs:List (κ×V))(k j:κ)(y:V):C1 (Dx kvs k y) j=if j=k then some y else C1 kvs j:=by
 unfold Dx;by_cases a:(kvs.any λkv=>decide (kv.1=k))=true
 ·rw[GE a,X7];rw[Fb] at a;by_cases e:j=k
  ·let⟨x,hx⟩:=Zws.mp a;rw[GE e,e,hx,Zx1,GE rfl]
  ·rw[GD e];cases C1 kvs j with
   |none=>rfl
   |some x=>rw[Zx1,GD e]
 ·rw[GD a];refine Ti k j y kvs ?_;rw[Fb] at a;cases q:C1 kvs k with
  |none=>rfl
  |some x=>rw[q] at a;exact(a rfl).elim
theorem Ol(kvs:List (κ×V))(k:κ)(v:V):(Dx kvs k v).length<=kvs.length+1:=by
 unfold Dx;split
 ·rw[Zzz];lia
 ·rw[Zz8,Zyz,Zwi];lia
theorem Qh{kvs:List (κ×V)}{k:κ}(v:V)(h:C1 kvs k=none):Dx kvs k v=kvs++[(k,v)]:=by
 unfold Dx;rw[Fb,h];exact GD (by decide)
theorem BB.isSome_eq{o:Option V}{u:Option Value}(r:BB o u):o.isSome=u.isSome:=by
 cases o with
 |none=>cases u with
  |none=>rfl
  |some _=>exact(show False from r).elim
 |some _=>cases u with
  |none=>exact(show False from r).elim
  |some _=>rfl
theorem KV.val{kvs:List (κ×V)}{vs:List (κ×Value)}(r:KV kvs vs)(k:κ):BB (C1 kvs k) (valueAt vs k):=by
 unfold KV at r;induction r with
 |nil=>exact True.intro
 |@cons p q ps qs h t ih =>
  let⟨h1,h2⟩:=h;by_cases e:p.1=k
  ·have e':q.1=k:=h1.symm.trans e
   have b:valueAt (q::qs) k=some q.2:=by simp[valueAt,Zwj,e']
   rw[Cm e,b];exact h2
  ·have e':¬ q.1=k:=λz=>e (h1.trans z)
   have b:valueAt (q::qs) k=valueAt qs k:=by simp[valueAt,Zwj,e']
   rw[Ca e,b];exact ih
theorem KV.any{kvs:List (κ×V)}{vs:List (κ×Value)}(r:KV kvs vs)(k:κ):(kvs.any λkv=>decide (kv.1=k))=vs.any λkv=>decide (kv.1=k):=by
 unfold KV at r;induction r with
 |nil=>rfl
 |cons h t ih=>rw[Zwl,Zwl,ih,h.1]
theorem KV.repl{kvs:List (κ×V)}{vs:List (κ×Value)}(r:KV kvs vs)(k:κ){y:V}(ry:AE y u) :
  KV (kvs.map λkv=>if kv.1=k then (kv.1,y) else kv) (vs.map λkv=>if kv.1=k then (kv.1,u) else kv):=by
 unfold KV at r ⊢;induction r with
 |nil=>exact .nil
 |@cons p q ps qs h t ih =>
  rw[Zzk,Zzk];refine .cons ?_ ih;let⟨h1,h2⟩:=h;by_cases e:p.1=k
  ·rw[GE e,GE (h1.symm.trans e)];exact⟨h1,ry⟩
  ·rw[GD e,GD (λz=>e (h1.trans z))];exact⟨h1,h2⟩
theorem KV.put{kvs:List (κ×V)}{vs:List (κ×Value)}(r:KV kvs vs)(k:κ){y:V}(ry:AE y u):KV (Dx kvs k y) (stored vs k u):=by
 unfold Dx stored;rw[r.any k];by_cases e:(vs.any λkv=>decide (kv.1=k))=true
 ·rw[GE e,GE e];exact r.repl k ry
 ·rw[GD e,GD e];exact Paired.snoc r ⟨rfl,ry⟩
theorem KV.length{kvs:List (κ×V)}{vs:List (κ×Value)}(r:KV kvs vs):kvs.length=vs.length:=Paired.length r
end
theorem Ub{k:Key}(r:AE (kV k) u):(B3 P w).is k u=true:=by
 cases k with
 |inl i=>let⟨t,e⟩:=(show ∃t,u=Value.int i t from r);subst e;exact Yd P w i t
 |inr x=>let⟨t,e⟩:=(show ∃t,u=Value.str x t from r);subst e;exact Fd P w x t
theorem Uc:∀{ks:List Key} {us:List Value},AC (ks.map kV) us->ItemsAre (B3 P w) ks us
 |[],_,r=>by rw[Zy1] at r;cases r;exact .nil
 |k::ks,_,r=>by
  rw[Zzk] at r;cases r with
  |cons h t=>exact .cons (Ub h) (Uc t)
abbrev KT(H:Hp):List (List Key×V)->List (List Key×Addr×Value)->Prop:=Paired λp q=>p.1=q.1/\H q.2.1=some (.tup (p.1.map kV))/\AE p.2 q.2.2
theorem KT.val{kvs:List (List Key×V)}{xs:List (List Key×Addr×Value)}(r:KT H kvs xs)(k:List Key):BB (C1 kvs k) ((atKey xs k).map (·.2)):=by
 induction r with
 |nil=>exact True.intro
 |@cons p q ps qs h t ih =>
  let⟨h1,_,h2⟩:=h;by_cases e:p.1=k
  ·have e':q.1=k:=h1.symm.trans e
   have b:atKey (q::qs) k=some q.2:=by simp[atKey,Zwj,e']
   rw[Cm e,b];exact h2
  ·have e':¬ q.1=k:=λz=>e (h1.trans z)
   have b:atKey (q::qs) k=atKey qs k:=by simp[atKey,Zwj,e']
   rw[Ca e,b];exact ih
theorem KT.repl{kvs:List (List Key×V)}{xs:List (List Key×Addr×Value)}(r:KT H kvs xs)(k:List Key){y:V}(ry:AE y u) :
  KT H (kvs.map λkv=>if kv.1=k then (kv.1,y) else kv) (xs.map (putAt k u)):=by
 induction r with
 |nil=>exact .nil
 |@cons p q ps qs h t ih =>
  rw[Zzk,Zzk];refine .cons ?_ ih;let⟨h1,h2,h3⟩:=h;unfold putAt;by_cases e:p.1=k
  ·rw[GE e,GE (h1.symm.trans e)];exact⟨h1,h2,ry⟩
  ·rw[GD e,GD (λz=>e (h1.trans z))];exact⟨h1,h2,h3⟩
theorem KT.put{kvs:List (List Key×V)}{xs:List (List Key×Addr×Value)}(r:KT H kvs xs)(k:List Key){y:V}(hb:H b=some (.tup (k.map kV)))(ry:AE y u) :
  KT H (Dx kvs k y) (storedH xs k b u):=by
 have e:(kvs.any λkv=>decide (kv.1=k))=(atKey xs k).isSome:=by
  rw[Fb,(r.val k).isSome_eq,Option.isSome_map]
 unfold Dx storedH;rw[e];by_cases q:(atKey xs k).isSome=true
 ·rw[GE q,GE q];exact r.repl k ry
 ·rw[GD q,GD q];exact Paired.snoc r ⟨rfl,hb,ry⟩
theorem KT.keeps{kvs:List (List Key×V)}{xs:List (List Key×Addr×Value)}(r:KT H kvs xs)(ht:∀b ys,H b=some (.tup ys)->H' b=some (.tup ys)):KT H' kvs xs :=
 Paired.mapP r λ_ _ z=>⟨z.1,ht _ _ z.2.1,z.2.2⟩
theorem A0b{u:HO}(ok:HOk P w H h)(e:Rd H a u):AG P w H h a u:=e.ok ok
theorem Op(ok:HOk P w H h)(e:Rd H a (.dK kvs)):kvs.length<=sizeLine/\(a == sysModules)=false/\∃vs,KV kvs vs/\h.DictOf (B3 P w) a vs :=
 show AG P w H h a (.dK kvs) from A0b ok e
theorem A4b(ok:HOk P w H h)(e:H a=some (.dK kvs)):kvs.length<=sizeLine/\(a == sysModules)=false/\∃vs,KV kvs vs/\h.DictOf (B3 P w) a vs:=Op ok (.inl e)
theorem R9(ok:HOk P w H h)(e:H a=some (.tup (ks.map kV))):(tupleKind (B3 P w)).is h ks a:=by
 let⟨_,its,r,o,h1,h2,n,h3⟩:=(show AG P w H h a (.tup (ks.map kV)) from ok a _ e);exact⟨o,its.toArray,n,h1,h2,h3,by simpa using Uc r⟩
theorem Uh{kvs:List (List Key×V)}(ok:HOk P w H h)(e:Rd H a (.dT kvs)):kvs.length<=sizeLine/\(a == sysModules)=false /\
  ∃xs,KT H kvs xs/\h.DictOfH (tupleKind (B3 P w)) a xs:=by
 let⟨z,y,xs,r,o,es,ep,h1,h2,h3,h4,h5⟩:=(show AG P w H h a (.dT kvs) from A0b ok e);refine⟨z,y,xs,r,o,es,ep,h1,h2,h3,h4,λx hx=>?_,h5⟩;have all:∀{l:List (List Key×V)} {m:List (List Key×Addr×Value)},KT H l m->∀x∈m,(tupleKind (B3 P w)).is h x.1 x.2.1:=by
  intro l m q;induction q with
  |nil=>intro x hx;exact nomatch hx
  |@cons p q ps qs hq t ih =>
   intro x hx;rcases Zzw.mp hx with e | hx
   ·subst e;exact R9 ok (by rw[<- hq.1];exact hq.2.1)
   ·exact ih x hx
 exact all r x hx
theorem A4a{kvs:List (List Key×V)}(ok:HOk P w H h)(e:H a=some (.dT kvs)):kvs.length<=sizeLine/\(a == sysModules)=false /\
  ∃xs,KT H kvs xs/\h.DictOfH (tupleKind (B3 P w)) a xs:=Uh ok (.inl e)
def cu(H:Hp)(a:Addr)(y:V)(r:Option V):Prop :=
 (∃kvs k,Rd H a (.dK kvs)/\y=kV k/\r=C1 kvs k)\/∃kvs k b,Rd H a (.dT kvs)/\y=.ref b/\H b=some (.tup (k.map kV))/\r=C1 kvs k
def EM(H:Hp)(a:Addr)(y v:V)(H':Hp):Prop :=
 (∃kvs k,H a=some (.dK kvs)/\y=kV k/\kvs.length<sizeLine/\H'=upd H a (.dK (Dx kvs k v))) \/
 ∃kvs k b,H a=some (.dT kvs)/\y=.ref b/\H b=some (.tup (k.map kV))/\kvs.length<sizeLine/\H'=upd H a (.dT (Dx kvs k v))
theorem EM.k{k:Key}(e:H a=some (.dK kvs))(hl:kvs.length<sizeLine):EM H a (kV k) v (upd H a (.dK (Dx kvs k v))):=.inl ⟨kvs,k,e,rfl,hl,rfl⟩
section
variable {y:V}{r:Value}{o:Option V}
theorem Inv.big(I:Inv X pins σ H s):sysModules<s.heap.objs.size:=by
 have h:mainGlobals<s.heap.objs.size:=(I.mod.glob.keeps I.bk).lt;exact Nat.lt_trans (by decide) h
theorem Uj(hu:A.units+1<cLine)(I:Inv X pins σ H s)(g:cu H a y (some v))(ry:AE y u)(h:∀w' s',Inv X pins σ H s'->AE v w'->Q w' s') :
  wpAny (model X.prog X.w) A (getItem (.ref a) u) Q E s:=by
 rcases g with ⟨kvs,k,e,ey,l⟩ | ⟨kvs,k,b,e,ey,eb,l⟩
 ·subst ey;let⟨z,hd,vs,rel,dd⟩:=Op I.hok e;let⟨w',hw,rw'⟩:=BB.some_of (v:=v) (o:=valueAt vs k) (by rw[l];exact rel.val k);exact wpAny_getItem_of (Ub ry) dd.mapOf hw (h w' _ (I.tok _) rw')
 ·subst ey;cases (show u=Value.ref b from ry);let⟨z,hd,xs,rel,dd⟩:=Uh I.hok e;let⟨w',hw,rw'⟩:=BB.some_of (v:=v) (o:=(atKey xs k).map (·.2)) (by rw[l];exact rel.val k);let⟨p,hp,hp2⟩:=Zvj.mp hw;refine wpAny_getItem_heap (tupleKind_room_in1 hu) (R9 I.hok eb) dd hp ?_;rw[hp2];exact h w' _ (I.tok _) rw'
theorem d_in(hu:A.units+1<cLine)(I:Inv X pins σ H s)(g:cu H a y o)(ry:AE y u)(h:∀s',Inv X pins σ H s'->Q (.bool o.isSome) s') :
  wpAny (model X.prog X.w) A (compareOp .In u (.ref a)) Q E s:=by
 rcases g with ⟨kvs,k,e,ey,l⟩ | ⟨kvs,k,b,e,ey,eb,l⟩
 ·subst ey;let⟨z,hd,vs,rel,dd⟩:=Op I.hok e;refine wpAny_in_of (Ub ry) hd dd.mapOf ?_;rw[<- (rel.val k).isSome_eq,<- l];exact h _ (I.tok _)
 ·subst ey;cases (show u=Value.ref b from ry);let⟨z,hd,xs,rel,dd⟩:=Uh I.hok e;refine wpAny_in_heap (tupleKind_room_in1 hu) (R9 I.hok eb) hd dd ?_;have q:=(rel.val k).isSome_eq;rw[Option.isSome_map] at q;rw[<- q,<- l];exact h _ (I.tok _)
theorem yz(hu:A.units+1<cLine)(I:Inv X pins σ H s)(g:cu H a y o)(ry:AE y u)(h:∀s',Inv X pins σ H s'->Q (.bool (!o.isSome)) s') :
  wpAny (model X.prog X.w) A (compareOp .NotIn u (.ref a)) Q E s:=by
 rcases g with ⟨kvs,k,e,ey,l⟩ | ⟨kvs,k,b,e,ey,eb,l⟩
 ·subst ey;let⟨z,hd,vs,rel,dd⟩:=Op I.hok e;refine wpAny_notIn_of (Ub ry) hd dd.mapOf ?_;rw[<- (rel.val k).isSome_eq,<- l];exact h _ (I.tok _)
 ·subst ey;cases (show u=Value.ref b from ry);let⟨z,hd,xs,rel,dd⟩:=Uh I.hok e;refine wpAny_notIn_heap (tupleKind_room_in1 hu) (R9 I.hok eb) hd dd ?_;have q:=(rel.val k).isSome_eq;rw[Option.isSome_map] at q;rw[<- q,<- l];exact h _ (I.tok _)
theorem gj{ob:HO}(I:Inv X pins σ H s)(mu:Mut (H a))(hs:Zxs a s.heap h')(he:∃q,h'.get? a=some q)(new:AG X.prog X.w (upd H a ob) h' a ob) :
  Inv X pins σ (upd H a ob) {s with heap:=h',toks:=t'} :=
 I.write (x:=a) (e:=a) mu (.inl rfl) (λb q hb z=>(hs.2 b hb).trans z) he new
theorem A27{vs:List (Key×Value)}(z:kvs.length<=sizeLine)(hd:(a == sysModules)=false)(rel:KV kvs vs)(dd:h'.DictOf (B3 P w) a vs) :
  AG P w H' h' a (.dK kvs):=⟨z,hd,vs,rel,dd⟩
theorem jl{Q:Unit->Shared->Prop}(hu:A.units+1<cLine)(I:Inv X pins σ H s)(g:EM H a y v H')(ry:AE y u)(rv:AE v r)(h:∀s',Inv X pins σ H' s'->Q () s') :
  wpAny (model X.prog X.w) A (setItem (.ref a) u r) Q E s:=by
 rcases g with ⟨kvs,k,e,ey,l,eH⟩ | ⟨kvs,k,b,e,ey,eb,l,eH⟩
 ·subst ey eH;let⟨z,hd,vs,rel,dd⟩:=A4b I.hok e;have hz:vs.length<=sizeLine:=by rw[<- rel.length];exact z
  have hl:(Dx kvs k v).length<=sizeLine:=by have:=Ol kvs k v;lia
  refine wpAny_setItem_pairs (hsz:=hz) (Ub ry) dd λh' dd' hs=>h _ ?_;have he:∃q,h'.get? a=some q:=by let⟨q,_,_,hq,_⟩:=dd';exact⟨q,hq⟩
  exact gj I (by rw[e];exact True.intro) hs he (A27 hl hd (rel.put k rv) dd')
 ·subst ey eH;cases (show u=Value.ref b from ry);let⟨z,hd,xs,rel,dd⟩:=A4a I.hok e;have hz:xs.length<=sizeLine:=by rw[<- Paired.length rel];exact z
  have hl:(Dx kvs k v).length<=sizeLine:=by have:=Ol kvs k v;lia
  refine wpAny_setItem_heap (hsz:=hz) (tupleKind_room_in1 hu) (R9 I.hok eb) dd λh' dd' hs=>h _ ?_;let⟨q,es,ep,hq,h2,h3,h4,_,h5⟩:=dd';refine gj I (by rw[e];exact True.intro) hs ⟨q,hq⟩ ⟨hl,hd,_,(rel.put k eb rv).keeps λc ys ec=>?_,q,es,ep,hq,h2,h3,h4,h5⟩;rw[A6 (Yb ec e (λz=>nomatch z))];exact ec
end
section
variable {k:Key}
theorem A4c(I:Inv X pins σ H s)(e:Rd H a (.dK kvs))(h:∀t s',Inv X pins σ H s'->Q (.int kvs.length t) s'):wpAny (model X.prog X.w) A (call (.builtin "len") [.ref a]) Q E s:=by
 let⟨z,hd,vs,rel,dd⟩:=Op I.hok e;refine call_len_dict hd dd (by rw[<- rel.length];rw[sizeLine_eq] at z;lia) ?_;rw[<- rel.length];exact h _ _ (I.tok _)
end
theorem Yy{y:V}{o:Option V}(I:Inv X pins σ H s)(g:cu H a y o):s.TypeIs (.ref a) "dict" := by
 rcases g with ⟨kvs,k,e,_,_⟩ | ⟨kvs,k,b,e,_,_,_⟩
 ·let⟨_,_,vs,_,dd⟩:=Op I.hok e;exact dd.typeIs
 ·let⟨_,_,xs,_,dd⟩:=Uh I.hok e;exact dd.typeIs
section
variable {o i value:Expr}{tpos:Pos}{td ty tv:TE}
end
theorem sy(h:Heap)(hb:sysModules<h.objs.size):AG P w H (h.push {cls:=.type "dict",data:=.dict #[]}) h.objs.size (.dK []) :=
 ⟨Zyl _,beq_eq_false_iff_ne.mpr (Zza (Zz0 hb)),[],.nil,Heap.DictOf.new h⟩
def FE:TE:=λ_ H Q=>∀p,H p=none->Q (.ref p) (upd H p (.dK []))
theorem Ga:PE X (.Dict [] [] pos) FE:=λpins s σ H Q I h =>
 wpAny_Dict_empty ⟨.ref s.heap.objs.size,_,I.laid (a:=s.heap.objs.size) (o:=.dK []) (t':=s.toks) (λ_ _ q=>Zzv _ q) (Zzu _) (sy s.heap I.big),rfl,h _ (I.hok.fresh (Zzu _))⟩
structure M1(X:Cx)(o:Expr)(m:Str)(apos:Pos)(e:Expr)(cpos:Pos):Prop where
 base:attributeBase o m X.env (eval o X.env)=eval o X.env
 few:((backTo cpos (starEach [e] X.env)).all (λx=>!x.1)&&(backToKw cpos (keywordEach [] X.env)).all (λx=>x.1.isSome)
  && decide (([e]:List Expr).length+([]:List Keyword).length+(if ([]:List Keyword).isEmpty then 0 else 1)<30))=true
 line:(apos.endLine == cpos.line)=true
 trees:backTo cpos (starEach [e] X.env)=[(false,eval e X.env)]
structure M2(X:Cx)(o:Expr)(m:Str)(apos:Pos)(e f:Expr)(cpos:Pos):Prop where
 base:attributeBase o m X.env (eval o X.env)=eval o X.env
 few:((backTo cpos (starEach [e,f] X.env)).all (λx=>!x.1)&&(backToKw cpos (keywordEach [] X.env)).all (λx=>x.1.isSome)
  && decide (([e,f]:List Expr).length+([]:List Keyword).length+(if ([]:List Keyword).isEmpty then 0 else 1)<30))=true
 line:(apos.endLine == cpos.line)=true
 trees:backTo cpos (starEach [e,f] X.env)=[(false,eval e X.env),(false,eval f X.env)]
def IsD(H:Hp)(a:Addr):Prop:=(∃kvs,Rd H a (.dK kvs))\/∃kvs,Rd H a (.dT kvs)
theorem A23(I:Inv X pins σ H s)(d:IsD H a) :
  s.TypeIs (.ref a) "dict" /\ (∀b,Value.ref a=.ref b->∃ob,s.heap.get? b=some ob/\ob.dict=none)/\(a == sysModules)=false:=by
 rcases d with ⟨kvs,e⟩ | ⟨kvs,e⟩
 ·let⟨_,hd,vs,_,dd⟩:=Op I.hok e;refine⟨dd.typeIs,λb q=>?_,hd⟩;cases q;let⟨ob,_,_,h1,h2,_⟩:=dd;exact⟨ob,h1,h2.2.1⟩
 ·let⟨_,hd,xs,_,dd⟩:=Uh I.hok e;refine⟨dd.typeIs,λb q=>?_,hd⟩;cases q;let⟨ob,_,_,h1,h2,_⟩:=dd;exact⟨ob,h1,h2.2.1⟩
section
variable {y d:V}{r:Value}{o:Option V}
end
section
variable {o f:Expr}{td ty tx:TE}
end
section
variable {y:V}
end
end L2
namespace Att
open PySem PySem.W PySem.Calls PyProof.Rows
theorem P2{P:Params}:∀(ns:List Int) (vs:List Value),WellAll P h vs (ns.map WData.int)->IntsAre vs ns:=by
 intro ns;induction ns with
 |nil =>
  intro vs w;rw[Zy1] at w;cases w;exact .nil
 |cons n ns ih =>
  intro vs w;rw[Zzk] at w;cases w with
  |cons a b =>
   cases a;exact .cons _ _ (ih _ b)
theorem i7{l:OpenLaw}(hn:l.most=some n){P:Params}{args:List WData}{vals:List Value}
  (hpre:l.row.toRowW.claim.pre args=true) (hwl:WellAll P h vals args) :
  ∃a vs ns,vals=[Value.ref a]/\args=[WData.list (ns.map WData.int)]/\h.get? a=some {cls:=.type "list",data:=.seq vs.toArray}/\IntsAre vs ns/\ns.length<=n:=by
 have hsh:WShape.hasAll [] args [.list .int]=true:=(pre_splitW hpre).1;have hc:l.pre.holds [] {args:=args}=true:=(pre_splitW hpre).2;let⟨d,r,rfl,h1,h2⟩:=hasAllW_cons hsh;obtain rfl:=hasAllW_nil h2;let⟨xs,rfl,h3⟩:=hasW_list h1;let⟨ns,rfl⟩:=items_int h3;have hlen:ns.length<=n:=by
  unfold OpenLaw.pre at hc;have h4:(WTm.not (.lt (.lit (.int (n:Int))) (.len (.arg 0)))).holds [] {args:=[.list (ns.map .int)]}=true:=by
   have h4:=(holds_andW hc).1;rw[hn] at h4;exact h4
  have h5:=condW_of h4 (w_not (w_lt w_lit (w_len_list (w_arg rfl))));rw[Zzz] at h5;refine Nat.le_of_not_lt λq=>?_;have q':(n:Int)<((ns.length:Nat):Int):=by lia
  first
   | (rw[GB q'] at h5;exact absurd h5 (by decide))
   | (simp at h5;lia)
 cases hwl with
 |cons w1 w2 =>
  cases w2;cases w1 with
  |list ho hall=>exact⟨_,_,ns,rfl,rfl,ho,P2 ns _ hall,hlen⟩
theorem ia(l:OpenLaw)(args:List WData):l.row.toRowW.claim.post args (.bool true) args=true :=
 postW_of (r:=l.row.toRowW) (X:=(true == true))
  (show WShape.has [] (.bool true) .bool=true by first | rfl | decide | simp[WShape.has,WShape.arms,WShape.armsAll])
  (show (WTm.eq .res (.lit (.bool true))).value [] {args:=args,res:=some (.bool true),after:=args}=some (.bool (true == true)) from w_eq_bool (w_res rfl) w_lit) rfl
theorem attach_call{l:OpenLaw}{q:Program}{d:DefRec}
  (hn:l.most=some n) (hdf:d.params.defaults=[])
  (call:∀(w:World) (s₀ s₁:Shared) (mg mb:Str->Option Value) (fa:Addr) (o:Obj) (pm cd doc:Value) (a:Addr) (vs:List Value) (ns:List Int),
   Ground q loose [] XP w s₀ mg mb s₁.heap->YP w s₁.heap ->
   s₁.heap.get? fa=some o->o.data=.func (docDef d.name d.params d.body d.scope pm cd doc)->s₁.heap.CodeRec cd d.name->mg d.name=some (.ref fa) ->
   s₁.heap.get? a=some {cls:=.type "list",data:=.seq vs.toArray}->IntsAre vs ns->ns.length<=n->s₁.gens=#[] ->
   codeAny (model l.prog w) callerA (.call (.ref fa) ⟨[.ref a],[]⟩) (λr s'=>r=.ok (.ret (.bool true))/\OldK s₁.heap s'.heap/\s'.os=s₁.os/\AllBare s'.gens) s₁) :
  WalkO q loose XP YP l.row.toRowW d [] (λf vs=>PySem.call f vs):=by
 intro w s₀ s₁ mg mb G Y fa o pm cd doc dV kV ho hd hcd hD hmg hg args vals as hpre hlay hrd hwl hlo;obtain rfl:dV=.none:=Dflts.none hD hdf;obtain rfl:kV=.none:=Dflts.noKw hD;let⟨a,vs,ns,rfl,rfl,hobj,hints,hlen⟩:=i7 hn hpre hwl;refine enter_call (codeAny_mono (call w s₀ s₁ mg mb fa o pm cd doc a vs ns G Y ho (fd_plain hd) hcd hmg hobj hints hlen hg) λr s' hq=>?_);let⟨rfl,h2,h3,h4⟩:=hq;exact⟨.inl ⟨.bool true,.bool true,[],rfl,λ_=>rfl,.bool true,ia l _,λ_=>⟨List.Pairwise.nil,λ_ hm=>(nomatch hm)⟩⟩,h2,h3,h4⟩
section
variable {K:Frag}
end
end Att
namespace L2
open PySem PySem.Spec PyProof.Rows
theorem Tg:∀{vs:List Value} {ns:List Int},IntsAre vs ns->AC (ns.map V.int) vs
 |_,_,.nil=>.nil
 |_,_,.cons n t h=>.cons ⟨t,rfl⟩ (Tg h)
def fz(s:Stmt)(j:Nat):Stmt:=match s with
 |.ClassDef _ _ _ body _ _ _ _ _ _ _=>body.getD j (.Pass ⟨0,0,0,0⟩)
 |_=>.Pass ⟨0,0,0,0⟩
def G1(s:Stmt):Arguments:=match s with
 |.FunctionDef _ a _ _ _ _ _ _ _ _=>a
 |_=>{posonlyargs:=[],args:=[],vararg:=none,kwonlyargs:=[],kw_defaults:=[],kwarg:=none,defaults:=[]}
def Dg(s:Stmt):List Stmt:=match s with
 |.FunctionDef _ _ b _ _ _ _ _ _ _=>b
 |_=>[]
def Ap(s:Stmt):Scope:=match s with
 |.FunctionDef _ _ _ _ _ _ sc _ _ _=>sc
 |_=>{kind:=.function,names:=[],isGenerator:=false,isCoroutine:=false}
abbrev CX0:CXT:=λ_ _ _ _ _ _=>False
abbrev E0:XK:=λ_ _ _=>False
theorem A0d:Rz CX0 X E0:=λ_ _ _ _ _ _ _ h=>h.elim
structure Fun(K:Zzy)(x qual:Str)(st:Stmt)(f:Addr)(fd:FuncData):Prop where
 ex:∃(oc:Value) (od:Option Addr) (kV doc pm:Value) (an:Option Addr) (cdv ct:Value) (osl:Array (Option Value)),
  fd=Zxm x qual (G1 st) (Dg st) (Ap st) .none kV doc pm an cdv ct/\K.lookup f=some ⟨oc,od,.func fd,osl⟩/\Zuz K cdv qual=true
 kp:Zxj K (.ref f)=true
theorem Fun.ok{st:Stmt}{k:Nat}(F:Fun K x qual st f fd)(S:Bu N ps (Ap st))(len:∀vs H Q E,sp vs H Q E->vs.length=ps.length)
  (hbody:∀(cdv:Value) (A:Around) (outer:List Env) (s:Shared) (H:Hp) (vs:List V) (Q:VK) (E:XK),AM k (A.deeper (envOfC qual (Ap st) s.heap.objs.size f cdv))->sp vs H Q E ->
   ∃t,PSs (No CX0 P w K mg base N qual (Ap st) f cdv A outer s H E).nox (Dg st) t/\t {nx:=λ_ H'=>Q .non H',rt:=Q} (Io N vs) H):Aq P w K mg base CX0 (k+1) f fd ps sp:=by
 let⟨oc,od,kV,doc,pm,an,cdv,ct,osl,rfl,lk,hcd⟩:=F.ex;refine sv lk hcd S len λA outer s H vs Q E hr hsp=>?_;let⟨t,h,q⟩:=hbody cdv A outer s H vs Q E hr hsp;exact⟨t,h.nox,q⟩
theorem Fun.binds{st:Stmt}(F:Fun K x qual st f fd)
  (h:∀(kV doc pm:Value) (an:Option Addr) (cdv ct:Value) (us:List Value),us.length=ps.length->bindArgs (Zxm x qual (G1 st) (Dg st) (Ap st) .none kV doc pm an cdv ct) ⟨us,[]⟩=pure (ps.zip us)):BF K fd ps []:=by
 let⟨oc,od,kV,doc,pm,an,cdv,ct,osl,rfl,lk,hcd⟩:=F.ex;exact .all (h kV doc pm an cdv ct)
theorem Rl{st:Stmt}{an:Option Addr}{osl:Array (Option Value)}{kV doc pm cdv ct:Value}(l:K.lookup f=some ⟨oc,od,.func (Zxm x qual (G1 st) (Dg st) (Ap st) .none kV doc pm an cdv ct),osl⟩)
  (c:Zuz K cdv qual=true) (k:Zxj K (.ref f)=true):Fun K x qual st f (Zxm x qual (G1 st) (Dg st) (Ap st) .none kV doc pm an cdv ct):=⟨⟨oc,od,kV,doc,pm,an,cdv,ct,osl,rfl,l,c⟩,k⟩
theorem Ao{k:Nat}(hr:AM k A):A.units+1<cLine:=Zyh (Nat.add_le_add_left (by decide:1<=64) _) hr.units
theorem pv(i:Nat)(hN:X.N[i]?=some x:=by rfl)(hv:Vis X.env.scope x:=by first | exact Zyr rfl | exact Or.inr (Zyr rfl) | exact Or.inr (Or.inr rfl))(hd:(x == ("__debug__" : Str))=false:=by decide)
  (hcd:(x == ("__classdict__" : Str))=false:=by decide):PE X (.Name x pos) (A15 i):=A1m hN hv hd hcd
theorem jv:AI X (.builtin "len") (λxs H Q=>∃a kvs,xs=[V.ref a]/\H a=some (.dK kvs)/\Q (.int kvs.length) H):=by
 intro pins s σ H xs us Q I r h;let⟨a,kvs,rfl,ha,q⟩:=h;let⟨u,rfl,ru⟩:=F9 r;cases ru;exact A4c I (.inl ha) λt s' I'=>⟨.int kvs.length,H,I',⟨t,rfl⟩,q⟩
theorem iteF{A B:Prop}(h:B):if false=true then A else B:=by
 rw[GD Zzi];exact h
theorem iteT{A B:Prop}(h:A):if true=true then A else B:=by
 rw[GE rfl];exact h
theorem Do{c A B:Prop}[Decidable c](h1:c->A)(h2:¬ c->B):if c then A else B:=by
 by_cases h:c
 ·rw[GE h];exact h1 h
 ·rw[GD h];exact h2 h
theorem A3u{c A B:Prop}[Decidable c](hc:c)(h:B):if (!decide c)=true then A else B:=by
 rw[GB hc];exact iteF h
def AB(H H':Hp):Prop:=∀b o,H b=some o->H' b=some o
theorem AB.refl(H:Hp):AB H H:=λ_ _ h=>h
theorem AB.trans{H2:Hp}(a:AB H H1)(b:AB H1 H2):AB H H2:=λc o h=>b c o (a c o h)
theorem AB.free(e:AB H H'){l:Addr}(h:H' l=Option.none):H l=Option.none:=by
 cases q:H l with
 |none=>rfl
 |some o =>
  rw[e l o q] at h;cases h
theorem AB.seq(e:AB H H')(h:SqL K H a xs):SqL K H' a xs:=by
 rcases h with (h | ⟨o,h⟩) | h
 ·exact .inl (.inl (e _ _ h))
 ·exact .inl (.inr ⟨o,e _ _ h⟩)
 ·exact .inr h
section
variable {κ:Type}[DecidableEq κ]
theorem vk{kvs:List (κ×V)}{k:κ}(h:C1 kvs k=some v):k∈kvs.map (·.1):=by
 have q:(kvs.any λkv=>decide (kv.1=k))=true:=by
  rw[Fb,h];all_goals rfl
 let⟨p,hp,e⟩:=List.any_eq_true.mp q;exact Zzt.mpr ⟨p,hp,GA e⟩
end
theorem T7:∀(names:List (Str×NameKind)) (acc:List (Str×Addr)),(∀y∈names,y.2=.free->∃c,env.cells.lookup y.1=some c)->(∀x c,acc.lookup x=some c->env.cells.lookup x=some c) ->
  ∃cl,(forIn names acc (λx r=>if (x.2 == Zyx)=true then do let c <- cellOf env x.1;pure (ForInStep.yield ((x.1,c)::r)) else pure (ForInStep.yield r)):Sem _)=pure cl /\
   (∀x c,cl.lookup x=some c->env.cells.lookup x=some c)/\(∀x,((x,Zyx)∈names\/∃c,acc.lookup x=some c)->∃c,cl.lookup x=some c):=by
 intro names;induction names with
 |nil=>intro acc h ha;exact⟨acc,rfl,ha,λx hx=>by simpa using hx⟩
 |cons y r ih =>
  intro acc h ha;let⟨n,k⟩:=y;have hr:∀y∈r,y.2=.free->∃c,env.cells.lookup y.1=some c:=λy hy=>h y (Zzs _ hy);rw[Zv8];by_cases hk:k=.free
  ·subst hk;let⟨c,hc⟩:=h (n,.free) Zzq rfl;have e:cellOf env n=pure c:=by unfold cellOf;rw[hc]
   let⟨cl,e1,a,b⟩:=ih ((n,c)::acc) hr (λx c' hx=>by
    rw[Zyb] at hx
    cases hxn:x == n with
    |true =>
     rw[hxn] at hx
     cases hx
     rw[eq_of_beq hxn]
     exact hc
    |false =>
     rw[hxn] at hx
     exact ha x c' hx)
   refine⟨cl,?_,a,λx hx=>b x ?_⟩
   ·rw[<- e1];show (if (Zyx == Zyx)=true then (cellOf env n >>= _) else _) >>= _=_;rw[GE (show (Zyx == Zyx)=true from rfl),e];rfl
   ·rcases hx with hx | ⟨c',hx⟩
    ·rcases Zzw.mp hx with e2 | hx
     ·have e3:x=n:=congrArg Prod.fst e2
      exact .inr ⟨c,by rw[Zyb,e3];simp⟩
     ·exact .inl hx
    ·refine .inr ?_;rw[Zyb];cases x == n with
     |true=>exact⟨c,rfl⟩
     |false=>exact⟨c',hx⟩
  ·let⟨cl,e1,a,b⟩:=ih acc hr ha;refine⟨cl,?_,a,λx hx=>b x ?_⟩
   ·rw[<- e1];have hb:(k == Zyx)=false:=by simpa using hk
    show (if (k == Zyx)=true then _ else _) >>= _=_;rw[GD (by rw[hb];simp)];rfl
   ·rcases hx with hx | hx
    ·rcases Zzw.mp hx with e2 | hx
     ·exact absurd (congrArg Prod.snd e2).symm hk
     ·exact .inl hx
    ·exact .inr hx
theorem Ft(h:∀y∈scope.names,y.2=.free->∃c,env.cells.lookup y.1=some c) :
  ∃cl,closureFor scope env=pure cl/\(∀x c,cl.lookup x=some c->env.cells.lookup x=some c)/\(∀x,(x,Zyx)∈scope.names->∃c,cl.lookup x=some c):=by
 let⟨cl,e,a,b⟩:=T7 scope.names [] h (by intro x c e;cases e);refine⟨cl,?_,a,λx hx=>b x (.inl hx)⟩;unfold closureFor;exact congrArg (λm=>m >>= λx=>pure x) e
def cpN(N own:List Str)(cap:List Nat):List Str:=own++cap.map λj=>N.getD j ""
def Gh(own:List Str)(cap:List Nat)(σ:St):St:=own.map (λ_=>none)++cap.map λj=>σ.getD j none
structure Gs(N:List Str)(osc sc:Scope)(own:List Str)(cap:List Nat):Prop where
 kind:sc.kind=.function
 names:∀x∈sc.names,x.2=.local->sc.names.lookup x.1=some .local
 nocell:∀y∈sc.names,y.2≠.cell
 free:∀y∈sc.names,y.2=.free->osc.names.lookup y.1=some .cell\/osc.names.lookup y.1=some .free
 cap:∀j∈cap,j<N.length/\sc.names.lookup (N.getD j "")=some .free
noncomputable def AH(X:Cx)(sc:Scope)(own:List Str)(cap:List Nat)(cl:List (Str×Addr))(C:Addr)(s:Shared)(H:Hp)(fp:List Addr)(pins:List (Addr×Obj)):Cx :=
 {X with N:=cpN X.N own cap,s₀:=s,H₀:=H,env:=compEnvC sc cl C X.env,outer:=X.stack,ex:=fp,fn:=λ_=>false,pn:=X.pn++pins,xe:=λ_ _=>False}
def PTs(X:Cx)(ifs:List Expr)(tt:TT):Prop :=
 ∀(pins:List (Addr×Obj)) (s:Shared) (σ:St) (H:Hp) (Q:Bool->Hp->Prop),Inv X pins σ H s->tt σ H Q ->
  wpAny (model X.prog X.w) X.A (forIn ifs true λc r=>if r=true then do let ok <- isTrue c X.env (eval c X.env);pure (ForInStep.yield ok) else pure (ForInStep.yield r)) (TP X pins σ Q) X.xe s
def tYes:TT:=λ_ H Q=>Q true H
theorem Bi:PTs X [] tYes:=λ_ _ _ H _ I h=>wpAny_tests_nil ⟨H,I,h⟩
theorem P7{c:Expr}(h:PT X c tt):PTs X [c] tt:=λpins s σ H Q I hq=>wpAny_tests_one (h pins s σ H Q I hq)
def cq(n:Nat)(g:TG):Prop:=∀v σ H Q,g v σ H Q->g v σ H λσ' H'=>(σ'.length=σ.length/\∀j,n<=j->σ'[j]?=σ[j]?)/\Q σ' H'
theorem Av(h:i<n):cq n (E3 i):=λv σ H Q q=>⟨⟨by simp,λj hj=>by rw[Zxr (by lia)]⟩,q⟩
def da(own:List Str)(cap:List Nat)(wi:TI)(g:TG)(tt:TT)(te:TE):TE:=λσ H Q=>wi σ H λJ H1=>∃W:Nat->Nat->List V->Hp->Prop,(∃m,W 0 m [] H1)/\∀i m acc H,W i m acc H->acc.length<=sizeLine /\
 ((J.stop i H/\∀p,H p=none->Q (.ref p) (upd H p (.lst acc))) \/
  (J.go i H/\acc.length<sizeLine/\∃N:List V->Hp->Prop,(∀acc' H',N acc' H'->∃m',m'<m/\W (i+1) m' acc' H')/\∀x H',J.yld i H x H'->g x (Gh own cap σ) H' λσ2 H2=>tt σ2 H2 λb H3=>if b=true then te σ2 H3 λy H4=>N (acc++[y]) H4 else N acc H3))
theorem K9{target:Expr}{it acc:Value}(I:Nat->Shared->Prop)
  (turn:∀n s,I n s->wpAny (model prog w) A (pyNext it) (λr s₁=>match r with
   |none=>R (.ok .next) s₁
   |some v=>wpAny (model prog w) A (letOwnedTupleGo target it v) (λ_ s₁'=>wpAny (model prog w) A (assign target env v) (λ_ s₂ =>
     wpAny (model prog w) A (forIn ifs true λc r=>if r=true then do let ok <- isTrue c env (eval c env);pure (ForInStep.yield ok) else pure (ForInStep.yield r)) (λok s₃ =>
      if ok=true then wpAny (model prog w) A (eval elt env) (λx s₄ =>
       wpAny (model prog w) A (call (.builtin "list.append") [acc,x]) (λ_ s₅=>∃m,m<n/\I m s₅) (λ_ _=>False) s₄) (λ_ _=>False) s₃
      else ∃m,m<n/\I m s₃) (λ_ _=>False) s₂) (λ_ _=>False) s₁') (λ_ _=>False) s₁) (λ_ _=>False) s)
  (n:Nat) (h:I n s) :
  codeAny (model prog w) A (.compLoop (.ListComp elt [⟨target,iter,ifs,0⟩] scope pos) 0 it acc env) R s:=by
 refine codeAny_loop rfl I (λn s hI=>?_) n h;show wpAny _ A ((compTurn (.ListComp elt [⟨target,iter,ifs,0⟩] scope pos) 0 it acc env).onRaise (λx=>do noteFrame x env;theTreesLotGoes x)) _ _ s;refine wpAny_noted ?_;rw[compTurn_list];refine GF (wpAny_standAt (GF (wpAny_mono (turn n s hI) (λr s₁ h₁=>?_) λ_ _ h'=>h'.elim)));cases r with
 |none=>exact GG h₁
 |some v =>
  refine GF (wpAny_mono h₁ (λ_ s₁' h₁'=>?_) λ_ _ h'=>h'.elim);refine GF (wpAny_mono h₁' (λ_ s₂ h₂=>GF (wpAny_mono h₂ (λok s₃ h₃=>?_) λ_ _ h'=>h'.elim)) λ_ _ h'=>h'.elim);cases ok with
  |false=>exact GG ⟨rfl,h₃⟩
  |true =>
   exact GF (GF (wpAny_mono h₃ (λx s₄ h₄=>GF (wpAny_mono h₄ (λ_ s₅ h₅=>GG (GG ⟨rfl,h₅⟩)) λ_ _ h'=>h'.elim)) λ_ _ h'=>h'.elim))
theorem Np(h:(Gh own cap σ)[i]?=some (some v)):own.length<=i/\∃j,cap[i - own.length]?=some j/\σ[j]?=some (some v):=by
 unfold Gh at h;by_cases hi:i<own.length
 ·rw[Zxw (by simpa using hi),Zzx] at h;cases e:own[i]? with
  |none=>rw[e] at h;cases h
  |some a=>rw[e] at h;cases h
 ·have hi':own.length<=i:=by lia
  rw[Zy2 (by simpa using hi'),Zzz,Zzx] at h;refine⟨hi',?_⟩;cases e:cap[i - own.length]? with
  |none=>rw[e] at h;cases h
  |some j =>
   rw[e] at h;have h2:σ.getD j none=some v:=Zzm h;refine⟨j,rfl,?_⟩;rw[Zzg] at h2;cases e2:σ[j]? with
   |none=>rw[e2] at h2;cases h2
   |some o=>rw[e2] at h2;simp at h2;rw[h2]
theorem Jh{env:Env}{x:Str}{k:NameKind}:∀{names:List (Str×NameKind)},names.lookup x=some k ->
  (names.map λ(n,k)=>if (k == Zyx&&env.scope.kind == .function&&env.kindOf n == some .cell) then (n,Zw6) else (n,k)).lookup x=some (if (k == Zyx&&env.scope.kind == .function&&env.kindOf x == some .cell)=true then .cell else k)
 |[],h=>by simp at h
 | (n,k')::r,h=>by
  have ih:=@Jh env x k r;show Zxg x ((if (k' == Zyx&&env.scope.kind == .function&&env.kindOf n == some .cell)=true then (n,Zw6) else (n,k'))::_)=_;cases hx:x == n with
  |true =>
   simp only[Zyb,hx] at h;cases h;have e:=eq_of_beq hx;subst e;by_cases hc:(k == Zyx&&env.scope.kind == .function&&env.kindOf x == some .cell)=true
   ·rw[GE hc,GE hc];simp[Zyb]
   ·rw[GD hc,GD hc];simp[Zyb]
  |false =>
   simp only[Zyb,hx] at h;by_cases hc:(k' == Zyx&&env.scope.kind == .function&&env.kindOf n == some .cell)=true
   ·rw[GE hc];simp only[Zyb,hx];exact ih h
   ·rw[GD hc];simp only[Zyb,hx];exact ih h
theorem Fu{env:Env}{x:Str}:∀{names:List (Str×NameKind)},(∀y∈names,y.2≠.cell) ->
  ((names.map λ(n,k)=>if (k == Zyx&&env.scope.kind == .function&&env.kindOf n == some .cell) then (n,Zw6) else (n,k)).lookup x=some .cell \/
   (names.map λ(n,k)=>if (k == Zyx&&env.scope.kind == .function&&env.kindOf n == some .cell) then (n,Zw6) else (n,k)).lookup x=some .free)->(x,Zyx)∈names
 |[],_,h=>by simp at h
 | (n,k')::r,hn,h=>by
  have ih:=@Fu env x r λy hy=>hn y (Zzs _ hy);have hk':k'≠.cell:=hn (n,k') Zzq;have h:Zxg x ((if (k' == Zyx&&env.scope.kind == .function&&env.kindOf n == some .cell)=true then (n,Zw6) else (n,k'))::_)=some .cell \/
   Zxg x ((if (k' == Zyx&&env.scope.kind == .function&&env.kindOf n == some .cell)=true then (n,Zw6) else (n,k'))::_)=some .free:=h
  cases hx:x == n with
  |true =>
   have e:=eq_of_beq hx;subst e;by_cases hc:(k' == Zyx&&env.scope.kind == .function&&env.kindOf x == some .cell)=true
   ·have:k'=.free:=by
     rw[Zz1,Zz1] at hc;exact eq_of_beq hc.1.1
    rw[this];exact Zzq
   ·rw[GD hc] at h;simp[Zyb] at h;rcases h with h | h
    ·exact absurd h hk'
    ·rw[h];exact Zzq
  |false =>
   by_cases hc:(k' == Zyx&&env.scope.kind == .function&&env.kindOf n == some .cell)=true
   ·rw[GE hc] at h;simp only[Zyb,hx] at h;exact Zzs _ (ih h)
   ·rw[GD hc] at h;simp only[Zyb,hx] at h;exact Zzs _ (ih h)
theorem B9(h1:a<n)(h2:n<=b):a≠b:=Zz0 (Zzb h1 h2)
theorem A0p(S:Gs X.N X.env.scope sc own cap)(cl1:∀x c,cl.lookup x=some c->X.env.cells.lookup x=some c)(cl2:∀x,(x,Zyx)∈sc.names->∃c,cl.lookup x=some c)
  (I:Inv X pins σ H s) (f:∀b∈fp,Ik X pins H b) (live:∀b∈fp,b<s.heap.objs.size) (hC:s.heap.objs.size<=C):(AH X sc own cap cl C s H fp pins).Ok where
 mod:=I.ok.mod
 kind:=S.kind
 glob:=I.ok.glob
 blt:=I.ok.blt
 above:=hC
 inj:=λx y c h1 h2=>I.ok.inj x y c (cl1 x c h1) (cl1 y c h2)
 has:=λx hx=>cl2 x (Fu S.nocell hx)
 cab:=λx c h=>by cases h
 hd:=I.ok.hd
 frames:=I.ok.frames
 stk:=.inl rfl
 exf:=λb hb=>⟨λz=>B9 (live b hb) hC z,λx c e=>(f b hb).2.2.2.2.1 x c (cl1 x c e)⟩
 bs:=I.bs
 bsz:=Zzp I.ok.bsz I.sz
 noex:=λb o e hb=>by
  rcases(f b hb).2.2.2.1 with z | z
  ·exact I.ok.noex b o e z
  ·exact B9 (Zzb (Zzo e) I.ok.bsz) z rfl
 exfs:=λb hb z=>by
  rcases Zzw.mp (I.stkSub b z) with q | q
  ·exact(f b hb).2.1 q
  ·exact(f b hb).2.2.1 q
 funs:=I.stack;frf:=I.stkFree
theorem tj(S:Gs X.N X.env.scope sc own cap)(cl1:∀x c,cl.lookup x=some c->X.env.cells.lookup x=some c)(cl2:∀x,(x,Zyx)∈sc.names->∃c,cl.lookup x=some c)
  (I:Inv X pins σ H s) (ok:(AH X sc own cap cl C s H fp pins).Ok) (hC:s.heap.objs.size<=C) {h₁:Heap} {tk:Nat} {m:Str->Option Value} (hns:h₁.Ns C m) (old:∀b o,s.heap.get? b=some o->h₁.get? b=some o) :
  Inv (AH X sc own cap cl C s H fp pins) [] (Gh own cap σ) H {s with heap:=h₁,toks:=tk}:=by
 have Ee:∀x c v,X.env.cells.lookup x=some c->s.heap.IsCell c v->h₁.IsCell c v:=λx c v _ z=>by
  let⟨o,ho,hd⟩:=z;exact⟨o,old c o ho,hd⟩
 refine⟨ok,rfl,I.bare,Un.kept old,⟨m,hns,λi x v e1 e2 e3=>?_⟩,λx c e=>?_,I.hok.fresh hC,λx c e=>I.freeC x c (cl1 x c e),λp hp=>?_,I.hok.kept old,?_⟩
 ·have e1:(cpN X.N own cap)[i]?=some x:=e1
  let⟨hi,j,hj,hσ⟩:=Np e2;unfold cpN at e1;rw[Zy2 hi,Zzx,hj] at e1;have e1:X.N.getD j "" = x:=Zzm e1;let⟨hjl,hfr⟩:=S.cap j (Zzn hj);have hx:X.N[j]?=some x:=by rw[<- e1,Zzg];simp[hjl]
  rw[e1] at hfr;have hfree:=S.free (x,.free) (Zxo hfr) rfl;let⟨m0,_,hl⟩:=I.loc;let⟨u,r,l⟩:=hl j x v hx hσ (.inr hfree);refine⟨u,r,?_⟩;rcases l with ⟨k,_⟩ | ⟨k,c,hc,z⟩
  ·have k:X.env.scope.names.lookup x=some .local:=k
   rcases hfree with q | q<;>(rw[q] at k;cases k)
  ·let⟨c',hc'⟩:=cl2 x (Zxo hfr);have e4:=cl1 x c' hc';rw[hc] at e4;cases e4;refine .inr ⟨?_,c,hc',Ee x c _ hc z⟩;have q:=Jh (env:=X.env) hfr;show (relabel sc X.env).names.lookup x=some .cell\/(relabel sc X.env).names.lookup x=some .free;have q':(relabel sc X.env).names.lookup x=some (if (Zyx == Zyx&&X.env.scope.kind == .function&&X.env.kindOf x == some .cell)=true then .cell else .free):=q;rw[q'];split
   ·exact .inl rfl
   ·exact .inr rfl
 ·let⟨v,z⟩:=I.cell x c (cl1 x c e);exact⟨v,Ee x c v (cl1 x c e) z⟩
 ·have hp:p∈(X.pn++pins)++[]:=hp
  rw[Zyt] at hp;let⟨e,n,ne,nf,d⟩:=I.pin p hp;refine⟨old _ _ e,n,λz=>?_,λz=>?_,d⟩
  ·exact B9 (Zzo e) hC z
  ·rcases Zzw.mp (I.stkSub p.1 z) with q | q
   ·exact ne q
   ·exact nf q
 ·show (Gh own cap σ).length=(cpN X.N own cap).length
  unfold Gh cpN;simp
theorem gk(I:Inv X pins σ H s)(f:∀b∈fp,Ik X pins H b)(hC:s.heap.objs.size<=C){D:Addr}(hD:s.heap.objs.size<=D)(hDC:D≠C){σ':St}{acc:List V}{nn:Nat}
  (J:Inv (AH X sc own cap cl C s H fp pins) pl σ' H' s') (hDn:H' D=none) (hDo:s'.heap.get? D=some {cls:=.type "list",data:=.seq its.toArray nn}) (hv:AC acc its) (hz:acc.length<=sizeLine) :
  Inv X pins σ (upd H' D (.lst acc)) s'/\(∃m,s'.heap.Ns C m)/\Ik X pins (upd H' D (.lst acc)) C:=by
 have u:Un (frs X.stack) fp H H' s.heap s'.heap:=J.base;have lt:∀b o,s.heap.get? b=some o->b≠D:=λb o e z=>B9 (Zzo e) hD z;have trk:∀b o,H b=some o->b≠D:=λb o e z=>B9 (I.hok.lt e) hD z;have CH:H' C=none:=J.free;refine⟨I.call' (ch:=fp) J.os ⟨u.keep,u.slot,λb o e n hx=>by rw[A6 (lt b o e)];exact u.free b o e n hx,u.there,λb xs e=>by rw[A6 (trk b _ e)];exact u.tups b xs e,λb o xs e=>by rw[A6 (trk b _ e)];exact u.frzs b o xs e,λb ps e=>by rw[A6 (trk b _ e)];exact u.tbls b ps e⟩ (λb o e=>?_) J.bare λb hb=>?_,?_,?_⟩
 ·by_cases hb:b=D
  ·subst hb;rw[AA] at e;cases e;exact⟨hz,its,nn,hv,hDo⟩
  ·rw[A6 hb] at e;refine(J.hok b o e).stay (λc v _ q=>q) (λc q=>?_) λc xs q=>?_
   ·rw[A6 (A8 q hDn)];exact q
   ·rw[A6 (A8 q hDn)];exact q
 ·let⟨f0,f1,f2,f3,f4,f5⟩:=f b hb;exact⟨f3,f1,f4,f5⟩
 ·let⟨m,hn,_⟩:=J.loc;exact⟨m,hn⟩
 ·refine I.fpOk hC ?_;rw[A6 (Zza hDC)];exact CH
theorem Ru
  {it:Addr} {tn:Nat->Heap->Prop} {J:It} {Q:VK} {RR:Value->Addr->Result->Shared->Prop}
  (hc:X.calm=true) (S:Gs X.N X.env.scope sc own cap) (hown:cq own.length g)
  (cl1:∀x c,cl.lookup x=some c->X.env.cells.lookup x=some c) (cl2:∀x,(x,Zyx)∈sc.names->∃c,cl.lookup x=some c)
  (hb:∀cl C s H fp pins,PG (AH X sc own cap cl C s H fp pins) tg g/\PTs (AH X sc own cap cl C s H fp pins) ifs tt/\PE (AH X sc own cap cl C s H fp pins) elt te)
  (I:Inv X pins σ H s) (T:Nt X.prog X.w X.K tg J fp it tn) (st:tn 0 s.heap) (f:∀b∈fp,Ik X pins H b)
  (W:Nat->Nat->List V->Hp->Prop) (w0:∃m,W 0 m [] H)
  (turn:∀i m acc H,W i m acc H->acc.length<=sizeLine/\((J.stop i H/\∀p,H p=none->Q (.ref p) (upd H p (.lst acc)))\/(J.go i H/\acc.length<sizeLine/\∃N:List V->Hp->Prop,(∀acc' H',N acc' H'->∃m',m'<m/\W (i+1) m' acc' H')/\∀x H',J.yld i H x H'->g x (Gh own cap σ) H' λσ2 H2=>tt σ2 H2 λb H3=>if b=true then te σ2 H3 λy H4=>N (acc++[y]) H4 else N acc H3)))
  (hRR:∀D C H' s',Inv X pins σ H' s'->(∃m,s'.heap.Ns C m)->Ik X pins H' C->Q (.ref D) H'->RR (.ref D) C (.ok .next) s') :
  wpAny (model X.prog X.w) X.A (newList []) (λacc s₃=>wpAny (model X.prog X.w) X.A (newFunctionEnv sc X.env.globals cl [] X.env.qual none .none (some X.env)) (λcenv s₄ =>
   codeAny (model X.prog X.w) X.A (.compStart (.ListComp elt [⟨tg,iter,ifs,0⟩] sc pos) 0 (.ref it) acc {cenv with scope:=relabel sc X.env}) (RR acc cenv.locals) s₄) E s₃) E s:=by
 refine wpAny_newObj_type (wpAny_newFunctionEnv S.nocell (by intro y hy;simp at hy) (λh₁ hns₁ hsb₁=>?_) S.kind);dsimp only at hns₁ hsb₁ ⊢;generalize hH2:s.heap.push {cls:=.type "list",dict:=none,data:=.seq ([]:List Value).toArray}=H2 at hns₁ hsb₁ ⊢;have hCs:H2.objs.size=s.heap.objs.size+1:=by rw[<- hH2,Zy0]
 have hDC:s.heap.objs.size≠H2.objs.size:=by lia
 have hCle:s.heap.objs.size<=H2.objs.size:=by lia
 have old:∀b o,s.heap.get? b=some o->h₁.get? b=some o:=λb o e=>by
  exact hsb₁.extBut b o (B9 (Zzo e) hCle) (Zzv _ (hH2▸Zzv _ e))
 have hacc:h₁.get? s.heap.objs.size=some {cls:=.type "list",data:=.seq ([]:List Value).toArray 0}:=hsb₁.extBut _ _ hDC (Zzv _ (hH2▸Zzj _ rfl));have live:∀b∈fp,b<s.heap.objs.size:=λb hb=>by
  let⟨o,e,_⟩:=T.obj _ _ st b hb;exact Zzo e
 have ok:=A0p (C:=H2.objs.size) S cl1 cl2 I f live hCle;have hDst:s.heap.objs.size∉frs X.stack:=λz=>by
  rcases Zzw.mp (I.stkSub _ z) with q | q
  ·exact B9 I.lt (Zzu _) q.symm
  ·exact I.nofs (Zzu _) q
 have fpX:∀(H':Hp) (pl:List (Addr×Obj)),(∀b∈fp,H' b=none)->(∀p∈pl,∀b∈fp,p.1≠b)->∀b∈fp,Ik (AH X sc own cap cl H2.objs.size s H fp pins) pl H' b:=λH' pl hn hp b hb=>by
  let⟨f0,f1,f2,f3,f4,f5⟩:=f b hb;refine⟨hn b hb,λz=>?_,λz=>?_,.inl hb,λx c e=>f4 x c (cl1 x c e),λp hpp=>?_⟩
  ·exact B9 (live b hb) hCle z
  ·rcases Zzw.mp (I.stkSub b z) with q | q
   ·exact f1 q
   ·exact f2 q
  ·rcases Zz3.mp hpp with q | q
   ·exact f5 p q
   ·exact hp p q b hb
 have loop:∀s₃:Shared,s₃={s with heap:=h₁,toks:=s.toks+([]:List (Str×Value)).length} ->
   codeAny (model X.prog X.w) X.A (.compLoop (.ListComp elt [⟨tg,iter,ifs,0⟩] sc pos) 0 (.ref it) (.ref s.heap.objs.size) (compEnvC sc cl H2.objs.size X.env))
    (RR (.ref s.heap.objs.size) H2.objs.size) s₃:=by
  rintro s₃ rfl;let⟨m0,w0⟩:=w0;let⟨hg,ht,he⟩:=hb cl H2.objs.size s H fp pins;have I0:Inv (AH X sc own cap cl H2.objs.size s H fp pins) [] (Gh own cap σ) H {s with heap:=h₁,toks:=s.toks+([]:List (Str×Value)).length}:=tj S cl1 cl2 I ok hCle hns₁ old;refine K9 (λn s'=>∃i acc its nn H',Inv (AH X sc own cap cl H2.objs.size s H fp pins) [] (Gh own cap σ) H' s'/\tn i s'.heap/\(∀b∈fp,H' b=none) /\
   s'.heap.get? s.heap.objs.size=some {cls:=.type "list",data:=.seq its.toArray nn}/\AC acc its/\H' s.heap.objs.size=none/\W i n acc H') ?_ m0
   ⟨0,[],[],0,H,I0,T.keep _ _ _ st (λb _ o e=>old b o e),λb hb=>(f b hb).1,hacc,.nil,I.hok.fresh (Zzu _),w0⟩
  rintro n s3 ⟨i,acc,its,nn,H3,I3,st3,fr3,hD3,rv3,hDn,w3⟩;let⟨hz,hcase⟩:=turn i n acc H3 w3;have hpl:∀p∈[((s.heap.objs.size:Addr),({cls:=.type "list",data:=.seq its.toArray nn}:Obj))],∀b∈fp,p.1≠b:=λp hp b hb z=>by
   have e:p=_:=Zzh.mp hp;rw[e] at z;exact B9 (live b hb) (Zzu _) z.symm
  have I3':Inv (AH X sc own cap cl H2.objs.size s H fp pins) [((s.heap.objs.size:Addr),({cls:=.type "list",data:=.seq its.toArray nn}:Obj))] (Gh own cap σ) H3 s3:=I3.pins_of λp hp=>by
   have e:p=_:=Zzh.mp hp;subst e;exact⟨hD3,hDn,hDC,hDst,λv z=>by cases z⟩
  rcases hcase with ⟨stop,fin⟩ | ⟨go,hlt,N,hN,step⟩
  ·refine thn (T.done (AH X sc own cap cl H2.objs.size s H fp pins) rfl rfl rfl hc i _ s3 _ H3 _ I3' (fpX H3 _ fr3 hpl) st3 stop) λr s4 z0=>?_;let⟨hr,I4⟩:=z0;subst hr;have hD4:=(I4.pin (_,_) (Zze _ (Zzh.mpr rfl))).1;let⟨J1,J2,J3⟩:=gk I f hCle (Zzu _) hDC I4 hDn hD4 rv3 hz;exact hRR _ _ _ _ J1 J2 J3 (fin _ hDn)
  ·refine thn (T.item (AH X sc own cap cl H2.objs.size s H fp pins) rfl rfl rfl hc i _ s3 _ H3 _ I3' (fpX H3 _ fr3 hpl) st3 go) λr s4 z0=>?_;let⟨u,hr,h4⟩:=z0;subst hr;refine thn h4 λ_ s5 z0=>?_;let⟨x,H5,I5,r5,y5,st5,fr5⟩:=z0;have I5':=I5.pinned (fpX H5 _ fr5 hpl) (T.obj _ _ st5);refine thn (hg _ s5 _ H5 x u _ I5' r5 (hown _ _ _ _ (step x H5 y5))) λ_ s6 z0=>?_;let⟨σ6,H6,I6,⟨hx1,hx2⟩,q6⟩:=z0;refine thn (ht _ s6 σ6 H6 _ I6 q6) λb s7 z0=>?_;let⟨H7,I7,q7⟩:=z0;have wk:∀{H7:Hp} {s7:Shared} {pl:List (Addr×Obj)},Inv (AH X sc own cap cl H2.objs.size s H fp pins) pl σ6 H7 s7->Inv (AH X sc own cap cl H2.objs.size s H fp pins) pl (Gh own cap σ) H7 s7:=λI=>I.weak hx1.symm λj v e=>by
    rw[hx2 j (Np e).1];exact e
   have stay:∀{H7:Hp} {s7:Shared} {σ7:St},Inv (AH X sc own cap cl H2.objs.size s H fp pins) ([((s.heap.objs.size:Addr),({cls:=.type "list",data:=.seq its.toArray nn}:Obj))]++Jd fp s5.heap) σ7 H7 s7 ->
     tn (i+1) s7.heap/\(∀b∈fp,H7 b=none)/\s7.heap.get? s.heap.objs.size=some {cls:=.type "list",data:=.seq its.toArray nn}/\H7 s.heap.objs.size=none:=λ{H7 s7 σ7} I7=>by
    refine⟨T.keep _ _ _ st5 λb hb o e=>(I7.pin (b,o) (Zze _ (Zze _ (Eu hb e)))).1,λb hb=>?_,?_,?_⟩
    ·let⟨o,e,d⟩:=T.obj _ _ st5 b hb;exact(I7.pin (b,o) (Zze _ (Zze _ (Eu hb e)))).2.1
    ·exact(I7.pin (_,_) (Zze _ (Zyi _ (Zzh.mpr rfl)))).1
    ·exact(I7.pin (_,_) (Zze _ (Zyi _ (Zzh.mpr rfl)))).2.1
   cases b with
   |false =>
    rw[GD Zzi] at q7 ⊢;let⟨m',hm,w7⟩:=hN _ _ q7;let⟨a1,a2,a3,a4⟩:=stay I7;exact⟨m',hm,i+1,acc,its,nn,H7,(wk I7).pins_of (λp hp=>absurd hp (by simp)),a1,a2,a3,rv3,a4,w7⟩
   |true =>
    rw[GE rfl] at q7 ⊢;refine thn (he _ s7 σ6 H7 _ I7 q7) λy s8 z0=>?_;let⟨v,H8,I8,r8,n8⟩:=z0;let⟨m',hm,w8⟩:=hN _ _ n8;let⟨a1,a2,a3,a4⟩:=stay I8;have hlen:=rv3.length;refine call_meets F.slot_list_append ⟨_,a3,rfl⟩ F.entry_list_append (F.args_list_append_2 _ _) (PySem.list_append s.heap.objs.size its.toArray nn y (by rw[Zzr];lia)) ⟨a3,?_⟩;obtain⟨n',q⟩:∃n',(s8.heap.update s.heap.objs.size (Obj.mapSeq (·.push y))).get? s.heap.objs.size=some {cls:=.type "list",data:=.seq (its++[y]).toArray n'}:=by
     have q:=PySem.IsL.update a3 (·.push y);have e:(its.toArray.push y)=(its++[y]).toArray:=by simp
     rw[<- e];exact⟨_,q⟩
    have I9:=(wk I8).pins_of (pins':=Jd fp s5.heap) λp hp=>(wk I8).pin p (Zze _ (Zze _ hp));have kk:∀b o,b≠s.heap.objs.size->s8.heap.get? b=some o->(s8.heap.update s.heap.objs.size (Obj.mapSeq (·.push y))).get? b=some o:=λb o hb e=>(Zyo s8.heap (Obj.mapSeq (·.push y)) (Zza hb)).trans e;refine⟨m',hm,i+1,acc++[v],its++[y],n',H8,(I9.pins_of (pins':=[]) λp hp=>absurd hp (by simp)).turned (it:=s.heap.objs.size) kk a4 hDC (.inr (Zzu _)) (λx c e z=>?_) (λp hp z=>?_),T.keep _ _ _ a1 λb hb o e=>kk b o (λz=>?_) e,a2,q,rv3.append (.cons r8 .nil),a4,w8⟩
    ·have e:=cl1 x c e
     let⟨w',o,ho,_⟩:=I.cell x c e;exact B9 (Zzo ho) (Zzu _) z
    ·have hp:p∈(X.pn++pins)++[]:=hp
     rw[Zyt] at hp;exact B9 (Zzo (I.pin p hp).1) (Zzu _) z
    ·exact B9 (live b hb) (Zzu _) z
 exact codeAny_compStart_list (loop _ rfl) (T.self _ 0 _ _ _ (T.keep _ _ _ st λb _ o e=>old b o e) (loop _ rfl))
theorem Bs{wi:TI}(hc:X.calm=true)(S:Gs X.N X.env.scope sc own cap)(hown:cq own.length g)(hi:PI X tg iter wi)
  (hb:∀cl C s H fp pins,PG (AH X sc own cap cl C s H fp pins) tg g/\PTs (AH X sc own cap cl C s H fp pins) ifs tt/\PE (AH X sc own cap cl C s H fp pins) elt te)
  (hs:∀x,foldedSetIterable iter X.env x=pure x:=by intro _;rfl):PE X (.ListComp elt [⟨tg,iter,ifs,0⟩] sc pos) (da own cap wi g tt te):=by
 intro pins s σ H Q I h;let⟨cl,hcl,cl1,cl2⟩:=Ft (env:=X.env) (scope:=sc) λy hy hf=>I.ok.has y.1 (S.free y hy hf);rw[eval_ListComp];refine wpAny_comprehension_free (use:=none) rfl hs hcl S.kind S.names (thn (hi pins s σ H _ I h) λxv s1 h1=>thn h1 λitv s2 h2=>?_);let⟨it,fp,tn,J,H2,e,I2,T,st2,f2,W,w0,turn⟩:=h2;subst e;refine Ru (RR:=λacc C=>compPost (model X.prog X.w) X.A X.xe none (EP X pins σ Q) acc C) hc S hown cl1 cl2 hb I2 T st2 f2 W w0 turn ?_;intro D C H' s' J1 ⟨m,J2⟩ ⟨c0,c1,c2,c3,c4,c5⟩ q;exact⟨m,J2,λh' sb=>⟨.ref D,H',J1.turned (t':=s'.toks) (λb o hb e=>(sb.2 b hb).trans e) c0 c1 c3 c4 c5,rfl,q⟩⟩
theorem Dy{spos:Pos}{wi:TI}(hc:X.calm=true)(S:Gs X.N X.env.scope sc own cap)(hown:cq own.length g)(hN:X.N.Nodup)(hx:X.N[i]?=some x)(hl:X.env.scope.names.lookup x=some .local)(hi:PI X tg iter wi)
  (hb:∀cl C s H fp pins,PG (AH X sc own cap cl C s H fp pins) tg g/\PTs (AH X sc own cap cl C s H fp pins) ifs tt/\PE (AH X sc own cap cl C s H fp pins) elt te)
  (hsw:swapsWith (.ListComp elt [⟨tg,iter,ifs,0⟩] sc pos) (some (.Name x pos')) spos.line X.env=pure true:=by rfl)
  (hs:∀x,foldedSetIterable iter X.env x=pure x:=by intro _;rfl):PS X (.Assign [.Name x pos'] (.ListComp elt [⟨tg,iter,ifs,0⟩] sc pos) spos) (i4 (da own cap wi g tt te) (E3 i)):=by
 intro pins s σ H D I h;let⟨cl,hcl,cl1,cl2⟩:=Ft (env:=X.env) (scope:=sc) λy hy hf=>I.ok.has y.1 (S.free y hy hf);rw[exec_Assign_Name_used _ _ _ _ hsw];refine GF (wpAny_standAt (GF ?_));show wpAny _ _ (do let _ <- comprehension (.ListComp elt [⟨tg,iter,ifs,0⟩] sc pos) sc X.env _ (newList []) false (eval iter X.env) (some (assign (.Name x pos') X.env))) _ _ s;refine GF (wpAny_mono (wpAny_comprehension_free (use:=some (assign (.Name x pos') X.env)) (Q:=λ_ s'=>SP X pins D .next s') rfl hs hcl S.kind S.names (thn (hi pins s σ H _ I h) λxv s1 h1=>thn h1 λitv s2 h2=>?_)) (λ_ s' hq=>GG (GG hq)) λ_ _ e=>e);let⟨it,fp,tn,J,H2,e,I2,T,st2,f2,W,w0,turn⟩:=h2;subst e;refine Ru (Q:=λx H1=>E3 i x σ H1 D.nx) (RR:=λacc C=>compPost (model X.prog X.w) X.A X.xe (some (assign (.Name x pos') X.env)) (λ_ s'=>SP X pins D .next s') acc C) hc S hown cl1 cl2 hb I2 T st2 f2 W w0 turn ?_;intro L C H' s' J1 ⟨m,J2⟩ ⟨c0,c1,c2,c3,c4,c5⟩ q;show wpAny _ _ (assign (.Name x pos') X.env (.ref L)) _ _ s';refine wpAny_assign_Name (Mt (v:=.ref L) J1 hN hx (.inl hl) rfl (λs'' J3 ⟨a,sb,ha⟩=>?_) (.inr hl));have hCa:C≠a:=by
  rcases ha with z | z
  ·rw[z];exact c1
  ·exact Zza (c4 _ _ z)
 refine⟨m,J2.sameBut sb hCa,λh' sb'=>⟨_,H',J3.turned (t':=s''.toks) (λb o hb e=>(sb'.2 b hb).trans e) c0 c1 c3 c4 c5,q⟩⟩
noncomputable def Ps(H:Hp):V->Option String
 |.non=>some "NoneType"
 |.bl _=>some "bool"
 |.int _=>some "int"
 |.str _=>some "str"
 |.ref a=>match H a with
  |some (.lst _)=>some "list"
  |some (.tup _)=>some "tuple"
  |some (.dK _)=>some "dict"
  |_=>none
 |_=>none
noncomputable def C9(t T:String):Bool:=t == T||(t == "bool" && T == "int")
theorem yb(K:Zzy){t:String}(ht:t∈["NoneType", "bool", "int", "str", "list", "tuple", "dict"])(hT:T∈["bool", "int", "str", "list", "tuple", "dict"]):PySem.W.kitOne K (.type t) (.type T)=some (C9 t T):=by
 simp only[Zzw,Zz2,or_false] at ht hT;rcases ht with rfl | rfl | rfl | rfl | rfl | rfl | rfl<;>rcases hT with rfl | rfl | rfl | rfl | rfl | rfl<;>first | rfl | decide +kernel
theorem Cu:AI X (.builtin "isinstance") (λxs H Q=>∃x T t,xs=[x,.ty T]/\Ps H x=some t/\T∈["bool", "int", "str", "list", "tuple", "dict"]/\Q (.bl (C9 t T)) H):=by
 intro pins s σ H xs us Q I r h;let⟨x,T,t,rfl,ht,hT,q⟩:=h;let⟨u,w',rfl,ru,rw'⟩:=cz r;have rw':w'=Value.type T:=rw';subst rw';have key:∀{t':String},Nr X.K H x (.type t')->t'=t->t∈["NoneType", "bool", "int", "str", "list", "tuple", "dict"]->wpAny (model X.prog X.w) X.A (call (.builtin "isinstance") [u,.type T]) (EP X pins σ Q) X.xe s:=λ{t'} ty e hm=>by
  subst e;exact jb I ru ty (yb X.K hm hT) λtk=>⟨.bl (C9 t' T),H,I.tok tk,rfl,q⟩
 cases x with
 |non=>cases ht;exact key .non rfl (by decide)
 |bl b=>cases ht;exact key (.bl b) rfl (by decide)
 |int i=>cases ht;exact key (.int i) rfl (by decide)
 |str z=>cases ht;exact key (.str z) rfl (by decide)
 |ref a =>
  unfold Ps at ht;simp only at ht;cases e:H a with
  |none=>rw[e] at ht;cases ht
  |some o =>
   rw[e] at ht;cases o with
   |lst xs=>cases ht;exact key (.lst e) rfl (by decide)
   |tup xs=>cases ht;exact key (.tup e) rfl (by decide)
   |dK kvs=>cases ht;exact key (.dK e) rfl (by decide)
   |_=>cases ht
 |_=>cases ht
theorem Inv.walked{o:Obj}{tk:Nat}(I:Inv X pins σ H s)(k:∀b ob,b∉[s.heap.objs.size]->(s.heap.push o).get? b=some ob->h'.get? b=some ob):Inv X pins σ H {s with heap:=h',toks:=tk} :=
 I.kept λb u e=>k b u (by
  intro z
  exact B9 (Zzo e) (Zzu _) (Zzh.mp z)) (Zzv _ e)
theorem cy:∀{bs:List Bool} {us:List Value},AC (bs.map V.bl) us->us=bs.map Value.bool
 |[],_,.nil=>rfl
 |b::r,_,.cons h t=>by
  have h:_=Value.bool b:=h;rw[h,cy t];rfl
theorem Zu(bs:List Bool):((Zys bs.length).all λi=>(bs[i]?).getD true)=bs.all id:=by
 induction bs with
 |nil=>rfl
 |cons b r ih =>
  rw[Zyz,List.range_succ_eq_map,Zwm,Zwm,Zvw];show ((b::r)[0]?.getD true&&_)=_;congr 1
theorem C6(I:Inv X pins σ H s)(h:H a=some (.lst xs)):∃its:List Value,AC xs its/\s.heap.IsList a its.toArray/\a<s.heap.objs.size:=by
 let⟨hz,its,n,r,e⟩:=I.hok a _ h;exact⟨its,r,⟨_,e,rfl,n,rfl⟩,Zzo e⟩
theorem Dr(hc:X.calm=true):AI X (.builtin "all") (λxs H Q=>∃(a:Addr) (bs:List Bool),xs=[.ref a]/\H a=some (.lst (bs.map V.bl))/\Q (.bl (bs.all id)) H):=by
 intro pins s σ H xs us Q I r h;let⟨a,bs,rfl,ha,q⟩:=h;let⟨u,rfl,ru⟩:=F9 r;cases ru;let⟨its,rv,hl,hlt⟩:=C6 I ha;have e:=cy rv;subst e;refine call_all_walk (wpAny_pyIter_list hl ?_);refine⟨s.heap.objs.size,[s.heap.objs.size,a],[s.heap.objs.size],(bs.map Value.bool).toArray.size,_,_,λi=>(bs[i]?).getD true,rfl,Walks.list (A:=X.A.in1) (I.ok.hd hc) _ a (Zz0 hlt) (bs.map Value.bool).toArray,
  ⟨⟨_,Zzj _ rfl,rfl,rfl⟩,hl.push _⟩,λi v s' Q' E' hP hQ=>?_,λh' tk hk=>?_⟩
 ·have hP:(bs.map Value.bool)[i]?=some v:=by simpa using hP
  rw[Zzx] at hP;cases e:bs[i]? with
  |none=>rw[e] at hP;cases hP
  |some b =>
   rw[e] at hP;cases hP;simp only[e,Zw9] at hQ;exact wpAny_truthy_bool hQ
 ·have e:((Zys (bs.map Value.bool).toArray.size).all λi=>(bs[i]?).getD true)=bs.all id:=by
   rw[Zzr,Zzz];exact Zu bs
  rw[e];exact⟨.bl (bs.all id),H,I.walked hk,rfl,q⟩
theorem FF:OpR X (compareOp .Is) (λx y H Q=>∃i j,x=.bl i/\y=.bl j/\Q (.bl (i == j)) H):=by
 intro pins s σ H x y v u Q I rx ry h;let⟨i,j,rfl,rfl,q⟩:=h;cases rx;cases ry;exact is_bool ⟨.bl (i == j),H,I,rfl,q⟩
theorem EO:OpR X (compareOp .IsNot) (λx y H Q=>∃i j,x=.bl i/\y=.bl j/\Q (.bl (i != j)) H):=by
 intro pins s σ H x y v u Q I rx ry h;let⟨i,j,rfl,rfl,q⟩:=h;cases rx;cases ry;exact isnot_bool ⟨.bl (i != j),H,I,rfl,q⟩
theorem Rt{x:V}:∀{xs:List V} {us:List Value},AC xs us->xs.all Gf=true->us.countP (eqU x)=xs.countP λy=>eqV y x
 |_,_,.nil,_=>rfl
 |y::xs,u::us,.cons r t,h=>by
  rw[Zwm,Zz1] at h;rw[List.countP_cons,List.countP_cons,Rt t h.2,bj r h.1]
def FG:V->List V->Hp->VK->Prop:=λx vs H Q=>∃l xs y,x=.ref l/\vs=[y]/\H l=some (.lst xs)/\Gf y=true/\xs.all Gf=true/\Q (.int (xs.countP λz=>eqV z y)) H
theorem qd:MtM X "list.count" FG:=by
 intro pins s σ H x vs v us Q I rx rv h;let⟨l,xs,y,rfl,rfl,hH,fy,fx,q⟩:=h;cases rx;let⟨u,rfl,ru⟩:=rv.one;let⟨z,its,n,r,hl,e⟩:=I.lstM hH;refine call_meets F.slot_list_count ⟨_,e,rfl⟩ F.entry_list_count (F.args_list_count_2 _ _) (SeqAt.list_countAt l its.toArray n none #[] u (eqU y)) ⟨e,λw hw=>Gc ru fy r fx w (by simpa using hw),?_⟩;exact⟨.int _,H,I.tok _,⟨_,by rw[<- Rt r fx]⟩,q⟩
noncomputable def Its(x:Str):It:=⟨λi _=>i<x.cps.size,λi H v H'=>H'=H/\∃c,x.cps[i]?=some c/\v=.str ⟨#[c]⟩,λi _=>x.cps.size<=i⟩
theorem Xa(it:Addr)(x:Str)(t:Tok)(ty:String)(hty:ty = "str_ascii_iterator" \/ ty = "str_iterator"):Nt P w K tg (Its x) [it] it (λi h=>h.IsStrIter it ty x t i) where
 mem:=by simp
 obj:=λi h st b hb=>by
  have e:b=it:=by simpa using hb
  subst e;let⟨o,e,c,d⟩:=st;exact⟨o,e,λv z=>by rw[d] at z;cases z⟩
 keep:=λi h h' st k=>by let⟨o,ho,r⟩:=st;exact⟨o,k it (by simp) o ho,r⟩
 item:=by
  intro X hP hw hK hc i pins s σ H E I hf st hg;subst hP hw hK;let⟨f0,f1,f2,f3,f4,f5⟩:=hf it (by simp);have hg:i<x.cps.size:=hg;have fin:∀h',h'.IsStrIter it ty x t (i+1)->Zxs it s.heap h'->∃u,some (Value.str ⟨#[x.cps[i]]⟩ s.toks)=some u/\wpAny (model X.prog X.w) X.A (letOwnedTupleGo tg (.ref it) u) (λ_ s2=>∃x' H',Inv X pins σ H' s2/\AE x' u/\(Its x).yld i H x' H'/\s2.heap.IsStrIter it ty x t (i+1)/\∀b∈[it],H' b=none) E {s with heap:=h',toks:=s.toks+1}:=λh' st' sb=>by
   have I1:Inv X pins σ H {s with heap:=h',toks:=s.toks+1}:=I.turned (t':=s.toks+1) (λb o hb e=>(sb.2 b hb).trans e) f0 f1 f3 f4 f5;let⟨o,e,c,d⟩:=id st';refine⟨_,rfl,Ue (s:={s with heap:=h',toks:=s.toks+1}) e c d (by rcases hty with rfl | rfl<;>decide) ⟨.str ⟨#[x.cps[i]]⟩,H,I1,⟨_,rfl⟩,⟨rfl,_,by simp[hg],rfl⟩,st',λb hb=>(hf b hb).1⟩⟩
  rcases hty with rfl | rfl
  ·exact wpAny_pyNext_ascii_item st (c:=x.cps[i]) (by simp[hg]) fin
  ·exact wpAny_pyNext_wide_item st (c:=x.cps[i]) (by simp[hg]) fin
 done:=by
  intro X hP hw hK hc i pins s σ H E I hf st hg;subst hP hw hK;let⟨f0,f1,f2,f3,f4,f5⟩:=hf it (by simp);have hg:x.cps.size<=i:=hg;rcases hty with rfl | rfl
  ·exact wpAny_pyNext_ascii_end (I.ok.hd hc) st (by simp;lia) λh' eb=>⟨rfl,I.turned (t':=s.toks) (λb o hb e=>eb b o hb e) f0 f1 f3 f4 f5⟩
  ·exact wpAny_pyNext_wide_end (I.ok.hd hc) st (by simp;lia) λh' eb=>⟨rfl,I.turned (t':=s.toks) (λb o hb e=>eb b o hb e) f0 f1 f3 f4 f5⟩
 self:=λ_ _ _ _ _ st h=>by
  rcases hty with rfl | rfl
  ·exact wpAny_pyIter_striter_ascii st h
  ·exact wpAny_pyIter_striter_wide st h
theorem Tk(a it:Addr)(xs:List V):Nt P w K tg ⟨λi H=>H a=some (.lst xs)/\i<xs.length,λi H x H'=>H'=H/\xs[i]?=some x,λi H=>H a=some (.lst xs)/\xs.length<=i⟩ [it] it (λi h=>h.IsListIter it a i) where
 mem:=(Ej (P:=P) (w:=w) (K:=K) (tg:=tg) a it).mem
 obj:=(Ej (P:=P) (w:=w) (K:=K) (tg:=tg) a it).obj
 keep:=(Ej (P:=P) (w:=w) (K:=K) (tg:=tg) a it).keep
 item:=by
  intro X hP hw hK hc i pins s σ H E I hf st hg;let⟨h1,h2⟩:=hg;refine thn ((Ej (P:=P) (w:=w) (K:=K) (tg:=tg) a it).item X hP hw hK hc i pins s σ H E I hf st ⟨xs,xs[i],SqL.of h1,by simp[h2]⟩) λr s1 ⟨u,hr,h3⟩=>⟨u,hr,thn h3 λ_ s2 z0=>by let⟨x,H',I2,rx,⟨y1,y2⟩,st2,f2⟩:=z0;exact ⟨x,H',I2,rx,⟨y1,y2 xs (SqL.of h1)⟩,st2,f2⟩⟩
 done:=by
  intro X hP hw hK hc i pins s σ H E I hf st hg;let⟨h1,h2⟩:=hg;exact(Ej (P:=P) (w:=w) (K:=K) (tg:=tg) a it).done X hP hw hK hc i pins s σ H E I hf st ⟨xs,SqL.of h1,h2⟩
 self:=(Ej (P:=P) (w:=w) (K:=K) (tg:=tg) a it).self
theorem Tj(a it:Addr)(xs:List V):Nt P w K tg ⟨λi H=>H a=some (.tup xs)/\i<xs.length,λi H x H'=>H'=H/\xs[i]?=some x,λi H=>H a=some (.tup xs)/\xs.length<=i⟩ [it] it (λi h=>h.IsTupleIter it a i) where
 mem:=(Ei (P:=P) (w:=w) (K:=K) (tg:=tg) a it).mem
 obj:=(Ei (P:=P) (w:=w) (K:=K) (tg:=tg) a it).obj
 keep:=(Ei (P:=P) (w:=w) (K:=K) (tg:=tg) a it).keep
 item:=by
  intro X hP hw hK hc i pins s σ H E I hf st hg;let⟨h1,h2⟩:=hg;refine thn ((Ei (P:=P) (w:=w) (K:=K) (tg:=tg) a it).item X hP hw hK hc i pins s σ H E I hf st ⟨xs,xs[i],SqT.of h1,by simp[h2]⟩) λr s1 ⟨u,hr,h3⟩=>⟨u,hr,thn h3 λ_ s2 z0=>by let⟨x,H',I2,rx,⟨y1,y2⟩,st2,f2⟩:=z0;exact ⟨x,H',I2,rx,⟨y1,y2 xs (SqT.of h1)⟩,st2,f2⟩⟩
 done:=by
  intro X hP hw hK hc i pins s σ H E I hf st hg;let⟨h1,h2⟩:=hg;exact(Ei (P:=P) (w:=w) (K:=K) (tg:=tg) a it).done X hP hw hK hc i pins s σ H E I hf st ⟨xs,SqT.of h1,h2⟩
 self:=(Ei (P:=P) (w:=w) (K:=K) (tg:=tg) a it).self
def ItL(a:Addr)(xs:List V):It:=⟨λi H=>H a=some (.lst xs)/\i<xs.length,λi H x H'=>H'=H/\xs[i]?=some x,λi H=>H a=some (.lst xs)/\xs.length<=i⟩
noncomputable def ItT(a:Addr)(xs:List V):It:=⟨λi H=>H a=some (.tup xs)/\i<xs.length,λi H x H'=>H'=H/\xs[i]?=some x,λi H=>H a=some (.tup xs)/\xs.length<=i⟩
def A40(te:TE):TI:=λσ H R=>te σ H λx H1=>(∃a xs,x=.ref a/\H1 a=some (.lst xs)/\R (ItL a xs) H1)\/(∃a xs,x=.ref a/\H1 a=some (.tup xs)/\R (ItT a xs) H1)\/(∃z,x=.str z/\R (Its z) H1)
theorem G9{l:Expr}(hl:PE X l te):PI X tg l (A40 te):=by
 intro pins s σ H R I h;refine thn (hl pins s σ H _ I h) λv s1 z0=>?_;let⟨x,H1,I1,r1,q1⟩:=z0;have fp:∀b∈[s1.heap.objs.size],Ik X pins H1 b:=λb hb=>by
  have e:b=s1.heap.objs.size:=by simpa using hb
  subst e;exact I1.fpOk (Zzu _) (I1.hok.fresh (Zzu _))
 rcases q1 with ⟨a,xs,e,ha,q⟩ | ⟨a,xs,e,ha,q⟩ | ⟨z,e,q⟩
 ·subst e;cases r1;let⟨its,rv,hli,hlt⟩:=C6 I1 ha;refine wpAny_pyIter_list hli ?_;exact⟨s1.heap.objs.size,[s1.heap.objs.size],_,_,H1,rfl,I1.kept (t':=s1.toks) λb o e=>Zzv _ e,Tk a _ xs,⟨_,Zzj _ rfl,rfl,rfl⟩,fp,q⟩
 ·subst e;cases r1;let⟨hz,its,rv,p⟩:=I1.hok a _ ha;refine wpAny_pyIter_tuple (show s1.heap.IsTuple a its.toArray from p) ?_;exact⟨s1.heap.objs.size,[s1.heap.objs.size],_,_,H1,rfl,I1.kept (t':=s1.toks) λb o e=>Zzv _ e,Tj a _ xs,⟨_,Zzj _ rfl,rfl,rfl⟩,fp,q⟩
 ·subst e;let⟨t,rfl⟩:=r1;cases hasc:z.cps.all (·<128)
  ·refine wpAny_pyIter_wide hasc ?_;exact⟨s1.heap.objs.size,[s1.heap.objs.size],_,_,H1,rfl,I1.kept (t':=s1.toks) λb o e=>Zzv _ e,Xa _ z t _ (.inr rfl),⟨_,Zzj _ rfl,rfl,rfl⟩,fp,q⟩
  ·refine wpAny_pyIter_ascii hasc ?_;exact⟨s1.heap.objs.size,[s1.heap.objs.size],_,_,H1,rfl,I1.kept (t':=s1.toks) λb o e=>Zzv _ e,Xa _ z t _ (.inl rfl),⟨_,Zzj _ rfl,rfl,rfl⟩,fp,q⟩
structure S3(J:It)(n:Nat)(yl:Nat->V->Prop)(ok:Hp->Prop):Prop where
 go:∀i H,i<n->ok H->J.go i H
 yld:∀i H x H',i<n->ok H->J.yld i H x H'->H'=H/\yl i x
 stop:∀H,ok H->J.stop n H
theorem Ec(a:Addr)(xs:List V):S3 (ItL a xs) xs.length (λi x=>xs[i]?=some x) (λH=>H a=some (.lst xs)):=⟨λ_ _ h o=>⟨o,h⟩,λ_ _ _ _ _ _ y=>y,λ_ o=>⟨o,Zzu _⟩⟩
theorem Fv(a:Addr)(xs:List V):S3 (ItT a xs) xs.length (λi x=>xs[i]?=some x) (λH=>H a=some (.tup xs)):=⟨λ_ _ h o=>⟨o,h⟩,λ_ _ _ _ _ _ y=>y,λ_ o=>⟨o,Zzu _⟩⟩
theorem sh(z:Str):S3 (Its z) z.cps.size (λi x=>∃c,z.cps[i]?=some c/\x=.str ⟨#[c]⟩) (λ_=>True):=⟨λ_ _ h _=>h,λ_ _ _ _ _ _ y=>y,λ_ _=>Zzu _⟩
theorem Ud(lo:Int)(n:Nat):S3 (Itr lo n) n (λi x=>x=.int (lo+i)) (λ_=>True):=⟨λ_ _ h _=>h,λ_ _ _ _ _ _ y=>y,λ_ _=>Zzu _⟩
theorem su{ok:Hp->Prop}{tb:TS}{D:AX}(G:S3 J n yl ok)(Pv:Nat->St->Hp->Prop)(h0:Pv 0 σ H)(hok:∀i σ H,i<=n->Pv i σ H->ok H)
  (hs:∀i x σ H,i<n->yl i x->Pv i σ H->g x σ H λσ2 H2=>tb {D with nx:=Pv (i+1),ct:=Pv (i+1),bk:=D.nx} σ2 H2) (hd:∀σ H,Pv n σ H->D.nx σ H) :
  ∃W:Nat->Nat->St->Hp->Prop,(∃m,W 0 m σ H)/\∀i m σ H,W i m σ H ->
   (J.stop i H/\D.nx σ H)\/(J.go i H/\∃N:St->Hp->Prop,(∀σ' H',N σ' H'->∃m',m'<m/\W (i+1) m' σ' H')/\∀x H',J.yld i H x H'->g x σ H' λσ2 H2=>tb {D with nx:=N,ct:=N,bk:=D.nx} σ2 H2):=by
 refine⟨λi m σ H=>m=n - i/\i<=n/\Pv i σ H,⟨n,by simp,Zyl _,h0⟩,?_⟩;rintro i m σ H ⟨rfl,hi,p⟩;have q:=hok i σ H hi p;by_cases hlt:i<n
 ·refine .inr ⟨G.go i H hlt q,Pv (i+1),λσ' H' p'=>⟨n - (i+1),by lia,rfl,hlt,p'⟩,λx H' y=>?_⟩;let⟨e,y'⟩:=G.yld i H x H' hlt q y;subst e;exact hs i x σ _ hlt y' p
 ·have e:i=n:=by lia
  subst e;exact .inl ⟨G.stop H q,hd σ H p⟩
theorem Ul{ok:Hp->Prop}{σ0:St}{Q:VK}(G:S3 J n yl ok)(hn:n<=sizeLine)(Pv:Nat->List V->Hp->Prop)(h0:Pv 0 [] H)(hok:∀i acc H,i<=n->Pv i acc H->ok H)
  (hlen:∀i acc H,Pv i acc H->acc.length<=i)
  (hs:∀i x acc H,i<n->yl i x->Pv i acc H->g x σ0 H λσ2 H2=>tt σ2 H2 λb H3=>if b=true then te σ2 H3 λy H4=>Pv (i+1) (acc++[y]) H4 else Pv (i+1) acc H3)
  (hd:∀acc H,Pv n acc H->∀p,H p=none->Q (.ref p) (upd H p (.lst acc))) :
  ∃W:Nat->Nat->List V->Hp->Prop,(∃m,W 0 m [] H)/\∀i m acc H,W i m acc H->acc.length<=sizeLine /\
   ((J.stop i H/\∀p,H p=none->Q (.ref p) (upd H p (.lst acc))) \/
    (J.go i H/\acc.length<sizeLine/\∃N:List V->Hp->Prop,(∀acc' H',N acc' H'->∃m',m'<m/\W (i+1) m' acc' H')/\∀x H',J.yld i H x H'->g x σ0 H' λσ2 H2=>tt σ2 H2 λb H3=>if b=true then te σ2 H3 λy H4=>N (acc++[y]) H4 else N acc H3)):=by
 refine⟨λi m acc H=>m=n - i/\i<=n/\Pv i acc H,⟨n,by simp,Zyl _,h0⟩,?_⟩;rintro i m acc H ⟨rfl,hi,p⟩;have q:=hok i acc H hi p;have hl:=hlen i acc H p;refine⟨by lia,?_⟩;by_cases hlt:i<n
 ·refine .inr ⟨G.go i H hlt q,by lia,Pv (i+1),λacc' H' p'=>⟨n - (i+1),by lia,rfl,hlt,p'⟩,λx H' y=>?_⟩;let⟨e,y'⟩:=G.yld i H x H' hlt q y;subst e;exact hs i x acc _ hlt y' p
 ·have e:i=n:=by lia
  subst e;exact .inl ⟨G.stop H q,hd acc H p⟩
section
variable {a b c o:Expr}{tb tc to:TE}{p:Pos}
theorem Jg:OpR X (binaryOp .FloorDiv) (rI (λ_ j=>0<j/\j<10^200) λi j=>.int (i / j)):=opI λi j _ _ _ _ _ hc q=>by
 have h:j.natAbs.log2<9000:=by
  have h1:j.natAbs≠0:=by lia
  rw[Nat.log2_lt h1];have h2:j.natAbs<10^200:=by have:=hc.2;lia
  exact Zzb h2 (by decide +kernel)
 refine floordiv_int (by lia) ?_ (.inl (PyProof.noPylong_of_log2 h));rw[Int.fdiv_eq_ediv_of_nonneg i (by lia)];exact q
def FM:R2:=λx y H Q=>∃a b ys,x=.ref a/\y=.ref b/\H a=some (.tup [])/\H b=some (.tup ys)/\Q (.ref b) H
theorem xa:OpR X (binaryOp .Add) FM:=by
 intro pins s σ H x y v u Q I rx ry h;let⟨a,b,ys,rfl,rfl,ha,hb,q⟩:=h;cases rx;cases ry;let⟨its,r1,p1,_⟩:=I.tuple (SqT.of ha);let⟨its2,r2,p2,_⟩:=I.tuple (SqT.of hb);cases r1;let⟨⟨cls,dd,data,sl⟩,ho,hc,n,hd⟩:=id p1;let⟨⟨cls2,dd2,data2,sl2⟩,ho2,hc2,n2,hd2⟩:=id p2;simp only at hc hd hc2 hd2;subst hc hd hc2 hd2;exact concat_meets ⟨_,ho,rfl⟩ ⟨_,ho2,rfl⟩ noFill_tuple_add seq_tuple_add Zvk Zvo (Zvx _ _)
   (tuple_addW0 a b _ _ n n2 dd dd2 sl sl2 (by simp)) ⟨ho,ho2,.ref b,H,I,rfl,q⟩
def FH:R2:=λx y H Q=>∃a b xs ys,x=.ref a/\y=.ref b/\H a=some (.tup xs)/\H b=some (.tup ys)/\xs.length+ys.length<=sizeLine /\
 ∀p H',H' p=some (.tup (xs++ys))->AB H H'->(∀q,q≠p->H' q=H q)->Q (.ref p) H'
theorem Xw:OpR X (binaryOp .Add) FH:=by
 intro pins s σ H x y v u Q I rx ry h;let⟨a,b,xs,ys,rfl,rfl,ha,hb,hz,q⟩:=h;by_cases hx:xs=[]
 ·subst hx;exact xa pins s σ H _ _ v u Q I rx ry ⟨a,b,ys,rfl,rfl,ha,hb,q b H (by simpa using hb) (AB.refl H) λ_ _=>rfl⟩
 ·refine wz pins s σ H _ _ v u Q I rx ry ⟨a,b,xs,ys,rfl,rfl,SqT.of ha,SqT.of hb,hx,hz,λe=>?_,λ_ p hp=>?_⟩
  ·subst e;exact q a H (by simpa using ha) (AB.refl H) λ_ _=>rfl
  ·exact q p _ AA (λc o hc=>by rw[A6 (A8 hc hp)];exact hc) λ_ hq=>A6 hq
def Tc(H:Hp)(x y v:V):Prop :=
 (∃p xs i,x=.ref p/\y=.int i/\(H p=some (.lst xs)\/H p=some (.tup xs))/\atI xs i=some v) \/
 (∃z i c,x=.str z/\y=.int i/\z.length<=sizeLine/\atI z.cps.toList i=some c/\v=.str ⟨#[c]⟩) \/
 (∃p kvs k,x=.ref p/\y=kV k/\Rd H p (.dK kvs)/\C1 kvs k=some v)
def EN:R2:=λx y H Q=>∃v,Tc H x y v/\Q v H
theorem ye(hu:X.A.units+1<cLine):IxR X (λx y H Q=>∃a v,x=.ref a/\cu H a y (some v)/\Q v H):=by
 intro value slice pins s σ H x y v u Q I rx ry h hs;let⟨a,z,rfl,g,q⟩:=h;cases rx;exact tail_any (Yy I g) PySem.F.slot_dict_getitem.lookup (Uj hu I g ry λw' s3 I3 rw'=>⟨z,H,I3,rw',q⟩) hs
theorem yd(hu:X.A.units+1<cLine):IxR X EN:=by
 intro value slice pins s σ H x y v u Q I rx ry h hs;let⟨z,h,q⟩:=h;rcases h with ⟨p,xs,i,rfl,rfl,h | h,he⟩ | ⟨z',i,c,rfl,rfl,hz,he,rfl⟩ | ⟨p,kvs,k,rfl,rfl,h,he⟩
 ·exact W5 value slice pins s σ H _ _ v u Q I rx ry ⟨p,xs,i,z,rfl,rfl,SqL.of h,he,q⟩ hs
 ·exact A20 value slice pins s σ H _ _ v u Q I rx ry ⟨p,xs,i,z,rfl,rfl,SqT.of h,he,q⟩ hs
 ·exact A22 value slice pins s σ H _ _ v u Q I rx ry ⟨z',i,c,rfl,rfl,hz,he,q⟩ hs
 ·refine ye hu value slice pins s σ H _ _ v u Q I rx ry ⟨p,z,rfl,?_,q⟩ hs;have g:cu H p (kV k) (C1 kvs k):=.inl ⟨kvs,k,h,rfl,rfl⟩;rw[he] at g;exact g
theorem wo(hu:X.A.units+1<cLine)(ha:PE X a ta)(hb:PE X b tb)(hs:Pn b):PE X (.Subscript a b pos) (tOp EN ta tb):=ef (yd hu) ha hb hs
theorem Ag{p:Addr}(h:H p=some (.tup xs))(e:xs[j]?=some v):Tc H (.ref p) (.int j) v:=.inl ⟨p,xs,j,rfl,rfl,.inr h,K4 e⟩
theorem An{p:Addr}(h:H p=some (.lst xs))(e:xs[j]?=some v):Tc H (.ref p) (.int j) v:=.inl ⟨p,xs,j,rfl,rfl,.inl h,K4 e⟩
theorem rg{p:Addr}{i:Int}(h:H p=some (.lst xs)\/H p=some (.tup xs))(h0:0<=i)(e:xs[i.toNat]?=some v):Tc H (.ref p) (.int i) v:=by
 refine .inl ⟨p,xs,i,rfl,rfl,h,?_⟩;have q:=K4 e;rw[Int.toNat_of_nonneg h0] at q;exact q
theorem rf{z:Str}{i:Int}{c:Nat}(hz:z.length<=sizeLine)(h0:0<=i)(e:z.cps.toList[i.toNat]?=some c):Tc H (.str z) (.int i) (.str ⟨#[c]⟩):=by
 refine .inr (.inl ⟨z,i,c,rfl,rfl,hz,?_,rfl⟩);have q:=K4 e;rw[Int.toNat_of_nonneg h0] at q;exact q
theorem Hc{p:Addr}{k:Str}(h:Rd H p (.dK kvs))(e:C1 kvs (Zyd k)=some v):Tc H (.ref p) (.str k) v:=.inr (.inr ⟨p,kvs,Zyd k,rfl,rfl,h,e⟩)
def lenA:List V->Hp->VK->Prop:=λxs H Q=>(∃p ys,xs=[.ref p]/\(H p=some (.lst ys)\/H p=some (.tup ys))/\Q (.int ys.length) H)\/(∃z,xs=[.str z]/\z.length<=sizeLine/\Q (.int z.length) H)\/(∃p kvs,xs=[.ref p]/\H p=some (.dK kvs)/\Q (.int kvs.length) H)
theorem BL:AI X (.builtin "len") lenA:=by
 intro pins s σ H xs us Q I r h;rcases h with ⟨p,ys,rfl,h,q⟩ | ⟨z,rfl,hz,q⟩ | ⟨p,kvs,rfl,h,q⟩
 ·exact Ih pins s σ H _ us Q I r ⟨p,ys,rfl,h.imp SqL.of SqT.of,q⟩
 ·exact Wq pins s σ H _ us Q I r ⟨z,rfl,hz,q⟩
 ·exact jv pins s σ H _ us Q I r ⟨p,kvs,rfl,h,q⟩
def InA(H:Hp)(x y:V)(b:Bool):Prop :=
 (∃p xs,y=.ref p/\(H p=some (.lst xs)\/H p=some (.tup xs))/\Gf x=true/\xs.all Gf=true/\b=inV x xs) \/
 (∃i j,x=.str i/\y=.str j/\b=!(Zvp j i 0 j.length 1).isEmpty) \/
 (∃p kvs k,y=.ref p/\x=kV k/\Rd H p (.dK kvs)/\b=(C1 kvs k).isSome)
theorem Kt(hu:X.A.units+1<cLine):OpR X (compareOp .In) (λx y H Q=>∃b,InA H x y b/\Q (.bl b) H):=by
 intro pins s σ H x y v u Q I rx ry h;let⟨b,h,q⟩:=h;rcases h with ⟨p,xs,rfl,hp,fx,fxs,rfl⟩ | ⟨i,j,rfl,rfl,rfl⟩ | ⟨p,kvs,k,rfl,rfl,hp,rfl⟩
 ·exact ij pins s σ H _ _ v u Q I rx ry ⟨p,xs,rfl,hp.imp SqL.of SqT.of,fx,fxs,q⟩
 ·exact ii pins s σ H _ _ v u Q I rx ry ⟨i,j,rfl,rfl,q⟩
 ·cases ry;exact d_in hu I (.inl ⟨kvs,k,hp,rfl,rfl⟩) rx λs' I'=>⟨.bl _,H,I',rfl,q⟩
theorem ig(hu:X.A.units+1<cLine):OpR X (compareOp .NotIn) (λx y H Q=>∃b,InA H x y b/\Q (.bl (!b)) H):=by
 intro pins s σ H x y v u Q I rx ry h;let⟨b,h,q⟩:=h;rcases h with ⟨p,xs,rfl,hp,fx,fxs,rfl⟩ | ⟨i,j,rfl,rfl,rfl⟩ | ⟨p,kvs,k,rfl,rfl,hp,rfl⟩
 ·exact Vg pins s σ H _ _ v u Q I rx ry ⟨p,xs,rfl,hp.imp SqL.of SqT.of,fx,fxs,q⟩
 ·exact Vf pins s σ H _ _ v u Q I rx ry ⟨i,j,rfl,rfl,q⟩
 ·cases ry;exact yz hu I (.inl ⟨kvs,k,hp,rfl,rfl⟩) rx λs' I'=>⟨.bl _,H,I',rfl,q⟩
def FN:V->V->V->Hp->(Hp->Prop)->Prop:=λo i v H Q=>ET o i v H Q\/(∃p kvs k,o=.ref p/\i=kV k/\H p=some (.dK kvs)/\kvs.length<sizeLine/\Q (upd H p (.dK (Dx kvs k v))))
theorem vz(hu:X.A.units+1<cLine):vc X FN:=by
 intro pins s σ H o i v ov iv u Q I ro ri rv h;rcases h with h | ⟨p,kvs,k,rfl,rfl,hp,hl,q⟩
 ·exact G7 pins s σ H o i v ov iv u Q I ro ri rv h
 ·cases ro;exact jl hu I (EM.k hp hl) ri rv λs' I'=>⟨_,I',q⟩
theorem A0x{x:V}(h:Ps H x=some T)(hT:T = "list" \/ T = "dict" \/ T = "str"):tyV K T x H:=by
 cases x with
 |str z=>cases h;rfl
 |ref a =>
  unfold Ps at h;simp only at h;cases e:H a with
  |none=>rw[e] at h;cases h
  |some o =>
   rw[e] at h;cases o with
   |lst xs=>cases h;exact .inl ⟨rfl,xs,SqL.of e⟩
   |tup xs=>cases h;exact absurd hT (by decide)
   |dK kvs=>cases h;exact .inr (.inr (.inl ⟨rfl,.inl ⟨kvs,e⟩⟩))
   |_=>cases h
 |int i=>cases h;exact absurd hT (by decide)
 |bl i=>cases h;exact absurd hT (by decide)
 |non=>cases h;exact absurd hT (by decide)
 |_=>cases h
def tBA(T:String)(r:V->List V->Hp->VK->Prop)(to:TE)(t:TA):TE:=λσ H Q=>to σ H λx H1=>Ps H1 x=some T/\t σ H1 λxs H2=>r x xs H2 Q
variable {name:Str}{id:String}{r:V->List V->Hp->VK->Prop}
theorem A3h(pa:PlainAttrs T)(slot:Slot T name id)(hty:typeOf (.builtin id)=pure (.type "method_descriptor"))(hm:MtR X id r)(ho:PE X o to)(ha:PA X (e::es) t)(hT:T = "list" \/ T = "dict" \/ T = "str" := by decide)
  (hbase:attributeBase o name X.env (eval o X.env)=eval o X.env:=by rfl)
  (hfew:((backTo cpos (starEach (e::es) X.env)).all (λx=>!x.1)&&(backToKw cpos (keywordEach [] X.env)).all (λx=>x.1.isSome)
   && decide ((e::es).length+([]:List Keyword).length+(if ([]:List Keyword).isEmpty then 0 else 1)<30))=true:=by rfl)
  (hline:(apos.endLine == cpos.line)=true:=by rfl) (hs:starEach (e::es) X.env=(false,eval e X.env)::starEach es X.env:=by rfl) (hplain:(backTo cpos (starEach es X.env)).any (·.1)=false:=by rfl) :
  PE X (.Call (.Attribute o name apos) (e::es) [] cpos) (tBA T r to t):=by
 intro pins s σ H Q I h;refine wpAny_Call_method_late hbase hfew hline rfl (thn (ho pins s σ H _ I h) λv s1 z0=>?_);let⟨x,H1,I1,r1,ty,q1⟩:=z0;let⟨h1,h2⟩:=A0y I1 r1 (A0x ty hT);refine⟨T,id,pa,slot,hty,h1,h2,?_⟩;have hA:=ha cpos pins s1 σ H1 _ I1 q1;rw[hs] at hA ⊢;refine Zvi (by show (false||(backTo cpos (starEach es X.env)).any (·.1))=false;rw[hplain]<;>rfl) (Zv7 ?_);exact thn hA λus s2 ⟨vs,H2,I2,r2,q2⟩=>hm pins s2 σ H2 x vs v us Q I2 r1 r2 q2
end
def Has(P:Program)(w:World)(K:Zzy)(mg:Str->Option Value)(base:Heap)(x:Str)(k:Nat)(ps:List Str)(sp:Sp):Prop :=
 ∃f fd,mg x=some (.ref f)/\Zxj K (.ref f)=true/\BF K fd ps []/\Aq P w K mg base CX0 k f fd ps sp
theorem oj{k:Nat}{p:Pos}(h:Has X.prog X.w X.K X.mg X.base x k ps sp)(hr:AM k X.A)(hg:Gl X x)(ha:PA X (e::es) t)
  (hdb:(x == ("__debug__" : Str))=false:=by decide) (he:starEach (e::es) X.env=(false,eval e X.env)::starEach es X.env:=by rfl) (hpl:(backTo pos (starEach es X.env)).any (·.1)=false:=by rfl) :
  PE X (.Call (.Name x p) (e::es) [] pos) (db sp [] E0 t):=by
 let⟨f,fd,hm,hk,hb,F⟩:=h;exact wq F hr hg hm hk hb .nil A0d ha hdb he hpl
end L2
namespace HT
open PySem PyProof.Rows
theorem K6{t sl:Addr}{vl vu:Value}(ht:IsTup s.heap t items)(hs:s.heap.IsSliceOf sl vl vu .none)(pl:IsPart vl lo)(pu:IsPart vu hi)
  (hw:sIx items.size 0 lo=0/\sIx items.size items.size hi=items.size) (h:Q (.ref t) s):wpAny (model prog w) A (getItem (.ref t) (.ref sl)) Q E s:=by
 let⟨os,hos,hcs,hds⟩:=id hs;have hTs:s.TypeIs (.ref sl) "slice" := ⟨os,hos,hcs⟩;unfold getItem;try with_reducible refine wpAny_holding ?_
 first | refine GF (GG ?_) | skip
 refine GF (wpAny_sequenceKey ht.typeIs (by decide) ?_);refine GF (wpAny_callSpecial?_slot (name:=Str.ofString "__getitem__") ht.typeIs Zya
  (wpAny_call_entry Zya ht.typeIs entry_tuple_getitem ?_ (args_tuple_getitem _ _)))
 show wpAny _ _ (Builtin.Tuple.tupleItemsOf (.ref t) >>= _) _ _ s;refine GF (tupleItemsOf_ ht ?_);refine GF (wpAny_typeOf hTs ?_);rw[GE (by decide)];refine GF (Hk hs pl pu ?_);have hyes:((((sIx items.size 0 lo:Nat):Int) == 0&&(1:Int) == 1&&(sIx items.size items.size hi - sIx items.size 0 lo) == items.size)=true):=by
  rw[hw.1,hw.2];simp
 show wpAny _ _ (if (((sIx items.size 0 lo:Nat):Int) == 0&&(1:Int) == 1&&(sIx items.size items.size hi - sIx items.size 0 lo) == items.size)=true then _ else _) _ _ s;rw[GE hyes];refine GF (m:=Builtin.Tuple.tupleIsExact _) ?_;unfold Builtin.Tuple.tupleIsExact;refine GF (wpAny_typeOf ht.typeIs (GG ?_));rw[GE (by decide)];refine GF (wpAny_rule ?_);first
  |exact GG ⟨_,rfl,GG h⟩
  |exact GF (GG (GG ⟨_,rfl,GG h⟩))
end HT
namespace L2
open PySem PySem.Spec PyProof.Rows
section
variable {a b c o:Expr}{tb tc to:TE}{p:Pos}
theorem vw:SlR X (λx lo hi H Q=>∃a xs,x=.ref a/\H a=some (.tup xs)/\(HT.sIx xs.length 0 lo=0/\HT.sIx xs.length xs.length hi=xs.length)/\Q (.ref a) H):=by
 intro pins s σ H x v vl vu lo hi sl Q I rx hs pl pu h;let⟨a,xs,rfl,hx,hw,q⟩:=h;cases rx;let⟨its,r,ht,hz⟩:=I.tuple (SqT.of hx);have hlen:its.toArray.size=xs.length:=by rw[Zzr];exact r.length.symm
 refine⟨"tuple",_,Zya.lookup,ht.typeIs,?_⟩;exact HT.K6 ht hs pl pu (by rw[hlen];exact hw) ⟨.ref a,H,I,rfl,q⟩
theorem bp(h:HT.sIx xs.length 0 lo=0/\HT.sIx xs.length xs.length hi=xs.length):Fk xs lo hi=xs:=by
 unfold Fk;rw[h.1,h.2];simp
def T6(x:Str)(lo hi:Option Int):Str:=⟨((x.cps.toList.drop (HT.sIx x.length 0 lo)).take (HT.sIx x.length x.length hi - HT.sIx x.length 0 lo)).toArray⟩
theorem V3:SlR X (λx lo hi H Q=>∃a xs,x=.ref a/\H a=some (.tup xs)/\∀p H',H' p=some (.tup (Fk xs lo hi))->AB H H'->(∀q,q≠p->H' q=H q)->Q (.ref p) H'):=by
 intro pins s σ H x v vl vu lo hi sl Q I rx hs pl pu h;let⟨a,xs,rfl,hx,q⟩:=h;by_cases hw:HT.sIx xs.length 0 lo=0/\HT.sIx xs.length xs.length hi=xs.length
 ·exact vw pins s σ H _ v vl vu lo hi sl Q I rx hs pl pu ⟨a,xs,rfl,hx,hw,q a H (by rw[bp hw];exact hx) (AB.refl H) λ_ _=>rfl⟩
 ·exact A1a pins s σ H _ v vl vu lo hi sl Q I rx hs pl pu ⟨a,xs,rfl,SqT.of hx,hw,λp hp=>q p _ AA (λc o hc=>by rw[A6 (A8 hc hp)];exact hc) λ_ hq=>A6 hq⟩
theorem Ez:SlR X (λx lo hi H Q=>∃a xs,x=.ref a/\H a=some (.lst xs)/\∀p,H p=none->Q (.ref p) (upd H p (.lst (Fk xs lo hi)))):=by
 intro pins s σ H x v vl vu lo hi sl Q I rx hs pl pu h;let⟨a,xs,rfl,hx,q⟩:=h;exact dh pins s σ H _ v vl vu lo hi sl Q I rx hs pl pu ⟨a,xs,rfl,SqL.of hx,q⟩
theorem Af{i:Int}(hg:Gl X x)(hm:∃t,X.mg x=some (.int i t))(hd:(x == ("__debug__" : Str))=false:=by decide):PE X (.Name x pos) (tC (.int i)):=by
 let⟨t,hm⟩:=hm;exact Du hg hm ⟨t,rfl⟩ hd
theorem Jf{z:Str}(hg:Gl X x)(hm:∃t,X.mg x=some (.str z t))(hd:(x == ("__debug__" : Str))=false:=by decide):PE X (.Name x pos) (tC (.str z)):=by
 let⟨t,hm⟩:=hm;exact Du hg hm ⟨t,rfl⟩ hd
theorem Bd(hu:X.A.units+1<cLine):OpR X (compareOp .Eq) rEq:=A3k
theorem Hy(hu:X.A.units+1<cLine):OpR X (compareOp .NotEq) rNe:=A3i
theorem a8(hu:X.A.units+1<cLine):OpR X (compareOp .Lt) (rI0 λi j=>.bl (decide (i<j))):=A3j
def rIsA:R2:=λx y H Q=>(∃i j,x=.bl i/\y=.bl j/\Q (.bl (i == j)) H)\/(y=.non/\Q (.bl (decide (x=.non))) H)
theorem Qr:OpR X (compareOp .Is) rIsA:=FF.or A1q
def EZ:R2:=λx y H Q=>(∃i j,x=.bl i/\y=.bl j/\Q (.bl (i != j)) H)\/(y=.non/\Q (.bl (!decide (x=.non))) H)
theorem Jx:OpR X (compareOp .IsNot) EZ:=EO.or wy
theorem js(hc:X.calm=true):AI X (.builtin "min") (λxs H Q=>∃i j,xs=[.int i,.int j]/\Q (.int (if j<i then j else i)) H):=jt hc
def FI:List V->Hp->VK->Prop:=λxs H Q=>∃p ys,xs=[.ref p]/\((H p=some (.lst ys)/\∀l,H l=none->Q (.ref l) (upd H l (.tup ys)))\/(H p=some (.tup ys)/\Q (.ref p) H))
theorem Cg:AI X (.type "tuple") FI:=by
 intro pins s σ H xs us Q I r h;let⟨p,ys,rfl,h⟩:=h;exact T8 pins s σ H _ us Q I r ⟨p,ys,rfl,h.imp (λh=>⟨SqL.of h.1,h.2⟩) λh=>⟨SqT.of h.1,h.2⟩⟩
def FO:List V->Hp->VK->Prop:=λxs H Q=>∃p ys,xs=[.ref p]/\(H p=some (.lst ys)\/H p=some (.tup ys))/\∀l,H l=none->Q (.ref l) (upd H l (.lst ys))
theorem bx:AI X (.type "list") FO:=by
 intro pins s σ H xs us Q I r h;let⟨p,ys,rfl,h,q⟩:=h;exact Wp pins s σ H _ us Q I r ⟨p,ys,rfl,h.imp SqL.of SqT.of,q⟩
noncomputable def cpB(N:List Str)(osc sc:Scope)(own:List Str)(cap:List Nat):Bool :=
 decide (sc.kind=.function)&&sc.names.all (λx=>x.2 != .local||decide (sc.names.lookup x.1=some .local))&&sc.names.all (λy=>y.2 != .cell) &&
 sc.names.all (λy=>y.2 != .free||decide (osc.names.lookup y.1=some .cell)||decide (osc.names.lookup y.1=some .free))&&cap.all λj=>decide (j<N.length)&&decide (sc.names.lookup (N.getD j "")=some .free)
theorem Cf{osc:Scope}(h:cpB N osc sc own cap=true):Gs N osc sc own cap:=by
 unfold cpB at h;rw[Zz1,Zz1,Zz1,Zz1] at h;let⟨⟨⟨⟨h1,h2⟩,h3⟩,h4⟩,h5⟩:=h;refine⟨GA h1,λx hx hl=>?_,λy hy hc=>?_,λy hy hf=>?_,λj hj=>?_⟩
 ·have q:=Zyv.mp h2 x hx
  rw[hl] at q;exact GA (by simpa using q)
 ·have q:=Zyv.mp h3 y hy
  rw[hc] at q;exact absurd q (by decide)
 ·have q:=Zyv.mp h4 y hy
  rw[hf] at q;rw[Bool.or_eq_true,Bool.or_eq_true] at q;rcases q with (q | q) | q
  ·exact absurd q (by decide)
  ·exact .inl (GA q)
  ·exact .inr (GA q)
 ·have q:=Zyv.mp h5 j hj
  rw[Zz1] at q;exact⟨GA q.1,GA q.2⟩
end
theorem m8(lo hi:Option Int)(n:Nat):Zyg lo hi 1 n=sliceRange ((HT.sIx n 0 lo:Nat):Int) ((HT.sIx n n hi:Nat):Int) 1:=by
 unfold Zyg;have e1:(match lo with | none=>(if (1:Int) > 0 then (0:Int) else (n:Int) - 1) | some i=>(if (1:Int) > 0 then max 0 (min (if i<0 then i+(n:Int) else i) (n:Int)) else max (-1) (min (if i<0 then i+(n:Int) else i) ((n:Int) - 1))))=((HT.sIx n 0 lo:Nat):Int):=by
  cases lo with
  |none=>rfl
  |some i =>
   simp only[HT.sIx,show (1:Int) > 0 by decide,if_true];split<;>lia
 have e2:(match hi with | none=>(if (1:Int) > 0 then (n:Int) else -1) | some i=>(if (1:Int) > 0 then max 0 (min (if i<0 then i+(n:Int) else i) (n:Int)) else max (-1) (min (if i<0 then i+(n:Int) else i) ((n:Int) - 1))))=((HT.sIx n n hi:Nat):Int):=by
  cases hi with
  |none=>rfl
  |some i =>
   simp only[HT.sIx,show (1:Int) > 0 by decide,if_true];split<;>lia
 rw[<- e1,<- e2];rfl
theorem A17(x:Str)(lo hi:Option Int):((Zyg lo hi 1 x.length).filterMap (x.cps[·]?)).toArray=(T6 x lo hi).cps:=by
 rw[m8];unfold T6;simp only[sliceRange_one,pick_run]
theorem Zp(lo hi:Option Int)(n:Nat):(Zyg lo hi 1 n).length=HT.sIx n n hi - HT.sIx n 0 lo:=by
 rw[m8];simp[sliceRange_one]
theorem vx:SlR X (λx lo hi H Q=>∃z,x=.str z/\z.length<=sizeLine/\Q (.str (T6 z lo hi)) H):=by
 intro pins s σ H x v vl vu lo hi sl Q I rx hs pl pu h;let⟨z,rfl,hz,q⟩:=h;let⟨t,rfl⟩:=rx;refine⟨"str",_,F.slot_str_getitem.lookup,typeIs_str s z t,?_⟩;obtain⟨l,hl,el⟩:∃l:Option (Int×Tok),vl=partValue l/\l.map (·.1)=lo:=by
  cases pl with
  |none=>exact⟨none,rfl,rfl⟩
  |int i t=>exact⟨some (i,t),rfl,rfl⟩
 obtain⟨u,hu,eu⟩:∃u:Option (Int×Tok),vu=partValue u/\u.map (·.1)=hi:=by
  cases pu with
  |none=>exact⟨none,rfl,rfl⟩
  |int i t=>exact⟨some (i,t),rfl,rfl⟩
 subst hl hu;refine wpAny_getItem_str_slice (l:=l) (u:=u) (st:=none) hs rfl ?_;have hlen:(T6 z lo hi).length<=z.length:=by
  unfold T6 Str.length;simp only[Zzr,Zyy,Zy4];have:z.cps.toList.length=z.cps.size:=by simp
  lia
 unfold sliceMade slicePicked;rw[el,eu];show Made.post (if ((1:Int) == 1&&(Zyg lo hi 1 z.length).length == z.length)=true then _ else _) _ _;by_cases hw:((1:Int) == 1&&(Zyg lo hi 1 z.length).length == z.length)=true
 ·rw[GE hw];have hw:(Zyg lo hi 1 z.length).length=z.length:=by simpa using hw
  rw[Zp] at hw;have h1:=HT.mx z.length z.length (Zzu _) hi;have e:T6 z lo hi=z:=by
   unfold T6;by_cases h0:z.length=0
   ·have h0':z.cps=#[]:=by
     have:z.cps.size=0:=h0;exact Array.eq_empty_of_size_eq_zero this
    let⟨c⟩:=z;simp only at h0' ⊢;subst h0';simp
   ·have h2:HT.sIx z.length 0 lo=0:=by lia
    have h3:HT.sIx z.length z.length hi=z.length:=by lia
    rw[h2,h3];let⟨c⟩:=z;simp only[Str.length,List.drop_zero,Nat.sub_zero];rw[Zxl (by simp)]
  exact⟨.str z,H,I,⟨t,rfl⟩,by rw[e] at q;exact q⟩
 ·rw[GD hw];show Made.post (Made.str ⟨((Zyg lo hi 1 z.length).filterMap (z.cps[·]?)).toArray⟩) _ _;rw[A17];exact⟨Zzp hlen hz,.str (T6 z lo hi),H,I.tok _,⟨_,rfl⟩,q⟩
theorem AI.weak{f:Value}{r r':List V->Hp->VK->Prop}(h:AI X f r)(w:∀xs H Q,r' xs H Q->r xs H Q):AI X f r':=λpins s σ H xs us Q I rv q=>h pins s σ H xs us Q I rv (w _ _ _ q)
def lenQ:List V->Hp->VK->Prop:=λxs H Q=>∃p ys,xs=[.ref p]/\(H p=some (.lst ys)\/H p=some (.tup ys))/\Q (.int ys.length) H
theorem Ch:AI X (.builtin "len") lenQ:=BL.weak λ_ _ _ h=>.inl h
def DZ:List V->Hp->VK->Prop:=λxs H Q=>∃z,xs=[.str z]/\z.length<=sizeLine/\Q (.int z.length) H
theorem bz:AI X (.builtin "len") DZ:=BL.weak λ_ _ _ h=>.inr (.inl h)
def FP:V->V->V->Hp->(Hp->Prop)->Prop:=λo i v H Q=>∃p kvs k,o=.ref p/\i=kV k/\H p=some (.dK kvs)/\kvs.length<sizeLine/\Q (upd H p (.dK (Dx kvs k v)))
theorem Dp(hu:X.A.units+1<cLine):vc X FP:=λpins s σ H o i v ov iv u Q I ro ri rv h=>vz hu pins s σ H o i v ov iv u Q I ro ri rv (.inr h)
theorem Ib:PIp X .Add (rI0 λi j=>.int (i+j)):=λpins s σ H x y v u Q I rx ry q=>yj pins s σ H x y v u Q I rx ry q
def FQ:R2:=λx y H Q=>∃i j,x=.str i/\y=.str j/\i.length+j.length<=sizeLine/\Q (.str (i++j)) H
theorem yh:PIp X .Add FQ:=λpins s σ H x y v u Q I rx ry q=>Yr pins s σ H x y v u Q I rx ry q
def A3y(te:TE):TI:=λσ H R=>te σ H λx H1=>∃a xs,x=.ref a/\H1 a=some (.lst xs)/\R (ItL a xs) H1
def A3w(te:TE):TI:=λσ H R=>te σ H λx H1=>∃a xs,x=.ref a/\H1 a=some (.tup xs)/\R (ItT a xs) H1
theorem Dl{l:Expr}(hl:PE X l te):PI X tg l (A3y te):=by
 intro pins s σ H R I h;refine thn (hl pins s σ H _ I h) λv s1 z0=>?_;let⟨x,H1,I1,r1,q1⟩:=z0;let⟨a,xs,e,ha,q⟩:=q1;subst e;cases r1;let⟨its,rv,hli,hlt⟩:=C6 I1 ha;refine wpAny_pyIter_list hli ?_;refine⟨s1.heap.objs.size,[s1.heap.objs.size],_,_,H1,rfl,I1.kept (t':=s1.toks) λb o e=>Zzv _ e,Tk a _ xs,⟨_,Zzj _ rfl,rfl,rfl⟩,λb hb=>?_,q⟩;have e:b=s1.heap.objs.size:=by simpa using hb
 subst e;exact I1.fpOk (Zzu _) (I1.hok.fresh (Zzu _))
theorem Er{l:Expr}(hl:PE X l te):PI X tg l (A3w te):=by
 intro pins s σ H R I h;refine thn (hl pins s σ H _ I h) λv s1 z0=>?_;let⟨x,H1,I1,r1,q1⟩:=z0;let⟨a,xs,e,ha,q⟩:=q1;subst e;cases r1;let⟨hz,its,rv,p⟩:=I1.hok a _ ha;refine wpAny_pyIter_tuple (show s1.heap.IsTuple a its.toArray from p) ?_;refine⟨s1.heap.objs.size,[s1.heap.objs.size],_,_,H1,rfl,I1.kept (t':=s1.toks) λb o e=>Zzv _ e,Tj a _ xs,⟨_,Zzj _ rfl,rfl,rfl⟩,λb hb=>?_,q⟩;have e:b=s1.heap.objs.size:=by simpa using hb
 subst e;exact I1.fpOk (Zzu _) (I1.hok.fresh (Zzu _))
end L2
namespace NP
open PySem L2
theorem Aw:bootBuiltins "isinstance" = some (.builtin "isinstance"):=by decide +kernel
theorem He:bootBuiltins "all" = some (.builtin "all"):=by decide +kernel
theorem A2d:bootBuiltins "min" = some (.builtin "min"):=by decide +kernel
theorem Ws:bootBuiltins "max" = some (.builtin "max"):=by decide +kernel
theorem D8:bootBuiltins "len" = some (.builtin "len"):=by decide +kernel
theorem jx:bootBuiltins "sorted" = some (.builtin "sorted"):=by decide +kernel
theorem A2c:bootBuiltins "sum" = some (.builtin "sum"):=by decide +kernel
theorem Wv:bootBuiltins "int" = some (.type "int"):=by decide +kernel
theorem ze:bootBuiltins "bool" = some (.type "bool"):=by decide +kernel
theorem Ii:bootBuiltins "str" = some (.type "str"):=by decide +kernel
theorem Ds:bootBuiltins "tuple" = some (.type "tuple"):=by decide +kernel
theorem Wu:bootBuiltins "list" = some (.type "list"):=by decide +kernel
theorem Z5:bootBuiltins "reversed" = some (.type "reversed"):=by decide +kernel
theorem Ww:bootBuiltins "enumerate" = some (.type "enumerate"):=by decide +kernel
theorem A2b:bootBuiltins "zip" = some (.type "zip"):=by decide +kernel
def But(st:Addr)(H H':Hp):Prop:=∀b o,b≠st->H b=some o->H' b=some o
theorem But.refl(st:Addr)(H:Hp):But st H H:=λ_ _ _ h=>h
theorem But.trans{st:Addr}{H2:Hp}(a:But st H H1)(b:But st H1 H2):But st H H2:=λc o n h=>b c o n (a c o n h)
theorem Bc{st:Addr}(s:AB H H'):But st H H':=λb o _ h=>s b o h
theorem A7{o:HO}(hp:H p=none):AB H (upd H p o):=λb u h=>by rw[A6 (A8 h hp)];exact h
theorem Pk{st:Addr}{o:HO}(hp:H p=none):But st H (upd H p o):=Bc (A7 hp)
theorem DI{st:Addr}{o:HO}:But st H (upd H st o):=λb u n h=>by rw[A6 n];exact h
def AT(H:Hp)(st:Addr):Prop:=∃ns:List Int,ns≠[]/\H st=some (.lst (ns.map V.int))
theorem AT.same{st:Addr}(h:AT H st)(s:AB H H'):AT H' st:=by let⟨ns,n,e⟩:=h;exact⟨ns,n,s _ _ e⟩
inductive D where
 |non | bl (b:Bool) | int (i:Int) | str (x:Str) | tup (ds:List D) | lst | dct
mutual
def Rep(H:Hp):D->V->Prop
 |.non,v=>v=.non
 |.bl b,v=>v=.bl b
 |.int i,v=>v=.int i
 |.str x,v=>v=.str x/\x.length<=1000
 |.tup ds,v=>∃a xs,v=.ref a/\H a=some (.tup xs)/\ds.length<=1000/\CO H ds xs
 |.lst,v=>∃a xs,v=.ref a/\H a=some (.lst xs)
 |.dct,v=>∃a kvs,v=.ref a/\H a=some (.dK kvs)
def CO(H:Hp):List D->List V->Prop
 |[],xs=>xs=[]
 |d::ds,xs=>∃x r,xs=x::r/\Rep H d x/\CO H ds r
end
def A0u(H H':Hp):Prop:=(∀a xs,H a=some (.tup xs)->H' a=some (.tup xs))/\(∀a xs,H a=some (.lst xs)->∃ys,H' a=some (.lst ys))/\∀a kvs,H a=some (.dK kvs)->∃kvs',H' a=some (.dK kvs')
mutual
theorem Rep.keep(k:A0u H H'):∀(d:D) (v:V),Rep H d v->Rep H' d v
 |.non,v,h=>by rw[Rep] at h ⊢;exact h
 |.bl b,v,h=>by rw[Rep] at h ⊢;exact h
 |.int i,v,h=>by rw[Rep] at h ⊢;exact h
 |.str x,v,h=>by rw[Rep] at h ⊢;exact h
 |.tup ds,v,h=>by
  rw[Rep] at h ⊢;let⟨a,xs,e,h,z,r⟩:=h;exact⟨a,xs,e,k.1 a xs h,z,CO.keep k ds xs r⟩
 |.lst,v,h=>by
  rw[Rep] at h ⊢;let⟨a,xs,e,h⟩:=h;let⟨ys,h'⟩:=k.2.1 a xs h;exact⟨a,ys,e,h'⟩
 |.dct,v,h=>by
  rw[Rep] at h ⊢;let⟨a,kvs,e,h⟩:=h;let⟨ys,h'⟩:=k.2.2 a kvs h;exact⟨a,ys,e,h'⟩
theorem CO.keep(k:A0u H H'):∀(ds:List D) (xs:List V),CO H ds xs->CO H' ds xs
 |[],xs,h=>by rw[CO] at h ⊢;exact h
 |d::ds,xs,h=>by
  rw[CO] at h ⊢;let⟨x,r,e,h1,h2⟩:=h;exact⟨x,r,e,Rep.keep k d x h1,CO.keep k ds r h2⟩
end
def Ze(J:It)(own:List Str)(cap:List Nat)(g:TG)(tt:TT)(te:TE)(σ:St)(H1:Hp)(Q:VK):Prop:=∃W:Nat->Nat->List V->Hp->Prop,(∃m,W 0 m [] H1)/\∀i m acc H,W i m acc H->acc.length<=sizeLine /\
 ((J.stop i H/\∀p,H p=none->Q (.ref p) (upd H p (.lst acc))) \/
  (J.go i H/\acc.length<sizeLine/\∃N:List V->Hp->Prop,(∀acc' H',N acc' H'->∃m',m'<m/\W (i+1) m' acc' H')/\∀x H',J.yld i H x H'->g x (Gh own cap σ) H' λσ2 H2=>tt σ2 H2 λb H3=>if b=true then te σ2 H3 λy H4=>N (acc++[y]) H4 else N acc H3))
theorem m4(own:List Str)(cap:List Nat)(wi:TI)(g:TG)(tt:TT)(te:TE)(σ:St)(H:Hp)(Q:VK):da own cap wi g tt te σ H Q=wi σ H λJ H1=>Ze J own cap g tt te σ H1 Q:=rfl
def A2q(J:It)(g:TG)(tb:TS)(D:AX)(σ:St)(H1:Hp):Prop:=∃W:Nat->Nat->St->Hp->Prop,(∃m,W 0 m σ H1)/\∀i m σ H,W i m σ H ->
 (J.stop i H/\D.nx σ H)\/(J.go i H/\∃N:St->Hp->Prop,(∀σ' H',N σ' H'->∃m',m'<m/\W (i+1) m' σ' H')/\∀x H',J.yld i H x H'->g x σ H' λσ2 H2=>tb {D with nx:=N,ct:=N,bk:=D.nx} σ2 H2)
theorem vo(wi:TI)(g:TG)(tb:TS)(D:AX)(σ:St)(H:Hp):A34 wi g tb D σ H=wi σ H λJ H1=>A2q J g tb D σ H1:=rfl
theorem ym(te:TE)(σ:St)(H:Hp)(R:It->Hp->Prop):A40 te σ H R=te σ H λx H1=>(∃a xs,x=.ref a/\H1 a=some (.lst xs)/\R (ItL a xs) H1)\/(∃a xs,x=.ref a/\H1 a=some (.tup xs)/\R (ItT a xs) H1)\/(∃z,x=.str z/\R (Its z) H1):=rfl
theorem xu:("int" ∈ ["bool", "int", "str", "list", "tuple", "dict"])=True:=eq_true (by decide)
theorem qg:("bool" ∈ ["bool", "int", "str", "list", "tuple", "dict"])=True:=eq_true (by decide)
theorem xt:("str" ∈ ["bool", "int", "str", "list", "tuple", "dict"])=True:=eq_true (by decide)
theorem qe:("list" ∈ ["bool", "int", "str", "list", "tuple", "dict"])=True:=eq_true (by decide)
theorem j1:("tuple" ∈ ["bool", "int", "str", "list", "tuple", "dict"])=True:=eq_true (by decide)
theorem qf:("dict" ∈ ["bool", "int", "str", "list", "tuple", "dict"])=True:=eq_true (by decide)
theorem M0:C9 "NoneType" "bool" = false:=by decide
theorem Nc:C9 "NoneType" "int" = false:=by decide
theorem Nb:C9 "NoneType" "str" = false:=by decide
theorem Ly:C9 "NoneType" "list" = false:=by decide
theorem Ku:C9 "NoneType" "tuple" = false:=by decide
theorem Lz:C9 "NoneType" "dict" = false:=by decide
theorem T4:C9 "bool" "bool" = true:=by decide
theorem Wh:C9 "bool" "int" = true:=by decide
theorem Wg:C9 "bool" "str" = false:=by decide
theorem Sy:C9 "bool" "list" = false:=by decide
theorem Ri:C9 "bool" "tuple" = false:=by decide
theorem Sz:C9 "bool" "dict" = false:=by decide
theorem Wd:C9 "int" "bool" = false:=by decide
theorem Yq:C9 "int" "int" = true:=by decide
theorem Yp:C9 "int" "str" = false:=by decide
theorem Wb:C9 "int" "list" = false:=by decide
theorem Su:C9 "int" "tuple" = false:=by decide
theorem Wc:C9 "int" "dict" = false:=by decide
theorem W8:C9 "str" "bool" = false:=by decide
theorem Yo:C9 "str" "int" = false:=by decide
theorem Yn:C9 "str" "str" = true:=by decide
theorem W6:C9 "str" "list" = false:=by decide
theorem So:C9 "str" "tuple" = false:=by decide
theorem W7:C9 "str" "dict" = false:=by decide
theorem Ss:C9 "list" "bool" = false:=by decide
theorem Wa:C9 "list" "int" = false:=by decide
theorem W9:C9 "list" "str" = false:=by decide
theorem Sq:C9 "list" "list" = true:=by decide
theorem Rg:C9 "list" "tuple" = false:=by decide
theorem Sr:C9 "list" "dict" = false:=by decide
theorem Rf:C9 "tuple" "bool" = false:=by decide
theorem Sn:C9 "tuple" "int" = false:=by decide
theorem Sm:C9 "tuple" "str" = false:=by decide
theorem Rb:C9 "tuple" "list" = false:=by decide
theorem P1:C9 "tuple" "tuple" = true:=by decide
theorem Rc:C9 "tuple" "dict" = false:=by decide
theorem Sx:C9 "dict" "bool" = false:=by decide
theorem Wf:C9 "dict" "int" = false:=by decide
theorem We:C9 "dict" "str" = false:=by decide
theorem Sv:C9 "dict" "list" = false:=by decide
theorem Rh:C9 "dict" "tuple" = false:=by decide
theorem Sw:C9 "dict" "dict" = true:=by decide
theorem By{ok:Hp->Prop}{Q:VK}(G:S3 J n yl ok)(hn:n<=sizeLine)(hok:∀H',AB H H'->ok H')(ys:List V)(hl:ys.length=n)
  (hs:∀i x H',i<n->yl i x->AB H H'->∀(N:V->Hp->Prop) (M:Hp->Prop),(∀y H4,AB H H4->ys[i]?=some y->N y H4)->g x (Gh own cap σ) H' λσ2 H2=>tt σ2 H2 λb H3=>if b=true then te σ2 H3 N else M H3)
  (hd:∀H',AB H H'->∀p,H' p=none->Q (.ref p) (upd H' p (.lst ys))):Ze J own cap g tt te σ H Q:=by
 refine Ul G hn (λi acc H'=>AB H H'/\acc=ys.take i) ⟨AB.refl H,by simp⟩ (λi acc H' _ h=>hok H' h.1) (λi acc H' h=>by rw[h.2,Zyy];lia) (λi x acc H' hi hx h=>?_) (λacc H' h p hp=>?_)
 ·let⟨s',rfl⟩:=h;refine hs i x H' hi hx s' _ _ λy H4 s4 hy=>⟨s4,?_⟩;rw[Zz6,hy];rfl
 ·let⟨s',e⟩:=h;rw[e,Zxl (by lia)];exact hd H' s' p hp
theorem D7{ok:Hp->Prop}{tb:TS}{D:AX}(G:S3 J n yl ok)(Pv:Nat->St->Hp->Prop)(h0:Pv 0 σ H)(hok:∀i σ H,i<=n->Pv i σ H->ok H)
  (hs:∀i x σ H,i<n->yl i x->Pv i σ H->g x σ H λσ2 H2=>tb {D with nx:=Pv (i+1),ct:=Pv (i+1),bk:=D.nx} σ2 H2) (hd:∀σ H,Pv n σ H->D.nx σ H):A2q J g tb D σ H:=su G Pv h0 hok hs hd
theorem AT.upd{st l:Addr}{o:HO}(h:AT H st)(n:st≠l):AT (upd H l o) st:=by let⟨ns,hn,e⟩:=h;exact⟨ns,hn,by rw[A6 n];exact e⟩
theorem AT.ne{st l:Addr}(h:AT H st)(n:H l=none):st≠l:=by let⟨_,_,e⟩:=h;exact A8 e n
theorem AT.neT{st l:Addr}(h:AT H st)(n:H l=some (.tup xs)):l≠st:=by
 let⟨_,_,e⟩:=h;exact Yb n e (λz=>by cases z)
theorem But.upd{st l:Addr}{o:HO}(h:But st H H1)(hl:H l=none):But st H (L2.upd H1 l o):=λb u n e=>by rw[A6 (A8 e hl)];exact h b u n e
theorem But.new{st l:Addr}{o:HO}(h:But st H H1)(hl:H1 l=none):But st H (L2.upd H1 l o):=h.trans (Pk hl)
theorem But.none{st l:Addr}(h:But st H H1)(n:l≠st)(hl:H1 l=none):H l=none:=by
 cases e:H l with
 |none=>rfl
 |some o=>rw[h l o n e] at hl;cases hl
theorem Am(h:n<=1000):n<=sizeLine:=Zzp h (by decide)
end NP
namespace L2
open PySem PySem.Spec PyProof.Rows
noncomputable def Bw:List Expr->Bool
 |[]=>true
 |.Starred ..::_=>false
 |_::r=>Bw r
theorem Cr{env:Env}:∀{es:List Expr},Bw es=true->starEach es env=es.map λe=>(false,eval e env)
 |[],_=>rfl
 |e::r,h=>by
  cases e<;>first
   | (exact absurd h Zzi)
   | (rw[Zzk,<- Cr (env:=env) (es:=r) h];rfl)
theorem B6(h:Bw [e]=true):starEach (e::es) env=(false,eval e env)::starEach es env:=by
 cases e<;>first
  | (exact absurd h Zzi)
  |rfl
theorem B2(h:Bw (e::es)=true):Bw [e]=true/\Bw es=true:=by
 cases e<;>first
  | (exact absurd h Zzi)
  |exact⟨rfl,h⟩
theorem C7(h:Bw es=true):(backTo pos (starEach es env)).any (·.1)=false:=by
 rw[Cr h];unfold backTo;rw[Zyq,List.any_map];induction es with
 |nil=>rfl
 |cons e r ih =>
  rw[Zwl];exact ih (B2 h).2
theorem c6(h:Bw es=true):(backTo pos (starEach es env)).all (λx=>!x.1)=true:=by
 rw[Cr h];unfold backTo;rw[Zyq,Zvw];induction es with
 |nil=>rfl
 |cons e r ih =>
  rw[Zwm];exact ih (B2 h).2
section
variable {p:Pos}{o:Expr}{to:TE}{id:String}{r:List V->Hp->VK->Prop}{k:Nat}{name:Str}
theorem A2(ha:PE X e te)(hr:PA X es t)(hn:Bw [e]=true:=by rfl):PA X (e::es) (lu te t):=wx ha hr (B6 hn)
theorem A9(h:Has X.prog X.w X.K X.mg X.base x k ps sp)(hr:AM k X.A)(hg:Gl X x)(ha:PA X (e::es) t)(hn:Bw (e::es)=true:=by rfl)(hdb:(x == ("__debug__" : Str))=false:=by decide) :
  PE X (.Call (.Name x p) (e::es) [] pos) (db sp [] E0 t):=oj h hr hg ha hdb (B6 (B2 hn).1) (C7 (B2 hn).2)
theorem Ah(hc:AI X (.builtin id) r)(hg:Gl X x)(hm:X.mg x=none)(hv:bootBuiltins x=some (.builtin id))(ha:PA X (e::es) t)(hn:Bw (e::es)=true:=by rfl)(hnm:x ≠ "__name__" := by decide)(hdb:(x == ("__debug__" : Str))=false:=by decide) :
  PE X (.Call (.Name x p) (e::es) [] pos) (tCB r t):=om hc hg hm hv ha hnm hdb (B6 (B2 hn).1) (C7 (B2 hn).2)
theorem Bf(hc:AI X (.type T) r)(hg:Gl X x)(hm:X.mg x=none)(hv:bootBuiltins x=some (.type T))(ha:PA X (e::es) t)(hn:Bw (e::es)=true:=by rfl)(hnm:x ≠ "__name__" := by decide)(hdb:(x == ("__debug__" : Str))=false:=by decide) :
  PE X (.Call (.Name x p) (e::es) [] pos) (tCB r t):=ic hc hg hm hv ha hnm hdb (B6 (B2 hn).1) (C7 (B2 hn).2)
theorem D2(pa:PlainAttrs T)(slot:Slot T name id)(hty:typeOf (.builtin id)=pure (.type "method_descriptor"))(hm:MtR X id rm)(ho:PE X o to)(ha:PA X (e::es) t)(hT:T = "list" \/ T = "dict" \/ T = "str" := by decide)
  (hbase:attributeBase o name X.env (eval o X.env)=eval o X.env:=by rfl) (hn:Bw (e::es)=true:=by rfl) (hlen:(e::es).length<20:=by decide) (hline:(apos.endLine == cpos.line)=true:=by rfl) :
  PE X (.Call (.Attribute o name apos) (e::es) [] cpos) (tBA T rm to t):=by
 refine A3h pa slot hty hm ho ha hT hbase ?_ hline (B6 (B2 hn).1) (C7 (B2 hn).2);rw[c6 hn,Zyk];have e1:(backToKw cpos (keywordEach [] X.env)).all (λx=>x.1.isSome)=true:=rfl;rw[e1,Zyk];refine GB ?_;show (e::es).length+0+0<30;lia
theorem Es{ta:TA}(hg:Gl X "range")(hm:X.mg "range" = none)(ha:PA X [e] ta)(hn:Bw [e]=true:=by rfl):PI X tg (.Call (.Name "range" p) [e] [] pos) (rn ta):=ib hg hm ha (Cr hn)
end
mutual
def RD(H:Hp):PyData->V->Prop
 |.none,v=>v=.non
 |.bool b,v=>v=.bl b
 |.int i,v=>v=.int i
 |.str x,v=>v=.str x
 |.list ds,v=>∃a xs,v=.ref a/\H a=some (.lst xs)/\RDs H ds xs
 |.tuple ds,v=>∃a xs,v=.ref a/\H a=some (.tup xs)/\RDs H ds xs
 |.dict _,_=>False
def RDs(H:Hp):List PyData->List V->Prop
 |[],xs=>xs=[]
 |d::ds,xs=>∃x r,xs=x::r/\RD H d x/\RDs H ds r
end
mutual
theorem RD.reads(ok:HOk P w H h):∀(d:PyData) (v:V) (u:Value),RD H d v->AE v u->∃as,Reads h u d as
 |.none,v,u,r,e=>by
  rw[RD] at r;subst r;cases e;exact⟨_,.none⟩
 |.bool b,v,u,r,e=>by
  rw[RD] at r;subst r;cases e;exact⟨_,.bool b⟩
 |.int i,v,u,r,e=>by
  rw[RD] at r;subst r;let⟨t,rfl⟩:=e;exact⟨_,.int i t⟩
 |.str x,v,u,r,e=>by
  rw[RD] at r;subst r;let⟨t,rfl⟩:=e;exact⟨_,.str x t⟩
 |.list ds,v,u,r,e=>by
  rw[RD] at r;let⟨a,xs,rfl,ha,r⟩:=r;cases e;let⟨hz,its,n,rv,eo⟩:=ok a _ ha;let⟨as,q⟩:=RDs.reads ok ds xs its r rv;exact⟨_,.list (vs:=its.toArray) eo rfl rfl q⟩
 |.tuple ds,v,u,r,e=>by
  rw[RD] at r;let⟨a,xs,rfl,ha,r⟩:=r;cases e;let⟨hz,its,rv,o,ho,hc,n,hd⟩:=ok a _ ha;let⟨as,q⟩:=RDs.reads ok ds xs its r rv;exact⟨_,.tuple (vs:=its.toArray) ho hc hd q⟩
 |.dict _,v,u,r,e=>by
  rw[RD] at r;exact r.elim
theorem RDs.reads(ok:HOk P w H h):∀(ds:List PyData) (xs:List V) (us:List Value),RDs H ds xs->AC xs us->∃as,ReadsAll h us ds as
 |[],xs,us,r,e=>by
  rw[RDs] at r;subst r;cases e;exact⟨_,.nil⟩
 |d::ds,xs,us,r,e=>by
  rw[RDs] at r;let⟨x,r',rfl,h1,h2⟩:=r;cases e with
  |cons r1 r2 =>
   let⟨as,q1⟩:=RD.reads ok d x _ h1 r1;let⟨bs,q2⟩:=RDs.reads ok ds r' _ h2 r2;exact⟨_,.cons q1 q2⟩
end
noncomputable def okD(d:PyData):Bool:=d.canLay0&&decide (d.depth<=50)
def rEqD:R2:=λx y H Q=>∃d e,RD H d x/\RD H e y/\okD d=true/\okD e=true/\Q (.bl (PyData.eqv d e)) H
theorem pc{d e:PyData}(h:okD d=true)(hu:A.units+64<cLine):A.units+min d.depth e.depth<cLine:=by
 have h1:d.depth<=50:=GA (Zy3.mp h).2;have h2:min d.depth e.depth<=d.depth:=Nat.min_le_left _ _;lia
theorem ou(hu:X.A.units+64<cLine):OpR X (compareOp .Eq) rEqD:=by
 intro pins s σ H x y v u Q I rx ry h;let⟨d,e,rd,re,hd,he,q⟩:=h;let⟨as,r1⟩:=RD.reads I.hok d x v rd rx;let⟨bs,r2⟩:=RD.reads I.hok e y u re ry;exact SeqAt.compareEq_reads r1 r2 (Zy3.mp hd).1 (Zy3.mp he).1 (pc hd hu) ⟨.bl _,H,I,rfl,q⟩
theorem Wi{k:Nat}(hr:AM k A):A.units+64<cLine:=by
 have:=hr.un;lia
theorem HOk.but(x:HOk P w H h)(k:∀b o,b∉wr->h.get? b=some o->h'.get? b=some o)(n:∀b∈wr,H b=none):HOk P w H h':=λa o e =>
 (x a o e).stay (λb u hb q=>k b u (λz=>by
  rcases hb with hb | hb
  ·rw[hb] at z;rw[n a z] at e;cases e
  ·rw[n b z] at hb;cases hb) q) (λ_ q=>q) λ_ _ q=>q
theorem Inv.turnedL(I:Inv X pins σ H s)(k:∀b o,b∉wr->s.heap.get? b=some o->h'.get? b=some o)(f:∀b∈wr,Ik X pins H b):Inv X pins σ H {s with heap:=h',toks:=t'}:=by
 refine I.step (g':=s.gens) (d':=s.drawn) (ch:=wr) (λb hb=>?_) (λb o _ _ hc e _=>k b o hc e) (λb o _ _ hc e _=>⟨o.slots,k b o hc e⟩) (λ_ _ _ _ n=>n)
  (λb o hc e=>⟨o,k b o hc e⟩) (λ_ _ e=>e) (λ_ _ _ e=>e) (λb ps e=>⟨#[],by rw[e];simp⟩) (λm hm=>?_) (I.hok.but k λb hb=>(f b hb).1) I.bare
 ·let⟨f0,f1,f2,f3,f4,f5⟩:=f b hb;exact⟨f3,f1,f4,f5⟩
 ·let⟨o,es,ep,ho,r⟩:=hm;exact⟨o,es,ep,k _ o (λz=>(f _ z).2.1 rfl) ho,r⟩
theorem Inv.turnedT(I:Inv X pins σ H s)(k:∀b o,b∉wr->s.heap.get? b=some o->h'.get? b=some o)(f:∀b∈wr,Ik X pins H b)(hp:s.heap.objs.size<=p)
  (ht:IsTup h' p its.toArray) (rv:AC xs its) (hz:xs.length<=sizeLine):Inv X pins σ (upd H p (.tup xs)) {s with heap:=h',toks:=t'}:=by
 have hn:H p=none:=I.hok.fresh hp;have ne:∀b o,s.heap.get? b=some o->b≠p:=λb o e=>B9 (Zzo e) hp;refine I.step (g':=s.gens) (d':=s.drawn) (ch:=wr) (λb hb=>?_) (λb o _ _ hc e _=>k b o hc e) (λb o _ _ hc e _=>⟨o.slots,k b o hc e⟩) (λb o _ e n=>by rw[A6 (ne b o e)];exact n)
  (λb o hc e=>⟨o,k b o hc e⟩) (λb ys e=>by rw[A6 (A8 e hn)];exact e) (λb o u e=>by rw[A6 (A8 e hn)];exact e) (λb ps e=>⟨#[],by rw[A6 (A8 e hn),e];simp⟩) (λm hm=>?_) (λb u e=>?_) I.bare
 ·let⟨f0,f1,f2,f3,f4,f5⟩:=f b hb;exact⟨f3,f1,f4,f5⟩
 ·let⟨o,es,ep,ho,r⟩:=hm;exact⟨o,es,ep,k _ o (λz=>(f _ z).2.1 rfl) ho,r⟩
 ·by_cases hb:b=p
  ·subst hb;rw[AA] at e;cases e;exact⟨hz,its,rv,ht⟩
  ·rw[A6 hb] at e;refine(I.hok.but k (λb hb=>(f b hb).1) b u e).stay (λ_ _ _ q=>q) (λc q=>?_) λc ys q=>?_
   ·rw[A6 (A8 q hn)];exact q
   ·rw[A6 (A8 q hn)];exact q
theorem rh{it:Addr}{Pt:Nat->Array Value->Prop}{St:Nat->Heap->Prop}{Mid:Nat->Addr->Heap->Prop}{k:Nat}{Y:List V->Prop}
  (W:WalksT P w X.A it fp wr n Pt St Mid) (hi:i<n) (I:Inv X pins σ H s) (st:St i s.heap) (hf:∀b∈wr,Ik X pins H b) (hv:∀vals,Pt i vals->∃xs,AC xs vals.toList/\xs.length<=100/\Y xs) :
  wpAny (model P w) X.A (pyNext (.ref it)) (λr s1=>∃u,r=some u/\wpAny (model P w) X.A (letOwnedTupleGo (.Tuple elts k pos) (.ref it) u) (λ_ s2 =>
   ∃p xs,u=.ref p/\s.heap.objs.size<=p/\H p=none/\Inv X pins σ (upd H p (.tup xs)) s2/\Y xs/\St (i+1) s2.heap) E s1) E s:=by
 refine W.item i s _ E hi st λT vals h1 tk hP hT ht hm hk=>⟨.ref T,rfl,?_⟩;let⟨xs,rv,hz,hY⟩:=hv vals hP;refine W.go elts k pos i T {s with heap:=h1,toks:=tk} _ E hm λh2 st2 hk2=>?_;have hTw:T∉wr:=W.apart i T h1 hm;have ht2:IsTup h2 T vals.toList.toArray:=by
  let⟨o,ho,hc,m,hd⟩:=ht;exact⟨o,hk2 T o hTw ho,hc,m,by simpa using hd⟩
 exact⟨T,xs,rfl,hT,I.hok.fresh hT,I.turnedT (t':=tk) (λb o hb e=>hk2 b o hb (hk b o hb e)) hf hT ht2 rv (Zzp hz (by decide)),hY,st2⟩
structure Uv(J:It)(n:Nat)(yl:Nat->List V->Prop)(ok:Hp->Prop):Prop where
 go:∀i H,i<n->ok H->J.go i H
 yld:∀i H x H',i<n->ok H->J.yld i H x H'->∃p ys,x=.ref p/\H p=none/\H'=upd H p (.tup ys)/\yl i ys
 stop:∀H,ok H->J.stop n H
theorem Rm{yl:Nat->List V->Prop}{ok:Hp->Prop}{tb:TS}{D:AX}(G:Uv J n yl ok)(Pv:Nat->St->Hp->Prop)(h0:Pv 0 σ H)(hok:∀i σ H,i<=n->Pv i σ H->ok H)
  (hs:∀i ys p σ H,i<n->yl i ys->Pv i σ H->H p=none->g (.ref p) σ (upd H p (.tup ys)) λσ2 H2=>tb {D with nx:=Pv (i+1),ct:=Pv (i+1),bk:=D.nx} σ2 H2) (hd:∀σ H,Pv n σ H->D.nx σ H):NP.A2q J g tb D σ H:=by
 refine⟨λi m σ H=>m=n - i/\i<=n/\Pv i σ H,⟨n,by simp,Zyl _,h0⟩,?_⟩;rintro i m σ H ⟨rfl,hi,p⟩;have q:=hok i σ H hi p;by_cases hlt:i<n
 ·refine .inr ⟨G.go i H hlt q,Pv (i+1),λσ' H' p'=>⟨n - (i+1),by lia,rfl,hlt,p'⟩,λx H' y=>?_⟩;let⟨a,ys,e1,e2,e3,y'⟩:=G.yld i H x H' hlt q y;subst e1 e3;exact hs i ys a σ H hlt y' p e2
 ·have e:i=n:=by lia
  subst e;exact .inl ⟨G.stop H q,hd σ H p⟩
theorem gT2{x y:V}{Q:St->Hp->Prop}(h:Q ((σ.set i (some x)).set j (some y)) (upd H p (.tup [x,y]))):sj K 2 (Ki (E3 i) (Ki (E3 j) EI)) (.ref p) σ (upd H p (.tup [x,y])) Q :=
 ⟨p,_,rfl,SqT.of AA,rfl,_,_,rfl,_,_,rfl,rfl,h⟩
theorem gT3{k:Nat}{x y z:V}{Q:St->Hp->Prop}(h:Q (((σ.set i (some x)).set j (some y)).set k (some z)) (upd H p (.tup [x,y,z]))) :
  sj K 3 (Ki (E3 i) (Ki (E3 j) (Ki (E3 k) EI))) (.ref p) σ (upd H p (.tup [x,y,z])) Q :=
 ⟨p,_,rfl,SqT.of AA,rfl,_,_,rfl,_,_,rfl,_,_,rfl,rfl,h⟩
def ItE(a:Addr)(xs:List V):It:=⟨λi H=>H a=some (.lst xs)/\i<xs.length,λi H x H'=>∃p y,x=.ref p/\H p=none/\xs[i]?=some y/\H'=upd H p (.tup [.int i,y]),λi H=>H a=some (.lst xs)/\i=xs.length⟩
theorem g5(a:Addr)(xs:List V):Uv (ItE a xs) xs.length (λi ys=>∃y,xs[i]?=some y/\ys=[.int i,y]) (λH=>H a=some (.lst xs)) :=
 ⟨λi H h o=>⟨o,h⟩,λi H x H' h o y=>by let⟨p,z,e1,e2,e3,e4⟩:=y;exact⟨p,_,e1,e2,e4,z,e3,rfl⟩,λH o=>⟨o,rfl⟩⟩
theorem gz{k:Nat}(e it a:Addr)(xs:List V)(hei:e≠it):Nt P w K (.Tuple elts k pos) (ItE a xs) [e,it] e (λi h=>(∃old,IsEnum h e it i old)/\h.IsListIter it a i) where
 mem:=by simp
 obj:=λi h st b hb=>by
  let⟨⟨old,he⟩,o,ho,c,d⟩:=st;rcases Zzw.mp hb with q | q
  ·rw[q];exact⟨_,he,λv z=>by cases z⟩
  ·rw[Zzh.mp q];exact⟨o,ho,λv z=>by rw[d] at z;cases z⟩
 keep:=λi h h' st k=>by
  let⟨⟨old,he⟩,hi⟩:=st;exact⟨⟨old,k e (by simp) _ he⟩,hi.at λo q=>k it (by simp) o q⟩
 item:=by
  intro X hP hw hK hc i pins s σ H E I hf st hg;subst hP hw hK;let⟨hq,hlt⟩:=hg;let⟨its,rv,hl,hal⟩:=C6 I hq;have f1:=hf e (by simp);have f2:=hf it (by simp);have hae:a≠e:=A8 hq f1.1;have hai:a≠it:=A8 hq f2.1;have hlen:=rv.length;have hv:∀vals:Array Value,(∃t x,its.toArray[i]?=some x/\vals=#[.int i t,x])->∃ys,AC ys vals.toList/\ys.length<=100/\∃y,xs[i]?=some y/\ys=[V.int i,y]:=by
   rintro vals ⟨t,x,hx,rfl⟩;let⟨u,hu,ru⟩:=rv.get (x:=xs[i]) (i:=i) (by simp[hlt]);have hx:its[i]?=some x:=by simpa using hx
   rw[hx] at hu;cases hu;exact⟨[.int i,xs[i]],.cons ⟨t,rfl⟩ (.cons ru .nil),by simp,xs[i],by simp[hlt],rfl⟩
  refine thn (rh (E:=E) (WalksT.enumerate (I.ok.hd hc) e it a hei hae hai its.toArray) (by rw[Zzr];lia) I ⟨st.1,st.2,hl⟩ hf hv) λr s1 ⟨u,hr,h3⟩=>⟨u,hr,thn h3 λ_ s2 z0=>?_⟩;let⟨p,ys,hu,hp,hn,I2,⟨y,hy,e2⟩,st2⟩:=z0;subst hu e2;refine⟨.ref p,_,I2,rfl,⟨p,y,rfl,hn,hy,rfl⟩,⟨st2.1,st2.2.1⟩,λb hb=>?_⟩;have hbl:b<s.heap.objs.size:=by
   let⟨⟨old,he⟩,o,ho,c,d⟩:=st;rcases Zzw.mp hb with q | q
   ·rw[q];exact Zzo he
   ·rw[Zzh.mp q];exact Zzo ho
  rw[A6 (B9 hbl hp)];exact(hf b hb).1
 done:=by
  intro X hP hw hK hc i pins s σ H E I hf st hg;subst hP hw hK;let⟨hq,hlt⟩:=hg;let⟨its,rv,hl,hal⟩:=C6 I hq;have f1:=hf e (by simp);have f2:=hf it (by simp);have hlen:=rv.length;have hi:its.toArray.size=i:=by rw[Zzr];lia
  refine(WalksT.enumerate (I.ok.hd hc) e it a hei (A8 hq f1.1) (A8 hq f2.1) its.toArray).done s _ E ?_ λh' tk hk=>⟨rfl,I.turnedL hk hf⟩;rw[hi];exact⟨st.1,st.2,hl⟩
 self:=λ_ _ _ _ _ st h=>by
  let⟨⟨old,he⟩,_⟩:=st;exact wpAny_pyIter_enum he h
def A0n(ta:TA):TI:=λσ H R=>ta σ H λvs H1=>∃a xs,vs=[.ref a]/\H1 a=some (.lst xs)/\R (ItE a xs) H1
theorem P9{k:Nat}{pt p:Pos}{ta:TA}(hg:Gl X "enumerate")(hm:X.mg "enumerate" = none)(ha:PA X [e] ta)(hn:Bw [e]=true:=by rfl):PI X (.Tuple elts k pt) (.Call (.Name "enumerate" p) [e] [] pos) (A0n ta):=by
 intro pins s σ H R I h;refine Call_ (Gz I hg hm NP.Ww (Zxp (thn (ha pos pins s σ H _ I h) λus s1 ⟨vs,H1,I1,r1,q1⟩=>?_) (Cr hn) rfl));let⟨a,xs,e,hq,q⟩:=q1;subst e;let⟨u,rfl,ru⟩:=F9 r1;cases ru;let⟨its,rv,hl,hal⟩:=C6 I1 hq;refine call_enumerate_list hl λh' he hi hz hk=>wpAny_pyIter_enum he ?_;have I2:Inv X pins σ H1 {s1 with heap:=h'}:=I1.kept (t':=s1.toks) hk;refine⟨s1.heap.objs.size+1,[s1.heap.objs.size+1,s1.heap.objs.size],_,_,H1,rfl,I2,gz _ _ a xs (Zvd _),⟨⟨_,he⟩,hi⟩,λb hb=>?_,q⟩;have hb':s1.heap.objs.size<=b:=by
  rcases Zzw.mp hb with z | z
  ·rw[z];exact Nat.le_succ _
  ·rw[Zzh.mp z];exact Zzu _
 exact I1.fpOk hb' (I1.hok.fresh hb')
theorem Oe(ns:List Int):∀n,n<=ns.length->preSum (λi=>(ns[i]?).getD 0) n=(ns.take n).sum
 |0,_=>by simp[preSum]
 |n+1,h=>by
  have hn:n<ns.length:=h;rw[preSum,Oe ns n (by lia),Zz6,List.sum_append];simp only[Zzl hn,Zw9,Option.toList_some,List.sum_cons,List.sum_nil,Zxc]
theorem Zv(ns:List Int):preSum (λi=>(ns[i]?).getD 0) ns.length=ns.sum:=by
 rw[Oe ns _ (Zzu _),Zz7]
theorem Pq:∀{ns:List Int} {us:List Value} {i:Nat} {u:Value},AC (ns.map V.int) us->us[i]?=some u->∃t,u=.int ((ns[i]?).getD 0) t
 |[],_,i,u,.nil,e=>by simp at e
 |n::r,_,0,u,.cons h t,e=>by
  let⟨t',h⟩:=h;simp at e;subst e;exact⟨t',by rw[h];rfl⟩
 |n::r,_,i+1,u,.cons h t,e=>by
  let⟨t',q⟩:=Pq (ns:=r) (i:=i) (u:=u) t (by simpa using e);exact⟨t',by rw[q];simp⟩
def rSum:List V->Hp->VK->Prop:=λxs H Q=>∃(a:Addr) (ns:List Int),xs=[.ref a]/\H a=some (.lst (ns.map V.int))/\Q (.int ns.sum) H
theorem jq(hc:X.calm=true):AI X (.builtin "sum") rSum:=by
 intro pins s σ H xs us Q I r h;let⟨a,ns,rfl,ha,q⟩:=h;let⟨u,rfl,ru⟩:=F9 r;cases ru;let⟨its,rv,hl,hlt⟩:=C6 I ha;have hlen:its.length=ns.length:=by have:=rv.length;rw[Zzz] at this;exact this.symm
 refine call_sum_walkG (wpAny_pyIter_list hl ?_);refine⟨s.heap.objs.size,[s.heap.objs.size,a],[s.heap.objs.size],its.toArray.size,_,_,λi=>(ns[i]?).getD 0,rfl,Walks.list (A:=X.A.in1) (I.ok.hd hc) _ a (Zz0 hlt) its.toArray,
  ⟨⟨_,Zzj _ rfl,rfl,rfl⟩,hl.push _⟩,λb hb=>?_,λi v hP=>?_,λh' tk t' hk=>?_⟩
 ·have e:(s.heap.push {cls:=.type "list_iterator",data:=.fields #[.ref a,.int 0 0]}).objs.size=s.heap.objs.size+1:=Zy0 ..
  show b<(s.heap.push {cls:=.type "list_iterator",data:=.fields #[.ref a,.int 0 0]}).objs.size;rw[e];rcases Zzw.mp hb with z | z
  ·rw[z];exact Nat.lt_succ_self _
  ·rw[Zzh.mp z];exact Zxa hlt
 ·have hP:its[i]?=some v:=by simpa using hP
  exact Pq rv hP
 ·rw[Zzr,hlen,Zv];exact⟨.int ns.sum,H,I.walked hk,⟨_,rfl⟩,q⟩
def FR:List V->Hp->VK->Prop:=λxs H Q=>∃i j,xs=[.int i,.int j]/\Q (.int (if j > i then j else i)) H
theorem Up(hc:X.calm=true):AI X (.builtin "max") FR:=ju hc
theorem mw{d:Nat}{k:Int}(h:0<=k):HT.sIx n d (some k)=min k.toNat n:=by
 unfold HT.sIx;simp only;split<;>lia
theorem z7{j:Int}(hj:0<=j):Fk xs none (some j)=xs.take j.toNat:=by
 unfold Fk;rw[mw hj];have e:HT.sIx xs.length 0 none=0:=rfl;rw[e,List.drop_zero,Nat.sub_zero];apply Zwf;intro k;simp only[Zvv];by_cases h:k<xs.length
 ·by_cases h2:k<j.toNat
  ·rw[GE (by lia),GE h2]
  ·rw[GD (by lia),GD h2]
 ·rw[Zyj (by lia)];split<;>split<;>rfl
def EG(i j:Int):Prop:=EJ i j\/(i.natAbs<10^3000/\j.natAbs<10^3000)
theorem gm{i:Int}(h:i.natAbs<10^3000):Builtin.Int.intBits i<=2^20:=by
 unfold Builtin.Int.intBits;split
 ·exact Zyl _
 ·rename_i h0;have h1:i.natAbs≠0:=by
   intro e;exact h0 (by simpa using e)
  have h2:i.natAbs.log2<2^19:=by
   rw[Nat.log2_lt h1];refine Zzb h (Zzp (Nat.pow_le_pow_left (by decide:(10:Nat)<=2^4) 3000) ?_);rw[<- Nat.pow_mul];exact Nat.pow_le_pow_right (by decide) (by decide)
  have:(2:Nat)^20=2^19+2^19:=by decide
  have:(1:Nat)<=2^19:=by decide
  lia
theorem EG.ok{i j:Int}(h:EG i j):IntMulOk i j:=h.elim EJ.ok λh=>.of_bits (gm h.1) (gm h.2)
theorem Jw:OpR X (binaryOp .Mult) (rI EG λi j=>.int (i*j)):=opI λ_ _ _ _ _ _ _ hc q=>mul_int q hc.ok
structure Zq where
 t:Bool
 l:Addr
 it:Addr
 vs:List V
inductive Zq.on (q:Zq) (h:Heap) (k:Nat):Prop
 |l (e:q.t=false) (o:h.IsListIter q.it q.l k)
 |u (e:q.t=true) (o:h.IsTupleIter q.it q.l k)
inductive Zq.has (q:Zq) (h:Heap) (xs:List Value):Prop
 |l (e:q.t=false) (o:h.IsList q.l xs.toArray)
 |u (e:q.t=true) (o:h.IsTuple q.l xs.toArray)
abbrev Nu(h:Heap)(T:Addr)(vs:List Value):Prop:=h.get? T=some {cls:=.type "tuple",data:=.seq vs.toArray}
section
variable {z TI TO:Addr}{q:Zq}{k:Nat}{xs:List Value}{x:Value}
theorem Zq.on.keep(o:q.on h k)(kp:∀o,h.get? q.it=some o->h'.get? q.it=some o):q.on h' k:=by
 cases o with
 |l e o=>exact .l e (o.at kp)
 |u e o=>exact .u e (o.at kp)
theorem A11{ys:Array Value}(q:h.IsTuple b ys)(k:∀o,h.get? b=some o->h'.get? b=some o):h'.IsTuple b ys:=by
 let⟨o,e,r⟩:=q;exact⟨o,k o e,r⟩
theorem Zq.has.keep(o:q.has h xs)(kp:∀o,h.get? q.l=some o->h'.get? q.l=some o):q.has h' xs:=by
 cases o with
 |l e o=>exact .l e (o.at kp)
 |u e o=>exact .u e (A11 o kp)
theorem Zq.on.obj(o:q.on h k):∃u,h.get? q.it=some u/\∀v,u.data≠.cell v:=by
 cases o<;>(rename_i e o;let⟨u,e,_,d⟩:=o;exact⟨u,e,λ_ y=>by rw[d] at y;cases y⟩)
theorem A0e{p:Prop}(h1:q.t=true)(h2:q.t=false):p:=by rw[h1] at h2;cases h2
theorem Zq.draw(hh:A.handled=none)(o:q.on s.heap k)(hl:q.has s.heap xs)(hq:∀x h',xs[k]?=some x->q.on h' (k+1)->Zxs q.it s.heap h'->Q x {s with heap:=h'})
  (hE:xs[k]?=none->∀h' e,Heap.ExtBut q.it s.heap h'->(∃o,h'.get? e=some o/\o.cls=.type "StopIteration")->E (.ref e) {s with heap:=h'}):wpAny (model P w) A (Zw0 (.ref q.it)) Q E s:=by
 have ea:xs.toArray[k]?=xs[k]?:=by simp
 cases o with
 |l e o =>
  cases hl with
  |l _ hl =>
   cases ex:xs[k]? with
   |none=>exact wpAny_nextOf_list_end hh o hl (ea.trans ex) (hE ex)
   |some x=>exact wpAny_nextOf_list_item o hl (ea.trans ex) λh' a b=>hq x h' ex (.l e a) b
  |u e2 _=>exact A0e e2 e
 |u e o =>
 cases hl with
 |l e2 _=>exact A0e e e2
 |u _ hl =>
 let⟨oi,ei,ci,di⟩:=id o;let⟨ol,el,_,m,dl⟩:=hl;unfold Zw0;refine GF (wpAny_callSpecial?_slot (name:=Str.ofString "__next__") o.typeIs F.slot_tuple_iterator_next (wpAny_call_entry F.slot_tuple_iterator_next o.typeIs F.entry_tuple_iterator_next ?_ (F.args_tuple_iterator_next_1 _)));show wpAny _ _ (field (.ref q.it) 0 >>= _) _ _ s;refine GF (wpAny_field ei di (x:=.ref q.l) rfl ?_);show wpAny _ _ (if (Value.ref q.l == Value.none)=true then _ else _) _ _ s;rw[GD (λz:(Value.ref q.l == Value.none)=true=>Zzi z)];show wpAny _ _ (field (.ref q.it) 1 >>= _) _ _ s;refine GF (wpAny_field ei di (x:=.int k 0) rfl ?_);show wpAny _ _ (seqItems? (.ref q.l) >>= _) _ _ s;refine GF (wpAny_seqItems el dl ?_);cases ex:xs[k]? with
 |some x =>
  simp only[ea,ex,Zwy];exact GF (wpAny_setField ei di (by simp) (GG ⟨x,rfl,GG (hq x _ ex (.u e ⟨_,Zxv _ ei (Obj.isFreed_of_fields (Obj.data_mapFields di _)),(Obj.cls_mapFields ..).trans ci,by rw[Obj.data_mapFields di];simp[rawInt]⟩) (Zv2 ..))⟩))
 |none =>
  simp only[ea,ex,Zwy];refine GF (wpAny_rule (GF (wpAny_setField ei di (by simp) ?_)));show wpAny _ _ (newExc (.type "StopIteration") [] >>= _) _ _ _;refine GF ?_;simp only[newExc,newTuple];refine GF (wpAny_newObj_type ?_ (by size_fits));refine GF (m:=firstArgMember _ _) (wpAny_of_eq (a:=Value.none) (by first | rfl | (simp only[firstArgMember];rfl)) ?_);refine wpAny_newObj_type ?_ (by size_fits);simp only[raiseNew];refine GF (wpAny_handled ?_);first | rw[show A.in1.handled=none from hh] | rw[hh]
  exact GF (GG (wpAny_throw (hE ex _ _ (((Zv2 ..).extBut.push _).push _) ⟨_,Zzj _ rfl,rfl⟩)))
def Rw(f:Zq->List Value)(k:Nat)(qs:List Zq)(ys:List Value):Prop:=qs.map (λq=>(f q)[k]?)=ys.map some
structure Za(z TI TO:Addr)(qs:List Zq):Prop where
 nd:(z::TI::TO::qs.map (·.it)).Nodup
 ls:∀q∈qs,q.l∉z::TO::qs.map (·.it)
 ne:qs≠[]
 few:qs.length<=100
theorem A1b(ps:List Value)(y u:Value)(ys:List Value):(ps++y::ys).toArray.setIfInBounds ps.length u=(ps++u::ys).toArray:=by simp
theorem X3{β:Type}{b:β}{f:Zq->List Value}{g:Value×Nat->β->Sem (ForInStep β)}(zO:z≠TO)
  (step:∀(q:Zq) (k:Nat) (ys:List Value) (t:Shared) (Q:ForInStep β->Shared->Prop),q.on t.heap i->q.has t.heap (f q)->Nu t.heap TO ys->q.it≠TO->ys.length<=100->IsZip t.heap z TI TO .ellipsis->q.it≠z ->
   (∀x h1 h',(f q)[i]?=some x->q.on h1 (i+1)->Zxs q.it t.heap h1->h'.get? TO=some {cls:=.type "tuple",data:=.seq (ys.toArray.setIfInBounds k x)}->Zxs TO h1 h'->Q (.yield b) {t with heap:=h'}) ->
   ((f q)[i]?=none->∀h' e,(∀c o,c≠z->c≠q.it->t.heap.get? c=some o->h'.get? c=some o)->(∃o,h'.get? e=some o/\o.cls=.type "StopIteration")->E (.ref e) {t with heap:=h'})->wpAny (model P w) A (g (.ref q.it,k) b) Q E t) :
  ∀(qs:List Zq) (ps os:List Value) (t:Shared) (Q:β->Shared->Prop),(∀q∈qs,q.on t.heap i/\q.has t.heap (f q)/\q.it≠TO/\q.l≠TO/\q.it≠z/\q.l∉qs.map (·.it))->(qs.map (·.it)).Nodup->Nu t.heap TO (ps++os)->os.length=qs.length->(ps++os).length<=100->IsZip t.heap z TI TO .ellipsis ->
   (∀xs,Rw f i qs xs->∀h',(∀q∈qs,q.on h' (i+1))->Nu h' TO (ps++xs)->h'.objs.size=t.heap.objs.size->(∀c o,c∉TO::qs.map (·.it)->t.heap.get? c=some o->h'.get? c=some o)->Q b {t with heap:=h'}) ->
   ((∃q∈qs,(f q)[i]?=none)->∀h' e,(∀c o,c∉z::TO::qs.map (·.it)->t.heap.get? c=some o->h'.get? c=some o)->(∃o,h'.get? e=some o/\o.cls=.type "StopIteration")->E (.ref e) {t with heap:=h'}) ->
   wpAny (model P w) A (forIn ((qs.map λq=>Value.ref q.it).zipIdx ps.length) b g) Q E t
 |[],ps,os,t,Q,_,_,hT,hl,_,_,hq,_=>by
  rw[Zy1,List.zipIdx_nil,List.forIn_nil];obtain rfl:os=[]:=List.length_eq_zero_iff.mp hl;exact GG (hq [] rfl t.heap (λq h=>by cases h) hT rfl λc o _ e=>e)
 |q::r,ps,os,t,Q,ha,nd,hT,hl,lz,hz,hq,hE=>by
  rw[Zzk,List.zipIdx_cons,Zv8];rw[Zzk,Zye] at nd;obtain⟨o,os,rfl⟩:∃o os',os=o::os':=by
   match os,hl with
   |o::os,_=>exact⟨o,os,rfl⟩
  let⟨a1,a2,a3,a4,a6,a5⟩:=ha q Zzq;refine GF (step q ps.length _ t _ a1 a2 hT a3 lz hz a6 (λx h1 h2 ex b1 b2 b3 b4=>?_) λex h' e kp he=>hE ⟨q,Zzq,ex⟩ h' e (λc o n ec=>?_) he);rotate_left
  ·rw[Zzk,Zzw,Zzw,Zzw,not_or,not_or,not_or] at n;exact kp c o n.1 n.2.2.1 ec
  rw[A1b] at b3;have kp:∀c o,c≠q.it->c≠TO->t.heap.get? c=some o->h2.get? c=some o:=λc o n1 n2 e=>b4.extBut _ _ n2 (b2.extBut _ _ n1 e);have as:∀zs:List Value,ps++x::zs=ps++[x]++zs:=λzs=>by simp
  rw[show ps.length+1=(ps++[x]).length by rw[Zz8];rfl];rw[as] at b3;refine X3 zO step r (ps++[x]) os {t with heap:=h2} Q (λp hp=>?_) nd.2 b3 (by simpa using hl) (by simpa using lz) (kp _ _ (Zza a6) zO hz) (λys er h3 c1 c2 c3 c4=>?_) λ⟨p0,hp0,e0⟩ h3 e c1 c2=>hE ⟨p0,Zzs _ hp0,e0⟩ h3 e (λc o n ec=>?_) c2
  ·let⟨d1,d2,d3,d4,d6,d5⟩:=ha p (Zzs _ hp);rw[Zzk,Zzw,not_or] at d5;have n:p.it≠q.it:=λe=>nd.1 (e▸Zxy hp);exact⟨d1.keep λo e=>kp _ o n d3 e,d2.keep λo e=>kp _ o d5.1 d4 e,d3,d4,d6,d5.2⟩
  ·refine hq (x::ys) (by unfold Rw at *;rw[Zzk,Zzk,ex,er]) h3 (λp hp=>?_) (by rw[as];exact c2) (c3.trans (b4.1.trans b2.1)) λc o n e=>?_
   ·rcases Zzw.mp hp with rfl | hp
    ·refine b1.keep λo e=>c4 _ o ?_ (b4.extBut _ _ a3 e);rw[Zzw,not_or];exact⟨a3,nd.1⟩
    ·exact c1 p hp
   ·rw[Zzk,Zzw,Zzw,not_or,not_or] at n;exact c4 c o (by rw[Zzw,not_or];exact⟨n.1,n.2.2⟩) (kp c o n.2.1 n.1 e)
  ·rw[Zzk,Zzw,Zzw,Zzw,not_or,not_or,not_or] at n;exact c1 c o (by rw[Zzw,Zzw,not_or,not_or];exact⟨n.1,n.2.1,n.2.2.2⟩) (kp c o n.2.2.1 n.2.1 ec)
variable {qs:List Zq}{os:List Value}{f:Zq->List Value}
theorem Za.it(D:Za z TI TO qs):z≠TI/\z≠TO/\TI≠TO/\(∀q∈qs,q.it≠z/\q.it≠TI/\q.it≠TO)/\(qs.map (·.it)).Nodup/\∀q∈qs,q.l≠z/\q.l≠TO/\q.l∉qs.map (·.it):=by
 have nd:=D.nd;simp only[Zye,Zzw,not_or] at nd;let⟨⟨n1,n2,n3⟩,⟨n4,n5⟩,n6,n7⟩:=nd;refine⟨n1,n2,n4,λq hq=>⟨λe=>n3 (e▸Zxy hq),λe=>n5 (e▸Zxy hq),λe=>n6 (e▸Zxy hq)⟩,n7,λq hq=>?_⟩;have:=D.ls q hq;rw[Zzw,Zzw,not_or,not_or] at this;exact this
theorem Td(hh:A.handled=none)(D:Za z TI TO qs)(hz:IsZip s.heap z TI TO .none)(hI:Nu s.heap TI (qs.map λq=>Value.ref q.it))(hO:Nu s.heap TO os)(lo:os.length=qs.length)(on:∀q∈qs,q.on s.heap i)(has:∀q∈qs,q.has s.heap (f q))
  (hq:∀xs,Rw f i qs xs->∀h',IsZip h' z TI TO (rawInt s.heap.objs.size)->Nu h' TO xs->(∀q∈qs,q.on h' (i+1))->Nu h' s.heap.objs.size xs->(∀c o,c∉z::TO::qs.map (·.it)->s.heap.get? c=some o->h'.get? c=some o)->Q (.ref s.heap.objs.size) {s with heap:=h'})
  (hE:(∃q∈qs,(f q)[i]?=none)->∀h' e,(∀c o,c∉z::TO::qs.map (·.it)->s.heap.get? c=some o->h'.get? c=some o)->(∃o,h'.get? e=some o/\o.cls=.type "StopIteration")->E (.ref e) {s with heap:=h'}) :
  wpAny (model P w) A (Builtin.«zip.__next__» ⟨[.ref z],[]⟩) (λfin s'=>∃v,fin=.done (.ret v)/\Q v s') E s:=by
 let⟨zI,zO,IO,ni,ndi,nl⟩:=D.it;have ie:((qs.map λq=>Value.ref q.it).toArray).isEmpty=false:=by
  match qs,D.ne with
  |q::r,_=>rfl
 show wpAny _ _ (field (.ref z) 2 >>= _) _ _ _;refine GF (wpAny_field hz rfl (x:=.bool false) rfl ?_);show wpAny _ _ (field (.ref z) 3 >>= _) _ _ _;refine GF (wpAny_field hz rfl (x:=.ref TI) rfl (GF (wpAny_seqItems hI rfl ?_)));simp only[ie,Zvu,if_false];refine GF (m:=Zvr (.ref z)) ?_;unfold Zvr;refine GF (wpAny_field hz rfl (x:=.none) rfl (GG ?_));simp only[if_true];refine GF (wpAny_rule (GF (wpAny_field hz rfl (x:=.ref TO) rfl (GF (wpAny_setField_rec hz (by simp) λh₁ w₁ s₁=>GF ?_)))));replace w₁:IsZip h₁ z TI TO .ellipsis:=w₁;have K1:∀c o,c≠z->s.heap.get? c=some o->h₁.get? c=some o:=λc o n e=>s₁.extBut c o n e;refine X3 (f:=f) (i:=i) (TI:=TI) zO (λq k ys t Q a1 a2 a3 a4 a5 a6 a7 hQ hS=>?_) qs [] os {s with heap:=h₁} _ (λq hm=>⟨(on q hm).keep λo e=>K1 _ o (ni q hm).1 e,(has q hm).keep λo e=>K1 _ o (nl q hm).1 e,(ni q hm).2.2,(nl q hm).2.1,(ni q hm).1,(nl q hm).2.2⟩) ndi (K1 _ _ (Zza zO) hO) lo (by have:=D.few;show os.length<=100;lia) w₁ (λxs er h₂ b1 b2 b3 b4=>?_) λen h' e kp he=>hE en h' e (λc o n ec=>kp c o n (K1 c o (λy=>n (by simp[y])) ec)) he
 ·refine GF (wpAny_onRaise (show wpAny _ _ (Zw0 (.ref q.it) >>= _) _ _ _ from ?_));refine GF (q.draw hh a1 a2 (λx h₃ ex c1 c2=>GG ?_) λex h₃ e eb he=>?_)
  ·have t3:Nu h₃ TO ys:=c2.extBut _ _ (Zza a4) a3
   exact GF (wpAny_seqItems t3 rfl (GF (wpAny_updateSeq t3 rfl (GF (wpAny_letGo (GG (hQ x h₃ _ ex c1 c2 (by rw[Zxv _ t3 rfl];simp[Obj.mapSeq]) (Zv2 ..))))) (by show ys.toArray.size<=_;rw[Zzr];exact Zzp a5 (by decide)) (by show (ys.toArray.setIfInBounds k x).size<=_;simp;exact Zzp a5 (by decide)))))
  ·have g:=eb _ _ (Zza a7) a6
   let⟨oe,p1,p2⟩:=he;have ne:e≠z:=λy=>by rw[y,g] at p1;cases p1;simp at p2
   exact wpAny_setField_rec g (by simp) λh₄ _ s₄=>hS ex h₄ e (λc o n1 n2 ec=>s₄.extBut _ _ n1 (eb _ _ n2 ec)) ⟨oe,s₄.extBut _ _ ne p1,p2⟩
 ·have lx:xs.length=qs.length:=by have:=congrArg Zxn er;simpa using this.symm
  have few:=D.few;have sz:h₂.objs.size=s.heap.objs.size:=b3.trans s₁.1;have zn:z∉TO::qs.map (·.it):=λh=>(Zye.mp D.nd).1 (Zzs _ h);have Z:IsZip h₂ z TI TO .ellipsis:=b4 z _ zn w₁;have zl:z<h₂.objs.size:=Zzo Z;refine GF (wpAny_seqItems b2 rfl (GF (wpAny_newTuple ?_ (by show xs.length<=_;exact Zzp (m:=100) (by lia) (by decide)))));refine GF (m:=Zvt (.ref z) (.ref h₂.objs.size)) ?_;unfold Zvt;refine GF (wpAny_setField_rec (Zzv _ Z) (by simp) λh₇ z₇ s₇=>wpAny_setField_rec z₇ (by simp) λh₈ z₈ s₈=>?_);have up:∀c o,c≠z->h₂.get? c=some o->h₈.get? c=some o:=λc o n e=>s₈.extBut _ _ n (s₇.extBut _ _ n (Zzv _ e));have z₈:IsZip h₈ z TI TO (rawInt h₂.objs.size):=z₈;have t8:Nu h₈ h₂.objs.size xs:=s₈.extBut _ _ (Zxe zl) (s₇.extBut _ _ (Zxe zl) (Zzj _ rfl));rw[sz] at z₈ t8;refine GG ⟨_,rfl,(show Q (.ref h₂.objs.size) _ from ?_)⟩;rw[sz];refine hq xs er h₈ z₈ (up _ _ (Zza zO) b2) (λq hm=>(b1 q hm).keep λo e=>up _ o (ni q hm).1 e) t8 λc o n e=>?_;rw[Zzw,not_or] at n;exact up c o n.1 (b4 c o n.2 (K1 c o n.1 e))
structure Zn(f:Zq->List Value)(qs:List Zq)(n:Nat):Prop where
 le:∀q∈qs,n<=(f q).length
 eq:∃q∈qs,(f q).length=n
abbrev ZSt(z TI TO:Addr)(qs:List Zq)(f0:Value)(i:Nat)(h:Heap):Prop:=IsZip h z TI TO f0/\Nu h TI (qs.map λq=>Value.ref q.it)/\(∃os,os.length=qs.length/\Nu h TO os)/\∀q∈qs,q.on h i
theorem Po(hh:A.handled=none)(D:Za z TI TO qs)(hn:Zn f qs n) :
  WalksT P w A z (z::TI::TO::(qs.map (·.it)++qs.map (·.l))) (z::TO::qs.map (·.it)) n (λi vals=>Rw f i qs vals.toList) (λi h=>ZSt z TI TO qs .none i h/\∀q∈qs,q.has h (f q))
   (λi T h=>(ZSt z TI TO qs (rawInt T) (i+1) h/\∀q∈qs,q.has h (f q))/\T∉z::TO::qs.map (·.it)):=by
 let⟨zI,zO,IO,ni,ndi,nl⟩:=D.it;have mi:∀q∈qs,q.it∈z::TI::TO::(qs.map (·.it)++qs.map (·.l)):=λq hm=>by simp only[Zzw,Zz3];exact .inr (.inr (.inr (.inl (Zxy hm))))
 have ml:∀q∈qs,q.l∈z::TI::TO::(qs.map (·.it)++qs.map (·.l)):=λq hm=>by simp only[Zzw,Zz3];exact .inr (.inr (.inr (.inr (Zxy hm))))
 have wl:∀q∈qs,q.l∉z::TO::qs.map (·.it):=D.ls;have wI:TI∉z::TO::qs.map (·.it):=by
  simp only[Zzw,not_or];refine⟨Zza zI,IO,λh=>?_⟩;let⟨q,hq,e⟩:=Zzt.mp h;exact(ni q hq).2.1 e
 refine⟨λc hc=>?_,λi h h' st k=>?_,λi s Q E hi st hq=>?_,λelts k pos i T s Q E hm hq=>?_,λi T h hm=>hm.2,λs Q E st hq=>?_,λi s Q E st hq=>wpAny_pyIter_zip st.1.1 hq⟩
 ·simp only[Zzw,Zz3] at hc ⊢;rcases hc with q | q | q
  ·exact .inl q
  ·exact .inr (.inr (.inl q))
  ·exact .inr (.inr (.inr (.inl q)))
 ·let⟨⟨a1,a2,⟨os,lo,a3⟩,a4⟩,a5⟩:=st;exact⟨⟨k z (by simp) _ a1,k TI (by simp) _ a2,⟨os,lo,k TO (by simp) _ a3⟩,λq hm=>(a4 q hm).keep λo e=>k _ (mi q hm) o e⟩,λq hm=>(a5 q hm).keep λo e=>k _ (ml q hm) o e⟩
 ·let⟨⟨a1,a2,⟨os,lo,a3⟩,a4⟩,a5⟩:=st;have hT:s.TypeIs (.ref z) "zip" := ⟨_,a1,rfl⟩;have lt:∀{c:Addr} {o:Obj},s.heap.get? c=some o->s.heap.objs.size≠c:=λe=>Zxe (Zzo e);unfold pyNext;refine GF (wpAny_attempt (wpAny_callSpecial?_slot (name:=Str.ofString "__next__") hT F.slot_zip_next (wpAny_call_entry F.slot_zip_next hT F.entry_zip_next (Td (i:=i) hh D a1 a2 a3 lo a4 a5 (λxs er h' b1 b2 b3 b4 kp=>GG ?_) λ⟨q,hm,e⟩=>?_) (F.args_zip_next_1 _))))
  ·have lx:xs.length=qs.length:=by have:=congrArg Zxn er;simpa using this.symm
   refine hq _ xs.toArray h' s.toks er (Zzu _) ⟨_,b4,rfl,_,rfl⟩ ⟨⟨⟨b1,kp _ _ wI a2,⟨xs,lx,b2⟩,b3⟩,λq hm=>(a5 q hm).keep λo e=>kp _ o (wl q hm) e⟩,λh=>?_⟩ kp;simp only[Zzw] at h;rcases h with h | h | h
   ·exact lt a1 h
   ·exact lt a3 h
   ·let⟨q,hm,e⟩:=Zzt.mp h;let⟨o,ho,_⟩:=(a4 q hm).obj;exact lt ho e.symm
  ·have:=hn.le q hm
   rw[List.getElem?_eq_none_iff] at e;lia
 ·let⟨⟨⟨a1,a2,⟨os,lo,a3⟩,a4⟩,a5⟩,_⟩:=hm;exact wpAny_letOwnedTupleGo_zip a1 λh' b1 sb=>hq h' ⟨⟨b1,sb.extBut _ _ (Zza zI) a2,⟨os,lo,sb.extBut _ _ (Zza zO) a3⟩,λq hm=>(a4 q hm).keep λo e=>sb.extBut _ _ (ni q hm).1 e⟩,λq hm=>(a5 q hm).keep λo e=>sb.extBut _ _ (nl q hm).1 e⟩ λc o hc e=>sb.extBut _ _ (λq=>hc (by simp[q])) e
 ·let⟨⟨a1,a2,⟨os,lo,a3⟩,a4⟩,a5⟩:=st;have hT:s.TypeIs (.ref z) "zip" := ⟨_,a1,rfl⟩;unfold pyNext;refine GF (wpAny_attempt (wpAny_callSpecial?_slot (name:=Str.ofString "__next__") hT F.slot_zip_next (wpAny_call_entry F.slot_zip_next hT F.entry_zip_next (Td (i:=n) hh D a1 a2 a3 lo a4 a5 (λxs er=>?_) λ_ h' e kp ⟨o,e1,e2⟩=>?_) (F.args_zip_next_1 _))))
  ·let⟨q,hm,e⟩:=hn.eq;have:(f q)[n]?∈xs.map some:=by rw[<- (show qs.map (λq=>(f q)[n]?)=xs.map some from er)];exact Zxy hm
   let⟨x,_,ex⟩:=Zzt.mp this;rw[Zyj (by lia)] at ex;cases ex
  ·exact GF (wpAny_isInstance (T := "StopIteration") (b:=true) ⟨o,e1,e2⟩ isSubtype_stop (GG (hq h' s.toks kp)))
def Fg:Nat->List (Bool×Addr×List V)->List Zq
 |_,[]=>[]
 |n,a::r=>⟨a.1,a.2.1,n,a.2.2⟩::Fg (n+1) r
theorem W0(us:List Value):Builtin.SmallTypes.newClass "zip" ⟨.type "zip" :: us,[]⟩=pure (.type "zip",us):=by
 unfold Builtin.SmallTypes.newClass;simp only[isType,sub_zip];rfl
theorem Ym{g:Value->Array Value->Sem (ForInStep (Array Value))}(hg:∀v acc,g v acc=(do let x <- holding acc.toList (pyIter v);pure (.yield (acc.push x)))) :
  ∀(ss:List (Bool×Addr×List V)) (acc:Array Value) (t:Shared) (Q:Array Value->Shared->Prop),(∀q∈Fg t.heap.objs.size ss,∃xs,q.has t.heap xs) ->
   (∀h',(∀q∈Fg t.heap.objs.size ss,q.on h' 0)->h'.objs.size=t.heap.objs.size+ss.length->(∀c o,t.heap.get? c=some o->h'.get? c=some o)->Q (acc++((Fg t.heap.objs.size ss).map λq=>Value.ref q.it).toArray) {t with heap:=h'}) ->
   wpAny (model P w) A (forIn (ss.map λa=>Value.ref a.2.1) acc g) Q E t
 |[],acc,t,Q,_,hq=>by
  rw[Zy1,List.forIn_nil];have:=hq t.heap (λq h=>by cases h) rfl λc o e=>e;exact GG (by simpa [Fg] using this)
 |a::r,acc,t,Q,ha,hq=>by
  rw[Zzk,Zv8,hg];let⟨xs,hx⟩:=ha _ Zzq;have go:∀o:Obj,(∀h',h'=t.heap.push o->(⟨a.1,a.2.1,t.heap.objs.size,a.2.2⟩:Zq).on h' 0)->o.isFreed=false->wpAny (model P w) A (forIn (r.map λa=>Value.ref a.2.1) (acc.push (.ref t.heap.objs.size)) g) Q E {t with heap:=t.heap.push o}:=λo h0 _=>by
   have sz:(t.heap.push o).objs.size=t.heap.objs.size+1:=Zy0 ..;have kp:∀c u,t.heap.get? c=some u->(t.heap.push o).get? c=some u:=λc u e=>Zzv _ e;refine Ym hg r _ _ Q (λq hm=>?_) λh' c1 c2 c3=>?_
   ·rw[sz] at hm;let⟨ys,hy⟩:=ha q (Zzs _ hm);exact⟨ys,hy.keep λo e=>kp _ o e⟩
   ·have:=hq h' (λq hm=>?_) (c2.trans (by rw[sz,Zyz];lia)) λc u e=>c3 c u (kp c u e)
    ·rw[sz];have e:acc++((Fg t.heap.objs.size (a::r)).map λq=>Value.ref q.it).toArray=acc.push (.ref t.heap.objs.size)++((Fg (t.heap.objs.size+1) r).map λq=>Value.ref q.it).toArray:=by simp[Fg]
     rw[<- e];exact this
    ·rcases Zzw.mp hm with rfl | hm
     ·exact(h0 _ rfl).keep λu e=>c3 _ u e
     ·exact c1 q (by rw[sz];exact hm)
  refine GF (GF (wpAny_holding ?_));cases hx with
  |l e o=>exact wpAny_pyIter_list o (GG (go _ (λh' eh=>.l e (by rw[eh];exact⟨_,Zzj _ rfl,rfl,rfl⟩)) rfl))
  |u e o=>exact wpAny_pyIter_tuple o (GG (go _ (λh' eh=>.u e (by rw[eh];exact⟨_,Zzj _ rfl,rfl,rfl⟩)) rfl))
theorem Lw:∀(n:Nat) (ss:List (Bool×Addr×List V)),(Fg n ss).length=ss.length
 |_,[]=>rfl
 |n,_::r=>congrArg (·+1) (Lw (n+1) r)
theorem au(ss:List (Bool×Addr×List V))(few:ss.length<=100):Meets (Builtin.«zip.__new__» ⟨.type "zip" :: ss.map (λa=>.ref a.2.1),[]⟩) (λ_ R s=>(∀q∈Fg s.heap.objs.size ss,∃xs,q.has s.heap xs) /\
  ∀h',ZSt (s.heap.objs.size+ss.length+2) (s.heap.objs.size+ss.length) (s.heap.objs.size+ss.length+1) (Fg s.heap.objs.size ss) .none 0 h'->(∀c o,s.heap.get? c=some o->h'.get? c=some o)->R (.ok (.ret (.ref (s.heap.objs.size+ss.length+2)))) {s with heap:=h'}) :=
 .of_wp λP w A R s z0=>by
  let⟨hs,hq⟩:=z0;unfold Builtin.«zip.__new__»;refine GF (wpAny_of_eq (W0 _) ?_);show wpAny _ _ (Builtin.SmallTypes.iterAll _ >>= _) _ _ _;refine GF ?_;unfold Builtin.SmallTypes.iterAll;refine GF (Ym (λv acc=>rfl) ss #[] s _ hs λh1 a1 a2 a3=>GG ?_);have e0:((#[]:Array Value)++((Fg s.heap.objs.size ss).map λ(q:Zq)=>Value.ref q.it).toArray).toList=(Fg s.heap.objs.size ss).map (λ(q:Zq)=>Value.ref q.it):=by simp
  have ln:((Fg s.heap.objs.size ss).map λq=>Value.ref q.it).length=ss.length:=by rw[Zzz,Lw]
  rw[e0];refine GF (wpAny_newTuple (GF (wpAny_newTuple ?_ (by rw[Zzz,ln];exact Zzp few (by decide)))) (by rw[ln];exact Zzp few (by decide)));generalize e2:Heap.push h1 _=h2;have y2:h2.objs.size=s.heap.objs.size+ss.length+1:=by rw[<- e2,Zy0,a2]
  have k2:∀c o,h1.get? c=some o->h2.get? c=some o:=λc o e=>by rw[<- e2];exact Zzv _ e
  have g2:Nu h2 (s.heap.objs.size+ss.length) ((Fg s.heap.objs.size ss).map λq=>Value.ref q.it):=by rw[<- e2,<- a2];exact Zzj _ rfl
  generalize e3:Heap.push h2 _=h3;have y3:h3.objs.size=s.heap.objs.size+ss.length+2:=by rw[<- e3,Zy0,y2]
  have k3:∀c o,h2.get? c=some o->h3.get? c=some o:=λc o e=>by rw[<- e3];exact Zzv _ e
  have g3:Nu h3 (s.heap.objs.size+ss.length+1) (((Fg s.heap.objs.size ss).map λq=>Value.ref q.it).map λ_=>Value.none):=by rw[<- e3,<- y2];exact Zzj _ rfl
  rw[a2,y2];refine GF (show wpAny _ _ (newObj (.type "zip") (.fields #[.none,.bool false,.bool false,.ref (s.heap.objs.size+ss.length),.ref (s.heap.objs.size+ss.length+1)])) _ _ _ from wpAny_newObj_type (GG ⟨_,rfl,?_⟩));generalize e4:Heap.push h3 _=h4;have k4:∀c o,h3.get? c=some o->h4.get? c=some o:=λc o e=>by rw[<- e4];exact Zzv _ e
  have g4:IsZip h4 (s.heap.objs.size+ss.length+2) (s.heap.objs.size+ss.length) (s.heap.objs.size+ss.length+1) .none:=by rw[<- e4,<- y3];exact Zzj _ rfl
  show R (.ok (.ret (.ref h3.objs.size))) _;rw[y3];exact hq h4 ⟨g4,k4 _ _ (k3 _ _ g2),⟨_,by rw[Zzz,ln,Lw],k4 _ _ g3⟩,λq hm=>(a1 q hm).keep λo e=>k4 _ _ (k3 _ _ (k2 _ _ e))⟩ λc o e=>k4 _ _ (k3 _ _ (k2 _ _ (a3 c o e)))
theorem jp(few:ss.length<=100)(t1:checkTypeCall "zip" ⟨ss.map (λa=>.ref a.2.1),[]⟩=pure ())(t2:checkBuiltinCall "zip.__new__" ⟨.type "zip" :: ss.map (λa=>.ref a.2.1),[]⟩=pure ())(t3:∀obj,argsOk "object.__init__" ⟨obj::ss.map (λa=>.ref a.2.1),[]⟩)
  (hs:∀q∈Fg s.heap.objs.size ss,∃xs,q.has s.heap xs) (hq:∀h',ZSt (s.heap.objs.size+ss.length+2) (s.heap.objs.size+ss.length) (s.heap.objs.size+ss.length+1) (Fg s.heap.objs.size ss) .none 0 h'->(∀c o,s.heap.get? c=some o->h'.get? c=some o)->Q (.ref (s.heap.objs.size+ss.length+2)) {s with heap:=h'}) :
  wpAny (model P w) A (call (.type "zip") (ss.map λa=>.ref a.2.1)) Q E s :=
 callType_new F.called_zip (by decide) t1 t2 t3 F.entry_zip_new (au ss few) ⟨hs,λh' st kp=>⟨⟨_,st.1,rfl⟩,hq h' st kp⟩⟩
end
def Zq.ok(K:Zzy)(H:Hp)(q:Zq):Prop:=(q.t=false/\H q.l=some (.lst q.vs))\/(q.t=true/\SqT K H q.l q.vs)
section
variable {qs:List Zq}
theorem Zq.ok.vals{q:Zq}(h:q.ok X.K H)(I:Inv X pins σ H s):∃xs,AC q.vs xs/\q.has s.heap xs/\q.l<s.heap.objs.size:=by
 rcases h with ⟨e,h⟩ | ⟨e,h⟩
 ·let⟨its,rv,hl,lt⟩:=C6 I h;exact⟨its,rv,.l e hl,lt⟩
 ·let⟨its,rv,hl,_⟩:=I.tuple h;exact⟨its,rv,.u e hl,by let⟨o,ho,_⟩:=hl;exact Zzo ho⟩
theorem cw(I:Inv X pins σ H s)(h:∀q∈qs,q.ok X.K H):∃f:Zq->List Value,∀q∈qs,AC q.vs (f q)/\q.has s.heap (f q):=by
 have:∀q:Zq,∃xs,q∈qs->AC q.vs xs/\q.has s.heap xs:=λq=>by
  by_cases m:q∈qs
  ·let⟨xs,h1,h2,_⟩:=(h q m).vals I;exact⟨xs,λ_=>⟨h1,h2⟩⟩
  ·exact⟨[],λz=>absurd z m⟩
 exact Classical.skolem.mp this
theorem Xl{f:Zq->List Value}:∀{qs:List Zq} {ys:List Value},(∀q∈qs,AC q.vs (f q))->Rw f i qs ys->∃us,AC us ys/\us.length=qs.length/\qs.map (λq=>q.vs[i]?)=us.map some
 |[],ys,_,hr=>by
  obtain rfl:ys=[]:=by have:[]=ys.map some:=hr;simpa using this.symm
  exact⟨[],.nil,rfl,rfl⟩
 |q::r,ys,h,hr=>by
  unfold Rw at hr;rw[Zzk] at hr;match ys,hr with
  |y::ys,hr =>
   let⟨us,u1,u2,u3⟩:=Xl (λp hp=>h p (Zzs _ hp)) (Zy7 hr).2;have e:=(Zy7 hr).1;have v:=h q Zzq;have lt:i<q.vs.length:=by rw[v.length];exact(Zzf.mp e).1
   let⟨u,e2,ru⟩:=v.get (x:=q.vs[i]) (i:=i) (Zzl lt);rw[e] at e2;cases e2;exact⟨q.vs[i]::us,.cons ru u1,congrArg (·+1) u2,by rw[Zzk,Zzk,u3,Zzl lt]⟩
theorem gy{k:Nat}{z TI TO:Addr}(D:Za z TI TO qs)(hn:(∀q∈qs,n<=q.vs.length)/\∃q∈qs,q.vs.length=n)(go:∀i H,J.go i H->(∀q∈qs,q.ok K H)/\i<n)(yld:∀i H p us,J.go i H->H p=none->qs.map (λq=>q.vs[i]?)=us.map some->J.yld i H (.ref p) (upd H p (.tup us)))(stop:∀i H,J.stop i H->(∀q∈qs,q.ok K H)/\i=n) :
  Nt P w K (.Tuple elts k pos) J (z::TI::TO::qs.map (·.it)) z (ZSt z TI TO qs .none):=by
 have objs:∀(i:Nat) (h:Heap),ZSt z TI TO qs .none i h->∀c∈z::TI::TO::qs.map (·.it),∃o,h.get? c=some o/\∀v,o.data≠.cell v:=by
  rintro i h ⟨hz,hT,⟨os,_,hO⟩,ho⟩ c hc;simp only[Zzw] at hc;rcases hc with rfl | rfl | rfl | e
  ·exact⟨_,hz,λ_ y=>by cases y⟩
  ·exact⟨_,hT,λ_ y=>by cases y⟩
  ·exact⟨_,hO,λ_ y=>by cases y⟩
  ·let⟨q,hm,rfl⟩:=Zzt.mp e;exact(ho q hm).obj
 have sub:∀c∈z::TO::qs.map (·.it),c∈z::TI::TO::qs.map (·.it):=λc hc=>by
  simp only[Zzw] at hc ⊢;rcases hc with q | q
  ·exact .inl q
  ·exact .inr (.inr q)
 have zn:∀{f:Zq->List Value},(∀q∈qs,AC q.vs (f q))->Zn f qs n:=λhf=>⟨λq hm=>by rw[<- (hf q hm).length];exact hn.1 q hm,by let⟨q,hm,e⟩:=hn.2;exact⟨q,hm,by rw[<- (hf q hm).length];exact e⟩⟩;refine⟨by simp,objs,?_,?_,?_,?_⟩
 ·rintro i h h' ⟨hz,hT,⟨os,lo,hO⟩,ho⟩ kp;exact⟨kp z (by simp) _ hz,kp TI (by simp) _ hT,⟨os,lo,kp TO (by simp) _ hO⟩,λq hm=>(ho q hm).keep λo e=>kp _ (by simp only[Zzw];exact .inr (.inr (.inr (Zxy hm)))) o e⟩
 ·intro X hP hw hK hc i pins s σ H E I hf st hg;subst hP hw hK;let⟨ok,hlt⟩:=go i H hg;let⟨f,ff⟩:=cw I ok;refine thn (rh (E:=E) (Po (I.ok.hd hc) D (zn λq hm=>(ff q hm).1)) hlt I ⟨st,λq hm=>(ff q hm).2⟩ (λc hc=>hf c (sub c hc)) (Y:=λus=>qs.map (λq=>q.vs[i]?)=us.map some) λvals hr=>?_) λr t1 ⟨u,hr,h3⟩=>⟨u,hr,thn h3 λ_ t2 ⟨p,us,hu,hp,hn,I2,hY,st2⟩=>?_⟩
  ·let⟨us,u1,u2,u3⟩:=Xl (λq hm=>(ff q hm).1) hr;exact⟨us,u1,by have:=D.few;lia,u3⟩
  subst hu;refine⟨.ref p,_,I2,rfl,yld i H p us hg hn hY,st2.1,λc hc=>?_⟩;let⟨o,ho,_⟩:=objs i _ st c hc;rw[A6 (B9 (Zzo ho) hp)];exact(hf c hc).1
 ·intro X hP hw hK hc i pins s σ H E I hf st hg;subst hP hw hK;let⟨ok,rfl⟩:=stop i H hg;let⟨f,ff⟩:=cw I ok;exact(Po (I.ok.hd hc) D (zn λq hm=>(ff q hm).1)).done s _ E ⟨st,λq hm=>(ff q hm).2⟩ λh' tk hk=>⟨rfl,I.turnedL hk λc hc=>hf c (sub c hc)⟩
 ·intro A i s Q E st h;exact wpAny_pyIter_zip st.1 h
def okZ(K:Zzy)(H:Hp)(a:Bool×Addr×List V):Prop:=(a.1=false/\H a.2.1=some (.lst a.2.2))\/(a.1=true/\SqT K H a.2.1 a.2.2)
structure Zj(K:Zzy)(ss:List (Bool×Addr×List V))(n:Nat)(J:It):Prop where
 le:∀a∈ss,n<=a.2.2.length
 eq:∃a∈ss,a.2.2.length=n
 go:∀i H,J.go i H->(∀a∈ss,okZ K H a)/\i<n
 yld:∀i H p us,J.go i H->H p=none->ss.map (λa=>a.2.2[i]?)=us.map some->J.yld i H (.ref p) (upd H p (.tup us))
 stop:∀i H,J.stop i H->(∀a∈ss,okZ K H a)/\i=n
theorem Ia:∀{m:Nat} {ss:List (Bool×Addr×List V)} {q:Zq},q∈Fg m ss->(q.t,q.l,q.vs)∈ss/\∃j:Nat,j<ss.length/\q.it=m+j
 |m,[],q,h=>by cases h
 |m,a::r,q,h=>by
  rcases Zzw.mp h with rfl | h
  ·exact⟨Zzq,0,Nat.zero_lt_succ _,rfl⟩
  ·let⟨h1,j,h2,h3⟩:=Ia h;exact⟨Zzs _ h1,j+1,Nat.succ_lt_succ h2,h3.trans (by show m+1+j=m+(j+1);lia)⟩
theorem fo{α:Type}{g:List V->α}:∀{m:Nat} {ss:List (Bool×Addr×List V)},(Fg m ss).map (λq=>g q.vs)=ss.map λa=>g a.2.2
 |m,[]=>rfl
 |m,a::r=>by rw[Zzk,<- fo (m:=m+1)];rfl
theorem qw:∀{ss:List (Bool×Addr×List V)} {m:Nat} {a:Bool×Addr×List V},a∈ss->∃q∈Fg m ss,q.vs=a.2.2
 |b::r,m,a,h=>by
  rcases Zzw.mp h with rfl | h
  ·exact⟨_,Zzq,rfl⟩
  ·let⟨q,h1,h2⟩:=qw (ss:=r) (m:=m+1) h;exact⟨q,Zzs _ h1,h2⟩
theorem qx:∀{m:Nat} {ss:List (Bool×Addr×List V)},((Fg m ss).map (·.it)).Nodup
 |m,[]=>Zuy
 |m,a::r=>by
  show (m::(Fg (m+1) r).map (·.it)).Nodup;refine Zye.mpr ⟨λh=>?_,qx⟩;let⟨q,hq,e⟩:=Zzt.mp h;let⟨j,_,ej⟩:=(Ia hq).2;have e:m+1+j=m:=ej.symm.trans e;lia
theorem U6:∀{as:List Addr} {us:List Value},AC (as.map V.ref) us->us=as.map Value.ref
 |[],us,h=>by cases h;rfl
 |a::r,us,h=>by
  cases h with
  |cons ru hr =>
   cases ru;rw[U6 hr];rfl
theorem V7{k:Nat}{pt p:Pos}{ta:TA}{C:List V->Hp->(It->Hp->Prop)->Prop}(hg:Gl X "zip")(hm:X.mg "zip" = none)(ha:PA X (e::es) ta)(hn:Bw (e::es)=true)
  (hC:∀vs H1 R,C vs H1 R->∃ss n J,vs=(ss.map (·.2.1)).map V.ref/\ss≠[]/\ss.length<=100/\(∀us,us=ss.map (λa=>Value.ref a.2.1)->checkTypeCall "zip" ⟨us,[]⟩=pure ()/\checkBuiltinCall "zip.__new__" ⟨.type "zip" :: us,[]⟩=pure ()/\∀obj,argsOk "object.__init__" ⟨obj::us,[]⟩)/\Zj X.K ss n J/\(∀a∈ss,okZ X.K H1 a)/\R J H1) :
  PI X (.Tuple elts k pt) (.Call (.Name "zip" p) (e::es) [] pos) (λσ H R=>ta σ H λvs H1=>C vs H1 R):=by
 intro pins s σ H R I h;refine Call_ (Gz I hg hm NP.A2b (Zxp (thn (ha pos pins s σ H _ I h) λus s1 ⟨vs,H1,I1,r1,q1⟩=>?_) (B6 (B2 hn).1) (C7 (B2 hn).2)));let⟨ss,n,J,e,ne,few,ck,zj,ok,q⟩:=hC _ _ _ q1;subst e;have eu:us=ss.map λa=>Value.ref a.2.1:=by rw[U6 r1,Zyq];rfl
 let⟨t1,t2,t3⟩:=ck us eu;subst eu;have okq:∀{H:Hp},(∀a∈ss,okZ X.K H a)->∀q∈Fg s1.heap.objs.size ss,q.ok X.K H:=λh q hm=>h _ (Ia hm).1;refine jp few t1 t2 t3 (λq hm=>?_) λh' st hk=>wpAny_pyIter_zip st.1 ?_
 ·let⟨xs,_,hx,_⟩:=(okq ok q hm).vals I1;exact⟨xs,hx⟩
 have I2:Inv X pins σ H1 {s1 with heap:=h'}:=I1.kept (t':=s1.toks) hk;have D:Za (s1.heap.objs.size+ss.length+2) (s1.heap.objs.size+ss.length) (s1.heap.objs.size+ss.length+1) (Fg s1.heap.objs.size ss):=by
  have no:∀m:Nat,s1.heap.objs.size+ss.length<=m->m∉(Fg s1.heap.objs.size ss).map (·.it):=λm hm h=>by
   let⟨q,hq,e⟩:=Zzt.mp h;let⟨j,hj,ej⟩:=(Ia hq).2;have e:s1.heap.objs.size+j=m:=ej.symm.trans e;lia
  refine⟨?_,λq hm h=>?_,λz=>?_,by rw[Lw];exact few⟩
  ·simp only[Zye,Zzw,not_or];exact⟨⟨by show ¬ _+2=(_:Nat);lia,by show ¬ _+2=(_+1:Nat);lia,no _ (by lia)⟩,⟨by show ¬ _=(_+1:Nat);lia,no _ (by lia)⟩,no _ (by lia),qx⟩
  ·let⟨_,_,_,lt⟩:=(okq ok q hm).vals I1;simp only[Zzw] at h;rcases h with h | h | h
   ·rw[h] at lt;exact absurd lt (by show ¬ s1.heap.objs.size+ss.length+2<s1.heap.objs.size;lia)
   ·rw[h] at lt;exact absurd lt (by show ¬ s1.heap.objs.size+ss.length+1<s1.heap.objs.size;lia)
   ·let⟨p,hp,e⟩:=Zzt.mp h;let⟨j,_,ej⟩:=(Ia hp).2;rw[show q.l=s1.heap.objs.size+j from e.symm.trans ej] at lt;exact absurd lt (by show ¬ s1.heap.objs.size+j<s1.heap.objs.size;lia)
  ·have:=congrArg Zxn z
   rw[Lw] at this;exact ne (List.length_eq_zero_iff.mp this)
 refine⟨_,_,_,J,H1,rfl,I2,gy (n:=n) D ⟨λq hm=>zj.le _ (Ia hm).1,?_⟩ (λi H h=>⟨okq (zj.go i H h).1,(zj.go i H h).2⟩) (λi H p us h hp er=>zj.yld i H p us h hp ((fo (g:=λl:List V=>l[i]?)).symm.trans er)) λi H h=>⟨okq (zj.stop i H h).1,(zj.stop i H h).2⟩,st,λc hc=>?_,q⟩
 ·let⟨a,hm,e⟩:=zj.eq;let⟨q,h1,h2⟩:=qw (m:=s1.heap.objs.size) hm;exact⟨q,h1,by rw[h2];exact e⟩
 have hb':s1.heap.objs.size<=c:=by
  simp only[Zzw] at hc;rcases hc with h | h | h | h
  ·rw[h];exact Zzp (Zwq _ _) (Zwq _ 2)
  ·rw[h];exact Zwq _ _
  ·rw[h];exact Zzp (Zwq _ _) (Zwq _ 1)
  ·let⟨q,hm,e⟩:=Zzt.mp h;let⟨j,_,ej⟩:=(Ia hm).2;rw[<- e];show s1.heap.objs.size<=q.it;rw[ej];exact Zwq _ _
 exact I1.fpOk hb' (I1.hok.fresh hb')
theorem ok2(u v:Value):∀us,us=[u,v]->checkTypeCall "zip" ⟨us,[]⟩=pure ()/\checkBuiltinCall "zip.__new__" ⟨.type "zip" :: us,[]⟩=pure ()/\∀obj,argsOk "object.__init__" ⟨obj::us,[]⟩:=λus e=>by
 subst e;exact⟨F.typeCall_zip_2 _ _,F.newCall_zip_2 _ _,λobj=>F.args_object_init_3 obj _ _⟩
theorem A1d{us:List V}{x y:Option V}(h:[x,y]=us.map some):∃u v,x=some u/\y=some v/\us=[u,v]:=by
 match us,h with
 |[u,v],h=>exact⟨u,v,(Zy7 h).1,(Zy7 (Zy7 h).2).1,rfl⟩
theorem A3n{α:Type}(xs ys:List α):min xs.length ys.length<=xs.length/\min xs.length ys.length<=ys.length/\(xs.length=min xs.length ys.length\/ys.length=min xs.length ys.length):=⟨Nat.min_le_left _ _,Nat.min_le_right _ _,by lia⟩
theorem ex2{α:Type}{p:α->Prop}{a b:α}(h:p a\/p b):∃x∈[a,b],p x:=by
 rcases h with h | h
 ·exact⟨a,by simp,h⟩
 ·exact⟨b,by simp,h⟩
theorem X0{α:Type}{p:α->Prop}{a b:α}(h1:p a)(h2:p b):∀x∈[a,b],p x:=λx hx=>by
 simp only[Zzw,Zz2,or_false] at hx;rcases hx with rfl | rfl
 ·exact h1
 ·exact h2
def A2o(a b:Addr)(xs ys:List V):It:=⟨λi H=>H a=some (.lst xs)/\H b=some (.lst ys)/\i<min xs.length ys.length,
 λi H x H'=>∃p y z,x=.ref p/\H p=none/\xs[i]?=some y/\ys[i]?=some z/\H'=upd H p (.tup [y,z]),λi H=>H a=some (.lst xs)/\H b=some (.lst ys)/\i=min xs.length ys.length⟩
theorem bf(a b:Addr)(xs ys:List V):Uv (A2o a b xs ys) (min xs.length ys.length) (λi us=>∃y z,xs[i]?=some y/\ys[i]?=some z/\us=[y,z]) (λH=>H a=some (.lst xs)/\H b=some (.lst ys)) :=
 ⟨λi H h o=>⟨o.1,o.2,h⟩,λi H x H' h o y=>by let⟨p,u,v,e1,e2,e3,e4,e5⟩:=y;exact⟨p,_,e1,e2,e5,u,v,e3,e4,rfl⟩,λH o=>⟨o.1,o.2,rfl⟩⟩
def A0l(ta:TA):TI:=λσ H R=>ta σ H λvs H1=>∃a b xs ys,vs=[.ref a,.ref b]/\H1 a=some (.lst xs)/\H1 b=some (.lst ys)/\R (A2o a b xs ys) H1
theorem V8{k:Nat}{pt p:Pos}{ta:TA}(hg:Gl X "zip")(hm:X.mg "zip" = none)(ha:PA X [e,e2] ta)(hn:Bw [e,e2]=true:=by rfl):PI X (.Tuple elts k pt) (.Call (.Name "zip" p) [e,e2] [] pos) (A0l ta) :=
 V7 hg hm ha hn λvs H1 R h=>by
  let⟨a,b,xs,ys,rfl,h1,h2,q⟩:=h;let⟨m1,m2,m3⟩:=A3n xs ys;refine⟨[(false,a,xs),(false,b,ys)],_,A2o a b xs ys,rfl,(λz=>by cases z),by show 2<=100;decide,ok2 _ _,⟨X0 m1 m2,ex2 m3,λi H h=>⟨X0 (.inl ⟨rfl,h.1⟩) (.inl ⟨rfl,h.2.1⟩),h.2.2⟩,λi H p us _ hp er=>?_,λi H h=>⟨X0 (.inl ⟨rfl,h.1⟩) (.inl ⟨rfl,h.2.1⟩),h.2.2⟩⟩,X0 (.inl ⟨rfl,h1⟩) (.inl ⟨rfl,h2⟩),q⟩;let⟨u,v,e1,e2,rfl⟩:=A1d er;exact⟨p,u,v,rfl,hp,e1,e2,rfl⟩
def A2n(a b c:Addr)(xs ys zs:List V):It:=⟨λi H=>(H a=some (.lst xs)/\H b=some (.lst ys)/\H c=some (.lst zs))/\i<min xs.length (min ys.length zs.length),
 λi H x H'=>∃p y z v,x=.ref p/\H p=none/\xs[i]?=some y/\ys[i]?=some z/\zs[i]?=some v/\H'=upd H p (.tup [y,z,v]),λi H=>(H a=some (.lst xs)/\H b=some (.lst ys)/\H c=some (.lst zs))/\i=min xs.length (min ys.length zs.length)⟩
theorem A25(a b c:Addr)(xs ys zs:List V):Uv (A2n a b c xs ys zs) (min xs.length (min ys.length zs.length)) (λi us=>∃y z v,xs[i]?=some y/\ys[i]?=some z/\zs[i]?=some v/\us=[y,z,v]) (λH=>H a=some (.lst xs)/\H b=some (.lst ys)/\H c=some (.lst zs)) :=
 ⟨λi H h o=>⟨o,h⟩,λi H x H' h o y=>by let⟨p,u,v,w,e1,e2,e3,e4,e5,e6⟩:=y;exact⟨p,_,e1,e2,e6,u,v,w,e3,e4,e5,rfl⟩,λH o=>⟨o,rfl⟩⟩
def A0k(ta:TA):TI:=λσ H R=>ta σ H λvs H1=>∃a b c xs ys zs,vs=[.ref a,.ref b,.ref c]/\H1 a=some (.lst xs)/\H1 b=some (.lst ys)/\H1 c=some (.lst zs)/\R (A2n a b c xs ys zs) H1
theorem ok3(a b c:Value):∀us,us=[a,b,c]->checkTypeCall "zip" ⟨us,[]⟩=pure ()/\checkBuiltinCall "zip.__new__" ⟨.type "zip" :: us,[]⟩=pure ()/\∀obj,argsOk "object.__init__" ⟨obj::us,[]⟩:=λus e=>by
 subst e;refine⟨by kernel_rfl,by kernel_rfl,λd=>?_⟩;unfold argsOk;rw[signature?_of (id := "object.__init__") (n:=['_','_','t','i','n','i','_','_']) (o:=['t','c','e','j','b','o']) (by kernel_rfl) F.owner_object];kernel_rfl
theorem wj{k:Nat}{pt p:Pos}{e3:Expr}{ta:TA}(hg:Gl X "zip")(hm:X.mg "zip" = none)(ha:PA X [e,e2,e3] ta)(hn:Bw [e,e2,e3]=true:=by rfl):PI X (.Tuple elts k pt) (.Call (.Name "zip" p) [e,e2,e3] [] pos) (A0k ta) :=
 V7 hg hm ha hn λvs H1 R h=>by
  let⟨a,b,c,xs,ys,zs,rfl,h1,h2,h3,q⟩:=h;have al:∀{p:Bool×Addr×List V->Prop},p (false,a,xs)->p (false,b,ys)->p (false,c,zs)->∀x∈[(false,a,xs),(false,b,ys),(false,c,zs)],p x:=λp1 p2 p3 x hx=>by
   rcases Zzw.mp hx with rfl | hx
   ·exact p1
   ·exact X0 p2 p3 x hx
  refine⟨[(false,a,xs),(false,b,ys),(false,c,zs)],min xs.length (min ys.length zs.length),A2n a b c xs ys zs,rfl,(λz=>by cases z),by show 3<=100;decide,ok3 _ _ _,⟨al (by show _<=xs.length;lia) (by show _<=ys.length;lia) (by show _<=zs.length;lia),?_,λi H h=>⟨al (.inl ⟨rfl,h.1.1⟩) (.inl ⟨rfl,h.1.2.1⟩) (.inl ⟨rfl,h.1.2.2⟩),h.2⟩,λi H p us _ hp er=>?_,λi H h=>⟨al (.inl ⟨rfl,h.1.1⟩) (.inl ⟨rfl,h.1.2.1⟩) (.inl ⟨rfl,h.1.2.2⟩),h.2⟩⟩,al (.inl ⟨rfl,h1⟩) (.inl ⟨rfl,h2⟩) (.inl ⟨rfl,h3⟩),q⟩
  ·by_cases e:xs.length=min xs.length (min ys.length zs.length)
   ·exact⟨_,Zzq,e⟩
   ·let⟨x,hx,ex⟩:=ex2 (p:=λa:Bool×Addr×List V=>a.2.2.length=min xs.length (min ys.length zs.length)) (a:=(false,b,ys)) (b:=(false,c,zs)) (by show ys.length=_\/zs.length=_;lia);exact⟨x,Zzs _ hx,ex⟩
  ·match us,er with
   |u::us,er =>
    let⟨v,w,e1,e2,rfl⟩:=A1d (Zy7 er).2;exact⟨p,u,v,w,rfl,hp,(Zy7 er).1,e1,e2,rfl⟩
def A2m(K:Zzy)(a b:Addr)(xs ys:List V):It:=⟨λi H=>H a=some (.lst xs)/\SqT K H b ys/\i<min xs.length ys.length,
 λi H x H'=>∃p y z,x=.ref p/\H p=none/\xs[i]?=some y/\ys[i]?=some z/\H'=upd H p (.tup [y,z]),λi H=>H a=some (.lst xs)/\SqT K H b ys/\i=min xs.length ys.length⟩
theorem sg(K:Zzy)(a b:Addr)(xs ys:List V):Uv (A2m K a b xs ys) (min xs.length ys.length) (λi us=>∃y z,xs[i]?=some y/\ys[i]?=some z/\us=[y,z]) (λH=>H a=some (.lst xs)/\SqT K H b ys) :=
 ⟨λi H h o=>⟨o.1,o.2,h⟩,λi H x H' h o y=>by let⟨p,u,v,e1,e2,e3,e4,e5⟩:=y;exact⟨p,_,e1,e2,e5,u,v,e3,e4,rfl⟩,λH o=>⟨o.1,o.2,rfl⟩⟩
def A0j(K:Zzy)(ta:TA):TI:=λσ H R=>ta σ H λvs H1=>∃a b xs ys,vs=[.ref a,.ref b]/\H1 a=some (.lst xs)/\SqT K H1 b ys/\R (A2m K a b xs ys) H1
theorem e8{k:Nat}{pt p:Pos}{ta:TA}(hg:Gl X "zip")(hm:X.mg "zip" = none)(ha:PA X [e,e2] ta)(hn:Bw [e,e2]=true:=by rfl):PI X (.Tuple elts k pt) (.Call (.Name "zip" p) [e,e2] [] pos) (A0j X.K ta) :=
 V7 hg hm ha hn λvs H1 R h=>by
  let⟨a,b,xs,ys,rfl,h1,h2,q⟩:=h;let⟨m1,m2,m3⟩:=A3n xs ys;refine⟨[(false,a,xs),(true,b,ys)],_,A2m X.K a b xs ys,rfl,(λz=>by cases z),by show 2<=100;decide,ok2 _ _,⟨X0 m1 m2,ex2 m3,λi H h=>⟨X0 (.inl ⟨rfl,h.1⟩) (.inr ⟨rfl,h.2.1⟩),h.2.2⟩,λi H p us _ hp er=>?_,λi H h=>⟨X0 (.inl ⟨rfl,h.1⟩) (.inr ⟨rfl,h.2.1⟩),h.2.2⟩⟩,X0 (.inl ⟨rfl,h1⟩) (.inr ⟨rfl,h2⟩),q⟩;let⟨u,v,e1,e2,rfl⟩:=A1d er;exact⟨p,u,v,rfl,hp,e1,e2,rfl⟩
end
theorem Iv{t u:TS}{D:AX}(M:St->Hp->Prop)(hrest:∀σ' H',M σ' H'->u D σ' H')(h:∀KK:St->Hp->Prop,(∀σ' H',M σ' H'->KK σ' H')->t {D with nx:=KK} σ H):Kl t u D σ H:=h (u D) hrest
theorem u9{t t2 u:TS}{D:AX}(M:St->Hp->Prop)(hrest:∀σ' H',M σ' H'->u D σ' H')(h:∀KK:St->Hp->Prop,(∀σ' H',M σ' H'->KK σ' H')->t {D with nx:=λσ H=>t2 {D with nx:=KK} σ H} σ H):Kl t (Kl t2 u) D σ H:=h (u D) hrest
theorem A4d{t t2 t3 u:TS}{D:AX}(M:St->Hp->Prop)(hrest:∀σ' H',M σ' H'->u D σ' H')
  (h:∀KK:St->Hp->Prop,(∀σ' H',M σ' H'->KK σ' H')->t {D with nx:=λσ H=>t2 {D with nx:=λσ H=>t3 {D with nx:=KK} σ H} σ H} σ H):Kl t (Kl t2 (Kl t3 u)) D σ H:=h (u D) hrest
theorem E6(h:H a=some (.lst xs)):Ps H (.ref a)=some "list" := by unfold Ps;simp only[h]
theorem A0w(h:H a=some (.tup xs)):Ps H (.ref a)=some "tuple" := by unfold Ps;simp only[h]
theorem gt2{x y:V}{Q:St->Hp->Prop}(e:H p=some (.tup [x,y]))(h:Q ((σ.set i (some x)).set j (some y)) H):sj K 2 (Ki (E3 i) (Ki (E3 j) EI)) (.ref p) σ H Q :=
 ⟨p,_,rfl,SqT.of e,rfl,_,_,rfl,_,_,rfl,rfl,h⟩
theorem Inv.freeze(I:Inv X pins σ H s)(h:H a=some (.dK kvs)):∃o,s.heap.get? a=some o/\Inv X pins σ (upd H a (.frz o (.dK kvs))) s:=by
 let⟨hz,hS,vs,r,o,es,ep,ho,AO⟩:=I.hok a _ h;have ne:∀b u,H b=some u->u≠.dK kvs->b≠a:=λb u e n z=>by rw[z,h] at e;exact n (Zzm e).symm
 refine⟨o,ho,I.un (t':=s.toks) ⟨λb ob e n _ _=>e,λb ob e n _ _=>⟨ob.slots,e⟩,λb ob e n _=>?_,λb ob e _=>⟨ob,e⟩,λb xs e=>?_,λb ob u e=>?_,λb ps e=>⟨#[],?_⟩⟩ λb u e=>?_⟩
 ·rw[A6 (λz=>by rw[z,h] at n;cases n)];exact n
 ·rw[A6 (ne b _ e (λz=>by cases z))];exact e
 ·rw[A6 (ne b _ e (λz=>by cases z))];exact e
 ·rw[A6 (ne b _ e (λz=>by cases z)),e];simp
 ·by_cases hb:b=a
  ·subst hb;rw[AA] at e;cases e;exact⟨ho,hz,hS,vs,r,o,es,ep,ho,AO⟩
  ·rw[A6 hb] at e;refine(I.hok b u e).stay (λ_ _ _ q=>q) (λc q=>?_) λc ys q=>?_
   ·rw[A6 (ne c _ q (λz=>by cases z))];exact q
   ·rw[A6 (ne c _ q (λz=>by cases z))];exact q
noncomputable def ItD(a:Addr)(o:Obj)(kvs:List (Key×V)):It:=⟨λi H=>H a=some (.frz o (.dK kvs))/\i<kvs.length,λi H x H'=>H'=H/\∃k v,kvs[i]?=some (k,v)/\x=kV k,λi H=>H a=some (.frz o (.dK kvs))/\kvs.length<=i⟩
theorem A0o(a:Addr)(o:Obj)(kvs:List (Key×V)):S3 (ItD a o kvs) kvs.length (λi x=>∃k v,kvs[i]?=some (k,v)/\x=kV k) (λH=>H a=some (.frz o (.dK kvs))) :=
 ⟨λ_ _ h o=>⟨o,h⟩,λ_ _ _ _ _ _ y=>y,λ_ o=>⟨o,Zzu _⟩⟩
theorem qz{κ:Type}:∀{kvs:List (κ×V)} {vs:List (κ×Value)} {i:Nat} {k:κ} {v:V},KV kvs vs->kvs[i]?=some (k,v)->∃u,vs[i]?=some (k,u)
 |_,_,_,_,_,.nil,e=>by simp at e
 |_,(k',u')::_,0,k,v,.cons r _,e=>by
  simp at e;subst e;exact⟨u',by simp;exact r.1.symm⟩
 |_,_::_,i+1,k,v,.cons _ t,e=>by
  let⟨u,h⟩:=qz (i:=i) t (by simpa using e);exact⟨u,by simpa using h⟩
theorem A0i{k:Key}(h:(B3 P w).is k u=true):AE (kV k) u:=by
 rcases C4 h with ⟨i,t,rfl,rfl⟩ | ⟨x,t,rfl,rfl⟩
 ·exact⟨t,rfl⟩
 ·exact⟨t,rfl⟩
theorem i3(a it:Addr)(o:Obj)(kvs:List (Key×V))(es:Array DictEntry)(ep:Nat)(hd:o.data=.dict es ep) :
  Nt P w K tg (ItD a o kvs) [it] it (λi h=>h.IsKeyIter it a i kvs.length ep) where
 mem:=by simp
 obj:=λi h st b hb=>by
  have e:b=it:=by simpa using hb
  subst e;let⟨o,e,c,d⟩:=st;exact⟨o,e,λv z=>by rw[d] at z;cases z⟩
 keep:=λi h h' st k=>st.at λo e=>k it (by simp) o e;item:=by
  intro X hP hw hK hc i pins s σ H E I hf st hg;subst hP hw hK;let⟨hq,hlt⟩:=hg;let⟨ho,hz,hS,vs,rel,o',es',ep',ho',c',d',kk,pp,nn⟩:=I.hok a _ hq;rw[ho] at ho';cases ho';rw[hd] at d';cases d';have hm:s.heap.DictAt (B3 X.prog X.w) a vs ep:=⟨o,es,ho,c',hd,kk,pp,nn⟩;let⟨f0,f1,f2,f3,f4,f5⟩:=hf it (by simp);have hlen:kvs.length=vs.length:=rel.length;let⟨u,hu⟩:=qz (k:=kvs[i].1) (v:=kvs[i].2) (i:=i) rel (by simp[hlt]);have st':s.heap.IsKeyIter it a i vs.length ep:=by rw[<- hlen];exact st
  refine wpAny_pyNext_dict_item st' hm hu λkey h' hk hit sb=>?_;have I1:Inv X pins σ H {s with heap:=h'}:=I.turned (t':=s.toks) (λb o hb e=>(sb.2 b hb).trans e) f0 f1 f3 f4 f5;let⟨oi,ei,ci,di⟩:=id hit;refine⟨key,rfl,Ue (s:={s with heap:=h'}) ei ci di (by decide) ⟨kV kvs[i].1,H,I1,A0i hk,⟨rfl,kvs[i].1,kvs[i].2,by simp[hlt],rfl⟩,?_,λb hb=>(hf b hb).1⟩⟩;rw[hlen];exact hit
 done:=by
  intro X hP hw hK hc i pins s σ H E I hf st hg;subst hP hw hK;let⟨hq,hlt⟩:=hg;let⟨ho,hz,hS,vs,rel,o',es',ep',ho',c',d',kk,pp,nn⟩:=I.hok a _ hq;rw[ho] at ho';cases ho';rw[hd] at d';cases d';have hm:s.heap.DictAt (B3 X.prog X.w) a vs ep:=⟨o,es,ho,c',hd,kk,pp,nn⟩;let⟨f0,f1,f2,f3,f4,f5⟩:=hf it (by simp);have hlen:kvs.length=vs.length:=rel.length;have st':s.heap.IsKeyIter it a i vs.length ep:=by rw[<- hlen];exact st
  exact wpAny_pyNext_dict_end (I.ok.hd hc) st' hm (by simp;lia) λh' eb=>⟨rfl,I.turned (t':=s.toks) (λb o hb e=>eb b o hb e) f0 f1 f3 f4 f5⟩
 self:=λ_ _ _ _ _ st h=>wpAny_pyIter_keyiter st h
def A3z(te:TE):TI:=λσ H R=>te σ H λx H1=>∃a kvs,x=.ref a/\H1 a=some (.dK kvs)/\∀o,R (ItD a o kvs) (upd H1 a (.frz o (.dK kvs)))
theorem ny{l:Expr}(hl:PE X l te):PI X tg l (A3z te):=by
 intro pins s σ H R I h;refine thn (hl pins s σ H _ I h) λv s1 z0=>?_;let⟨x,H1,I1,r1,q1⟩:=z0;let⟨a,kvs,e,ha,q⟩:=q1;subst e;cases r1;let⟨o,ho,I2⟩:=I1.freeze ha;let⟨hz,hS,vs,rel,o',es,ep,ho',c',d',kk,pp,nn⟩:=I1.hok a _ ha;rw[ho] at ho';cases ho';have hm:s1.heap.DictAt (B3 X.prog X.w) a vs ep:=⟨o,es,ho,c',d',kk,pp,nn⟩;have hlen:kvs.length=vs.length:=rel.length;refine wpAny_pyIter_dict hS hm ?_;refine⟨s1.heap.objs.size,[s1.heap.objs.size],_,_,_,rfl,I2.kept (t':=s1.toks) λb o e=>Zzv _ e,i3 a _ o kvs es ep d',?_,λb hb=>?_,q o⟩
 ·rw[hlen];exact⟨_,Zzj _ rfl,rfl,rfl⟩
 ·have e:b=s1.heap.objs.size:=by simpa using hb
  subst e;exact I2.fpOk (Zzu _) (I2.hok.fresh (Zzu _))
def zu(ta:TE):TT:=λσ H Q=>ta σ H λx H'=>∃a xs,x=.ref a/\H' a=some (.lst xs)/\Q (!xs.isEmpty) H'
def zw(ta:TE):TT:=λσ H Q=>ta σ H λx H'=>∃a kvs,x=.ref a/\H' a=some (.dK kvs)/\Q (!kvs.isEmpty) H'
theorem dz{a:Expr}(ha:PE X a ta)(he:∀whole,isTrue a X.env whole=(do let v <- whole;standAt a.pos;holding [v] (truthy v)):=by intro _;rfl):PT X a (zu ta):=by
 intro pins s σ H Q I h;refine isTrue_plain (thn (ha pins s σ H _ I h) λv s1 ⟨x,H1,I1,r1,q1⟩=>?_) (he _);let⟨a,xs,e,hx,q⟩:=q1;exact Zh pins s1 σ H1 x v Q I1 r1 ⟨_,by subst e;exact .inl ⟨xs,SqL.of hx,rfl⟩,q⟩
theorem wf{a:Expr}(ha:PE X a ta)(he:∀whole,isTrue a X.env whole=(do let v <- whole;standAt a.pos;holding [v] (truthy v)):=by intro _;rfl):PT X a (zw ta):=by
 intro pins s σ H Q I h;refine isTrue_plain (thn (ha pins s σ H _ I h) λv s1 ⟨x,H1,I1,r1,q1⟩=>?_) (he _);let⟨a,xs,e,hx,q⟩:=q1;exact Zh pins s1 σ H1 x v Q I1 r1 ⟨_,by subst e;exact .inr (.inr ⟨xs,hx,rfl⟩),q⟩
mutual
def D5:PyData->Bool
 |.none | .bool _ | .int _ | .str _=>true
 |.list _=>false
 |.tuple ds=>Cn ds
 |.dict _=>false
def Cn:List PyData->Bool
 |[]=>true
 |d::ds=>D5 d&&Cn ds
end
def AZ(H H':Hp):Prop:=∀a xs,H a=some (.tup xs)->H' a=some (.tup xs)
theorem AZ.trans{H2:Hp}(a:AZ H H1)(b:AZ H1 H2):AZ H H2:=λc xs h=>b c xs (a c xs h)
theorem AB.ku(s:AB H H'):AZ H H':=λa xs h=>s a _ h
theorem r0{o u:HO}(h:H p=some u)(n:∀xs,u≠.tup xs):AZ H (upd H p o):=λa xs e=>by
 rw[A6 (λz=>by rw[z,h] at e;exact n xs (Zzm e))];exact e
mutual
theorem RD.ku(k:AZ H H'):∀(d:PyData) (v:V),D5 d=true->RD H d v->RD H' d v
 |.none,v,_,h=>by rw[RD] at h ⊢;exact h
 |.bool b,v,_,h=>by rw[RD] at h ⊢;exact h
 |.int i,v,_,h=>by rw[RD] at h ⊢;exact h
 |.str x,v,_,h=>by rw[RD] at h ⊢;exact h
 |.list ds,v,n,h=>by rw[D5] at n;cases n
 |.tuple ds,v,n,h=>by
  rw[D5] at n;rw[RD] at h ⊢;let⟨a,xs,e,ha,r⟩:=h;exact⟨a,xs,e,k a xs ha,RDs.ku k ds xs n r⟩
 |.dict _,v,n,h=>by rw[D5] at n;cases n
theorem RDs.ku(k:AZ H H'):∀(ds:List PyData) (xs:List V),Cn ds=true->RDs H ds xs->RDs H' ds xs
 |[],xs,_,h=>by rw[RDs] at h ⊢;exact h
 |d::ds,xs,n,h=>by
  rw[Cn,Zz1] at n;rw[RDs] at h ⊢;let⟨x,r,e,h1,h2⟩:=h;exact⟨x,r,e,RD.ku k d x n.1 h1,RDs.ku k ds r n.2 h2⟩
end
mutual
theorem RD.same(k:AB H H'):∀(d:PyData) (v:V),RD H d v->RD H' d v
 |.none,v,h=>by rw[RD] at h ⊢;exact h
 |.bool b,v,h=>by rw[RD] at h ⊢;exact h
 |.int i,v,h=>by rw[RD] at h ⊢;exact h
 |.str x,v,h=>by rw[RD] at h ⊢;exact h
 |.list ds,v,h=>by
  rw[RD] at h ⊢;let⟨a,xs,e,ha,r⟩:=h;exact⟨a,xs,e,k a _ ha,RDs.same k ds xs r⟩
 |.tuple ds,v,h=>by
  rw[RD] at h ⊢;let⟨a,xs,e,ha,r⟩:=h;exact⟨a,xs,e,k a _ ha,RDs.same k ds xs r⟩
 |.dict _,v,h=>by rw[RD] at h;exact h.elim
theorem RDs.same(k:AB H H'):∀(ds:List PyData) (xs:List V),RDs H ds xs->RDs H' ds xs
 |[],xs,h=>by rw[RDs] at h ⊢;exact h
 |d::ds,xs,h=>by
  rw[RDs] at h ⊢;let⟨x,r,e,h1,h2⟩:=h;exact⟨x,r,e,RD.same k d x h1,RDs.same k ds r h2⟩
end
theorem RDs.len:∀{ds:List PyData} {xs:List V},RDs H ds xs->xs.length=ds.length
 |[],xs,h=>by rw[RDs] at h;rw[h];rfl
 |d::ds,xs,h=>by
  rw[RDs] at h;let⟨x,r,e,_,h2⟩:=h;rw[e,Zyz,Zyz,RDs.len h2]
theorem RDs.get'{H:Hp}:∀{ds:List PyData} {xs:List V} {i:Nat} {x:V},RDs H ds xs->xs[i]?=some x->∃d,ds[i]?=some d/\RD H d x
 |[],xs,i,x,h,e=>by rw[RDs] at h;rw[h] at e;cases e
 |d::ds,xs,i,x,h,e=>by
  rw[RDs] at h;let⟨y,r,ey,h1,h2⟩:=h;rw[ey] at e;cases i with
  |zero=>cases e;exact⟨d,rfl,h1⟩
  |succ i=>exact RDs.get' (ds:=ds) (xs:=r) (i:=i) h2 (by simpa using e)
theorem RDs.app:∀{ds es:List PyData} {xs ys:List V},RDs H ds xs->RDs H es ys->RDs H (ds++es) (xs++ys)
 |[],es,xs,ys,h,h'=>by rw[RDs] at h;rw[h];exact h'
 |d::ds,es,xs,ys,h,h'=>by
  rw[RDs] at h;let⟨x,r,e,h1,h2⟩:=h;rw[e,Zwa,Zwa,RDs];exact⟨x,_,rfl,h1,RDs.app h2 h'⟩
theorem RDs.one{d:PyData}{x:V}(h:RD H d x):RDs H [d] [x]:=by
 rw[RDs];refine⟨x,_,rfl,h,?_⟩;rw[RDs]
theorem RDs.nil:RDs H [] []:=by rw[RDs]
theorem RDs.cons{d:PyData}{x:V}(h:RD H d x)(t:RDs H ds xs):RDs H (d::ds) (x::xs):=by
 rw[RDs];exact⟨x,_,rfl,h,t⟩
theorem RD.str_mk:RD H (.str x) (.str x):=by rw[RD]
theorem RD.int_mk{i:Int}:RD H (.int i) (.int i):=by rw[RD]
theorem RD.tup_mk(h:H a=some (.tup xs))(r:RDs H ds xs):RD H (.tuple ds) (.ref a):=by
 rw[RD];exact⟨a,xs,rfl,h,r⟩
theorem RD.tup_of(h:RD H (.tuple ds) v):∃a xs,v=.ref a/\H a=some (.tup xs)/\RDs H ds xs:=by rw[RD] at h;exact h
theorem RD.str_of(h:RD H (.str x) v):v=.str x:=by rw[RD] at h;exact h
theorem RD.int_of{x:Int}(h:RD H (.int x) v):v=.int x:=by rw[RD] at h;exact h
theorem RDs.nil_of(h:RDs H [] xs):xs=[]:=by rw[RDs] at h;exact h
theorem RDs.cons_of{d:PyData}(h:RDs H (d::ds) xs):∃x r,xs=x::r/\RD H d x/\RDs H ds r:=by rw[RDs] at h;exact h
end L2
namespace NP
open PySem L2
structure Wr where
 name:Str
 lag:Int
 gives:Int
 floor:Int
 stock:Int
 coming:List (Int×Int)
 parts:List (Str×Int)
def Z9(p:Int×Int):PyData:=.tuple [.int p.1,.int p.2]
def Of(p:Str×Int):PyData:=.tuple [.str p.1,.int p.2]
def Wr.d(w:Wr):PyData:=.tuple [.str w.name,.int w.lag,.int w.gives,.int w.floor,.int w.stock,.tuple (w.coming.map Z9),.tuple (w.parts.map Of)]
abbrev Wt:=Str×Int×Int
def Ka(p:Wt):PyData:=.tuple [.str p.1,.int p.2.1,.int p.2.2]
structure Sh where
 wares:List Wr
 wants:List Wt
def Sh.d(S:Sh):PyData:=.tuple [.tuple (S.wares.map Wr.d),.tuple (S.wants.map Ka)]
theorem Fs{α:Type}(f:α->PyData)(h:∀x,D5 (f x)=true):∀xs:List α,Cn (xs.map f)=true
 |[]=>by rw[Zy1,Cn]
 |x::r=>by rw[Zzk,Cn,h x,Fs f h r];rfl
theorem A1t(p:Int×Int):D5 (Z9 p)=true:=by unfold Z9;simp only[D5,Cn,Zwz]
theorem xr(p:Str×Int):D5 (Of p)=true:=by unfold Of;simp only[D5,Cn,Zwz]
theorem xq(p:Wt):D5 (Ka p)=true:=by unfold Ka;simp only[D5,Cn,Zwz]
theorem xo(w:Wr):D5 w.d=true:=by
 unfold Wr.d;simp only[D5,Cn,Fs Z9 A1t,Fs Of xr,Zwz]
theorem Fz(S:Sh):D5 S.d=true:=by
 unfold Sh.d;simp only[D5,Cn,Fs Wr.d xo,Fs Ka xq,Zwz]
theorem Ck{w:Wr}(h:RD H w.d v):∃(a:Addr) (c p:V),v=.ref a/\H a=some (.tup [.str w.name,.int w.lag,.int w.gives,.int w.floor,.int w.stock,c,p])/\RD H (.tuple (w.coming.map Z9)) c/\RD H (.tuple (w.parts.map Of)) p:=by
 unfold Wr.d at h;let⟨a,xs,rfl,ha,r⟩:=RD.tup_of h;let⟨x1,r1,rfl,h1,r⟩:=RDs.cons_of r;let⟨x2,r2,rfl,h2,r⟩:=RDs.cons_of r;let⟨x3,r3,rfl,h3,r⟩:=RDs.cons_of r;let⟨x4,r4,rfl,h4,r⟩:=RDs.cons_of r;let⟨x5,r5,rfl,h5,r⟩:=RDs.cons_of r;let⟨x6,r6,rfl,h6,r⟩:=RDs.cons_of r;let⟨x7,r7,rfl,h7,r⟩:=RDs.cons_of r;have:=RDs.nil_of r;subst this;rw[RD.str_of h1,RD.int_of h2,RD.int_of h3,RD.int_of h4,RD.int_of h5] at ha;exact⟨a,x6,x7,rfl,ha,h6,h7⟩
theorem Cy{S:Sh}(h:RD H S.d v):∃(a b c:Addr) (ws us:List V),v=.ref a/\H a=some (.tup [.ref b,.ref c])/\H b=some (.tup ws)/\H c=some (.tup us)/\RDs H (S.wares.map Wr.d) ws/\RDs H (S.wants.map Ka) us:=by
 unfold Sh.d at h;let⟨a,xs,rfl,ha,r⟩:=RD.tup_of h;let⟨x1,r1,rfl,h1,r⟩:=RDs.cons_of r;let⟨x2,r2,rfl,h2,r⟩:=RDs.cons_of r;have:=RDs.nil_of r;subst this;let⟨b,ws,rfl,hb,rb⟩:=RD.tup_of h1;let⟨c,us,rfl,hc,rc⟩:=RD.tup_of h2;exact⟨a,b,c,ws,us,rfl,ha,hb,hc,rb,rc⟩
theorem L6{p:Wt}(h:RD H (Ka p) v):∃a:Addr,v=.ref a/\H a=some (.tup [.str p.1,.int p.2.1,.int p.2.2]):=by
 unfold Ka at h;let⟨a,xs,rfl,ha,r⟩:=RD.tup_of h;let⟨x1,r1,rfl,h1,r⟩:=RDs.cons_of r;let⟨x2,r2,rfl,h2,r⟩:=RDs.cons_of r;let⟨x3,r3,rfl,h3,r⟩:=RDs.cons_of r;have:=RDs.nil_of r;subst this;rw[RD.str_of h1,RD.int_of h2,RD.int_of h3] at ha;exact⟨a,rfl,ha⟩
theorem Pb{p:Str×Int}(h:RD H (Of p) v):∃a:Addr,v=.ref a/\H a=some (.tup [.str p.1,.int p.2]):=by
 unfold Of at h;let⟨a,xs,rfl,ha,r⟩:=RD.tup_of h;let⟨x1,r1,rfl,h1,r⟩:=RDs.cons_of r;let⟨x2,r2,rfl,h2,r⟩:=RDs.cons_of r;have:=RDs.nil_of r;subst this;rw[RD.str_of h1,RD.int_of h2] at ha;exact⟨a,rfl,ha⟩
theorem ur{p:Int×Int}(h:RD H (Z9 p) v):∃a:Addr,v=.ref a/\H a=some (.tup [.int p.1,.int p.2]):=by
 unfold Z9 at h;let⟨a,xs,rfl,ha,r⟩:=RD.tup_of h;let⟨x1,r1,rfl,h1,r⟩:=RDs.cons_of r;let⟨x2,r2,rfl,h2,r⟩:=RDs.cons_of r;have:=RDs.nil_of r;subst this;rw[RD.int_of h1,RD.int_of h2] at ha;exact⟨a,rfl,ha⟩
theorem Bl{α:Type}{f:α->PyData}{xs:List α}{vs:List V}(h:RDs H (xs.map f) vs)(e:vs[i]?=some v):∃x,xs[i]?=some x/\RD H (f x) v:=by
 let⟨d,hd,r⟩:=RDs.get' h e;rw[Zzx] at hd;cases ex:xs[i]? with
 |none=>rw[ex] at hd;cases hd
 |some x=>rw[ex] at hd;cases hd;exact⟨x,rfl,r⟩
theorem B8{α:Type}{f:α->PyData}{xs:List α}{vs:List V}(h:RDs H (xs.map f) vs):vs.length=xs.length:=by have:=RDs.len h;rw[Zzz] at this;exact this
abbrev Gr:=List (Str×List Str)
variable {G:Gr}
def Ay(G:Gr):List Str:=G.map (·.1)
def P3(ks:List Str)(ps:List Str):List Str:=ps.filter λx=>decide (x∈ks)
noncomputable def Cp(ks:List Str)(e:Str×List Str):Option (Str×List Str):=if P3 ks e.2=[] then none else some (e.1,P3 ks e.2)
def br(G:Gr):Gr:=G.filterMap (Cp (Ay G))
def Mj:Nat->Gr->Gr
 |0,G=>G
 |n+1,G=>br (Mj n G)
noncomputable def G0(S:Sh):Gr:=S.wares.map λw=>(w.name,w.parts.map (·.1))
theorem BQ{ks:List Str}:∀{G:Gr},(Ay (G.filterMap (Cp ks))).Sublist (Ay G)
 |[]=>.slnil
 |e::r=>by
  unfold Ay;rw[Zwo];cases h:Cp ks e with
  |none=>exact .cons _ (BQ (G:=r))
  |some q =>
   have e1:q.1=e.1:=by
    unfold Cp at h;split at h
    ·cases h
    ·cases h;rfl
   show (q.1::Ay (r.filterMap (Cp ks))).Sublist (e.1::Ay r);rw[e1];exact .cons₂ _ (BQ (G:=r))
theorem bq(h:(Ay G).Nodup):(Ay (br G)).Nodup:=BQ.nodup h
theorem Rr(h:(Ay G).Nodup):∀n,(Ay (Mj n G)).Nodup
 |0=>h
 |n+1=>bq (Rr h n)
theorem u8(G:Gr):(br G).length<=G.length:=List.length_filterMap_le _ _
theorem Z0(G:Gr):∀n,(Mj n G).length<=G.length
 |0=>Zzu _
 |n+1=>Zzp (u8 _) (Z0 G n)
theorem Rs{e:Str×List Str}(h:e∈br G):∃ps,(e.1,ps)∈G/\(∀x∈e.2,x∈ps/\x∈Ay G)/\e.2≠[]/\e.2.length<=ps.length:=by
 unfold br at h;let⟨q,hq,hc⟩:=Zx5.mp h;unfold Cp at hc;split at hc
 ·cases hc
 ·rename_i hn;cases hc;refine⟨q.2,hq,λx hx=>?_,hn,Zxt _ _⟩;have:=Zwk.mp hx;exact⟨this.1,GA this.2⟩
theorem Ig:∀(n:Nat) {e:Str×List Str},e∈Mj n G->∃ps,(e.1,ps)∈G/\(∀x∈e.2,x∈ps)/\e.2.length<=ps.length
 |0,e,h=>⟨e.2,h,λx hx=>hx,Zzu _⟩
 |n+1,e,h=>by
  let⟨ps,h1,h2,_,h3⟩:=Rs h;let⟨qs,q1,q2,q3⟩:=Ig n h1;exact⟨qs,q1,λx hx=>q2 x (h2 x hx).1,by have h3':e.2.length<=ps.length:=h3;have q3':ps.length<=qs.length:=q3;lia⟩
def Low(G:Gr)(r:Str->Nat):Prop:=∀e∈G,∀x∈e.2,r x<r e.1
theorem fk{r:Str->Nat}(h:Low G r):∀(n:Nat) (e:Str×List Str),e∈Mj n G->n<=r e.1
 |0,e,_=>Zyl _
 |n+1,e,he=>by
  let⟨ps,h1,h2,h3,_⟩:=Rs he;let⟨qs,q1,q2,_⟩:=Ig n h1;cases hx:e.2 with
  |nil=>exact absurd hx h3
  |cons x t =>
   have hm:x∈e.2:=by rw[hx];exact Zzq
   let⟨m1,m2⟩:=h2 x hm;let⟨y,hy,ey⟩:=Zzt.mp m2;have lo:=fk h n y hy;have lt:=h _ q1 x (q2 x m1);rw[ey] at lo;have lt:r x<r e.1:=lt;lia
theorem Yz{r:Str->Nat}(h:Low G r)(hr:∀e∈G,r e.1<n):Mj n G=[]:=by
 cases hc:Mj n G with
 |nil=>rfl
 |cons e t =>
  have he:e∈Mj n G:=by rw[hc];exact Zzq
  have h1:=fk h n e he;let⟨ps,h2,_⟩:=Ig n he;have h3:=hr _ h2;have h3:r e.1<n:=h3;lia
def PDk(H:Hp)(kvs:List (Key×V))(G:Gr):Prop:=Paired (λ(e:Str×List Str) (kv:Key×V)=>kv.1=.inr e.1/\∃l,kv.2=.ref l/\H l=some (.lst (e.2.map V.str))) G kvs
theorem PDk.mono(h:PDk H kvs G)(k:∀l xs,H l=some (.lst xs)->H' l=some (.lst xs)):PDk H' kvs G :=
 Paired.mapP h λe kv ⟨h1,l,h2,h3⟩=>⟨h1,l,h2,k l _ h3⟩
theorem PDk.keys:∀{H:Hp} {kvs:List (Key×V)} {G:Gr},PDk H kvs G->kvs.map (·.1)=(Ay G).map Zyd
 |_,_,_,.nil=>rfl
 |_,_,_,.cons r t=>by
  unfold Ay;rw[Zzk,Zzk,Zzk,r.1];exact congrArg _ (PDk.keys t)
theorem PDk.get:∀{H:Hp} {kvs:List (Key×V)} {G:Gr} {i:Nat} {e:Str×List Str},PDk H kvs G->G[i]?=some e->∃l,kvs[i]?=some (.inr e.1,.ref l)/\H l=some (.lst (e.2.map V.str))
 |_,_,_,_,_,.nil,h=>by simp at h
 |_,(k,v)::_,_,0,e,.cons r _,h=>by
  simp at h;subst h;let⟨h1,l,h2,h3⟩:=r;have h1:k=_:=h1;have h2:v=_:=h2;exact⟨l,by rw[h1,h2];rfl,h3⟩
 |_,_::_,_,i+1,e,.cons _ t,h=>by
  let⟨l,q⟩:=PDk.get (i:=i) (e:=e) t (by simpa using h);exact⟨l,by simpa using q.1,q.2⟩
theorem PDk.get':∀{H:Hp} {kvs:List (Key×V)} {G:Gr} {i:Nat} {k:Key} {v:V},PDk H kvs G->kvs[i]?=some (k,v)->∃e l,G[i]?=some e/\k=.inr e.1/\v=.ref l/\H l=some (.lst (e.2.map V.str))
 |_,_,_,_,_,_,.nil,h=>by simp at h
 |_,_,e::_,0,k,v,.cons r _,h=>by
  simp at h;subst h;let⟨h1,l,h2,h3⟩:=r;exact⟨e,l,rfl,h1,h2,h3⟩
 |_,_,_::_,i+1,k,v,.cons _ t,h=>by
  let⟨e,l,q⟩:=PDk.get' (i:=i) t (by simpa using h);exact⟨e,l,by simpa using q.1,q.2⟩
theorem Pr{κ:Type}[DecidableEq κ]:∀{kvs:List (κ×V)} {i:Nat} {k:κ} {v:V},(kvs.map (·.1)).Nodup->kvs[i]?=some (k,v)->C1 kvs k=some v
 |[],_,_,_,_,h=>by simp at h
 |p::r,0,k,v,hn,h=>by
  simp at h;subst h;exact Cm rfl
 |p::r,i+1,k,v,hn,h=>by
  have h':r[i]?=some (k,v):=by simpa using h
  have hn':(p.1::r.map (·.1)).Nodup:=hn;let⟨h1,h2⟩:=Zye.mp hn';have hm:k∈r.map (·.1):=Zzt.mpr ⟨(k,v),Zzn h',rfl⟩;rw[Ca (λe=>h1 (e▸hm))];exact Pr h2 h'
theorem kj{κ:Type}[DecidableEq κ](kvs:List (κ×V))(k:κ):(C1 kvs k).isSome=decide (k∈kvs.map (·.1)):=by
 rw[<- Fb];induction kvs with
 |nil=>rfl
 |cons p r ih =>
  rw[Zwl,ih,Zzk];by_cases h:p.1=k
  ·subst h;simp
  ·have h':¬ k=p.1:=λe=>h e.symm
   simp[h,h']
theorem jd{xs:List Str}(h:xs.Nodup):(xs.map (Zyd:Str->Key)).Nodup:=by
 induction xs with
 |nil=>exact Zuy
 |cons x r ih =>
  let⟨h1,h2⟩:=Zye.mp h;rw[Zzk];refine Zye.mpr ⟨λm=>?_,ih h2⟩;let⟨y,hy,e⟩:=Zzt.mp m;cases e;exact h1 hy
theorem PDk.has(h:PDk H kvs G)(x:Str):(C1 kvs (.inr x)).isSome=decide (x∈Ay G):=by
 rw[kj,h.keys];congr 1;apply propext;constructor
 ·intro m;let⟨y,hy,e⟩:=Zzt.mp m;cases e;exact hy
 ·exact λm=>Zzt.mpr ⟨x,m,rfl⟩
theorem Qo{α β:Type}{F:α->β->Prop}:∀{a c:List α} {b d:List β},Paired F a b->Paired F c d->Paired F (a++c) (b++d)
 |_,_,_,_,.nil,s=>s
 |_,_,_,_,.cons r t,s=>.cons r (Qo t s)
theorem PDk.snoc{n:Str}{l:Addr}(h:PDk H kvs G)(hn:n∉Ay G)(hl:H l=some (.lst (ps.map V.str))):PDk H (Dx kvs (.inr n) (.ref l)) (G++[(n,ps)]):=by
 have hv:C1 kvs (.inr n)=none:=by
  have:=h.has n;rw[GC hn] at this;cases e:C1 kvs (.inr n) with
  |none=>rfl
  |some v=>rw[e] at this;cases this
 rw[Qh _ hv];exact Qo h (.cons ⟨rfl,l,rfl,hl⟩ .nil)
theorem PDk.len(h:PDk H kvs G):kvs.length=G.length:=(Paired.length h).symm
end NP
open NP
variable {o:Option Sh}{G:Gr}{S:Sh}
namespace L2
open PySem PySem.Spec PyProof.Rows
theorem Nf:cq 2 (sj K 2 (Ki (E3 0) (Ki (E3 1) EI))):=λv σ H Q h=>by
 let⟨a,xs,e,hq,hl,v1,r1,e1,v2,r2,e2,e3,q⟩:=h;exact⟨a,xs,e,hq,hl,v1,r1,e1,v2,r2,e2,e3,⟨⟨by simp,λj hj=>by rw[Zxr (by lia),Zxr (by lia)]⟩,q⟩⟩
theorem bu{yl:Nat->List V->Prop}{ok:Hp->Prop}{Q:VK}(G:Uv J n yl ok)(hn:n<=sizeLine)(Pv:Nat->List V->Hp->Prop)(h0:Pv 0 [] H)(hok:∀i acc H,i<=n->Pv i acc H->ok H)
  (hlen:∀i acc H,Pv i acc H->acc.length<=i)
  (hs:∀i ys p acc H,i<n->yl i ys->Pv i acc H->H p=none->g (.ref p) (Gh own cap σ) (upd H p (.tup ys)) λσ2 H2=>tt σ2 H2 λb H3=>if b=true then te σ2 H3 λy H4=>Pv (i+1) (acc++[y]) H4 else Pv (i+1) acc H3)
  (hd:∀acc H,Pv n acc H->∀p,H p=none->Q (.ref p) (upd H p (.lst acc))):NP.Ze J own cap g tt te σ H Q:=by
 refine⟨λi m acc H=>m=n - i/\i<=n/\Pv i acc H,⟨n,by simp,Zyl _,h0⟩,?_⟩;rintro i m acc H ⟨rfl,hi,p⟩;have q:=hok i acc H hi p;have hl:=hlen i acc H p;refine⟨by lia,?_⟩;by_cases hlt:i<n
 ·refine .inr ⟨G.go i H hlt q,by lia,Pv (i+1),λacc' H' p'=>⟨n - (i+1),by lia,rfl,hlt,p'⟩,λx H' y=>?_⟩;let⟨a,ys,e1,e2,e3,y'⟩:=G.yld i H x H' hlt q y;subst e1 e3;exact hs i ys a acc H hlt y' p e2
 ·have e:i=n:=by lia
  subst e;exact .inl ⟨G.stop H q,hd acc H p⟩
theorem Ky{ok:Hp->Prop}{Q:VK}(G:S3 J n yl ok)(hn:n<=sizeLine)(Pv:Nat->List V->Hp->Prop)(h0:Pv 0 [] H)(hok:∀i acc H,i<=n->Pv i acc H->ok H)
  (hlen:∀i acc H,Pv i acc H->acc.length<=i)
  (hs:∀i x acc H,i<n->yl i x->Pv i acc H->g x (Gh own cap σ) H λσ2 H2=>tt σ2 H2 λb H3=>if b=true then te σ2 H3 λy H4=>Pv (i+1) (acc++[y]) H4 else Pv (i+1) acc H3)
  (hd:∀acc H,Pv n acc H->∀p,H p=none->Q (.ref p) (upd H p (.lst acc))):NP.Ze J own cap g tt te σ H Q:=Ul G hn Pv h0 hok hlen hs hd
def Kz(ns:Nat->Int):Nat->Int
 |0=>ns 0
 |k+1=>if ns (k+1) > Kz ns k then ns (k+1) else Kz ns k
section
variable {I:Addr}{P:Nat->Value->Prop}{St:Nat->Heap->Prop}
theorem yn{a b:Int}{t u:Tok}(h:Q (.bool (decide (b<a))) s):wpAny (model prog w) A (richCompare .Gt (.int a t) (.int b u)) Q E s:=show wpAny _ _ (compareOp .Gt _ _) _ _ _ from gt_int h
theorem j3(kw:List (Str×Value))(W:Walks prog w A.in1 I fp wr n P St)(ns:Nat->Int)(hv:∀i v,P i v->∃t,v=.int (ns i) t)(S:Addr)(hSf:S∉fp) :
  ∀(k j:Nat) (s:Shared) (t:Tok) (c:Nat),n - (j+1)=k->j+1<=n->St (j+1) s.heap->s.heap.get? S=some {cls:=.type "list",dict:=none,data:=.seq #[.int (Kz ns j) t,.int (Kz ns j) t] c,slots:=#[]} ->
  (∀t' h' tk,(∀b o,b∉wr->b≠S->s.heap.get? b=some o->h'.get? b=some o)->R (.ok (.ret (.int (Kz ns (n - 1)) t'))) {s with heap:=h',toks:=tk}) ->
  codeAny (model prog w) A (.builtin "max.loop" ⟨[.ref I,.none,.ref S],kw⟩) R s:=by
 have nSw:S∉wr:=λh=>hSf (W.sub _ h);have nm:(toString "max" ++ toString ".loop" : String) = "max.loop" := by decide
 intro k;induction k with
 |zero =>
  intro j s t c hk hj hst hS hR;have hin:j+1=n:=by lia
  refine codeAny_builtin F.entry_max_loop ?_;rw[Zw8 F.plain_max_loop _];refine GF (m:=seqItems? (.ref S)) (wpAny_seqItems hS rfl (GF (m:=tryCatch (pyNext (.ref I)) _) (wpAny_tryCatch (W.done s _ _ (hin▸hst) λh' tk hk'=>?_))));refine GF (m:=updateSeq S (λ_=>#[])) (wpAny_updateSeq (hk' S _ nSw hS) rfl (GF (wpAny_letGo (GG ?_))));have e:n - 1=j:=by lia
  rw[e] at hR;exact hR t _ tk λb o n1 n2 q=>(Zyo _ _ (Zza n2)).trans (hk' b o n1 q)
 |succ k ih =>
  intro j s t c hk hj hst hS hR;have hlt:j+1<n:=by lia
  refine codeAny_builtin F.entry_max_loop ?_;rw[Zw8 F.plain_max_loop _];refine GF (m:=seqItems? (.ref S)) (wpAny_seqItems hS rfl (GF (m:=tryCatch (pyNext (.ref I)) _) (wpAny_tryCatch (W.item (j+1) s _ _ hlt hst λv h' tk hP hst' hk'=>?_))));let⟨u,rfl⟩:=hv _ _ hP;have hS':=hk' S _ nSw hS;refine GF (m:=tryCatch (holding _ (richCompare .Gt _ _ >>= _)) _) (wpAny_tryCatch (wpAny_holding (GF (yn (GF (wpAny_holding (wpAny_truthy_bool (GF (wpAny_letGo (GG ?_))))))))));by_cases hb:Kz ns j<ns (j+1)
  ·rw[GB hb];simp only[if_true];refine GF (wpAny_updateSeq hS' rfl (GF (wpAny_letGo ?_)));rw[nm];have eb:Kz ns (j+1)=ns (j+1):=GE hb;refine GG ⟨plainId_quiet F.plain_max_loop _,ih (j+1) _ u _ (by lia) hlt (W.frame _ _ _ hst' λb hbf o e=>?_) (by rw[eb];exact Zxv _ hS' rfl) λt' h'' tk' hk2=>?_⟩
   ·exact(Zyo _ _ (λh:S=b=>hSf (by rw[h];exact hbf))).trans e
   ·exact hR t' h'' tk' λb o n1 n2 e=>hk2 b o n1 n2 ((Zyo _ _ (Zza n2)).trans (hk' b o n1 e))
  ·rw[GC hb];simp only[Zvu,if_false];refine GF (wpAny_letGo ?_);rw[nm];have eb:Kz ns (j+1)=Kz ns j:=GD hb;refine GG ⟨plainId_quiet F.plain_max_loop _,ih (j+1) _ t c (by lia) hlt hst' (by rw[eb];exact hS') λt' h'' tk' hk2=>?_⟩;exact hR t' h'' tk' λb o n1 n2 e=>hk2 b o n1 n2 (hk' b o n1 e)
theorem R8(kw:List (Str×Value))(W:Walks prog w A.in1 I fp wr n P St)(ns:Nat->Int)(hv:∀i v,P i v->∃t,v=.int (ns i) t)(S:Addr)(hSf:S∉fp)(hn:0<n){c:Nat}(hst:St 0 s.heap)
  (hS:s.heap.get? S=some {cls:=.type "list",dict:=none,data:=.seq #[] c,slots:=#[]})
  (hR:∀t' h' tk,(∀b o,b∉wr->b≠S->s.heap.get? b=some o->h'.get? b=some o)->R (.ok (.ret (.int (Kz ns (n - 1)) t'))) {s with heap:=h',toks:=tk}) :
  codeAny (model prog w) A (.builtin "max.loop" ⟨[.ref I,.none,.ref S],kw⟩) R s:=by
 have nSw:S∉wr:=λh=>hSf (W.sub _ h);have nm:(toString "max" ++ toString ".loop" : String) = "max.loop" := by decide
 refine codeAny_builtin F.entry_max_loop ?_;rw[Zw8 F.plain_max_loop _];refine GF (m:=seqItems? (.ref S)) (wpAny_seqItems hS rfl (GF (m:=tryCatch (pyNext (.ref I)) _) (wpAny_tryCatch (W.item 0 s _ _ hn hst λv h' tk hP hst' hk'=>?_))));let⟨u,rfl⟩:=hv _ _ hP;have hS':=hk' S _ nSw hS;refine GF (m:=updateSeq S _) (wpAny_updateSeq hS' rfl ?_);rw[nm];refine GG ⟨plainId_quiet F.plain_max_loop _,j3 kw W ns hv S hSf _ 0 _ u _ rfl hn (W.frame _ _ _ hst' λb hbf o e=>?_) (Zxv _ hS' rfl) λt' h'' tk' hk2=>?_⟩
 ·exact(Zyo _ _ (λh:S=b=>hSf (by rw[h];exact hbf))).trans e
 ·exact hR t' h'' tk' λb o n1 n2 e=>hk2 b o n1 n2 ((Zyo _ _ (Zza n2)).trans (hk' b o n1 e))
theorem j2{d:Value}(W:Walks prog w A.in1 I fp wr 0 P St)(S:Addr)(hSf:S∉fp){c:Nat}(hst:St 0 s.heap)
  (hS:s.heap.get? S=some {cls:=.type "list",dict:=none,data:=.seq #[] c,slots:=#[]})
  (hR:∀h' tk,(∀b o,b∉wr->b≠S->s.heap.get? b=some o->h'.get? b=some o)->R (.ok (.ret d)) {s with heap:=h',toks:=tk}) :
  codeAny (model prog w) A (.builtin "max.loop" ⟨[.ref I,.none,.ref S],[("default",d)]⟩) R s:=by
 refine codeAny_builtin F.entry_max_loop ?_;rw[Zw8 F.plain_max_loop _];refine GF (m:=seqItems? (.ref S)) (wpAny_seqItems hS rfl (GF (m:=tryCatch (pyNext (.ref I)) _) (wpAny_tryCatch (W.done s _ _ hst λh' tk hk'=>?_))));exact GF (wpAny_rule (GG (hR h' tk λb o n1 _ e=>hk' b o n1 e)))
end
def Sk(ns:List Int):Int:=Kz (λi=>(ns[i]?).getD 0) (ns.length - 1)
def Ea(ns:List Int):Int:=if ns=[] then 0 else Sk ns
theorem Z7(f:Nat->Int):∀k,∃i,i<=k/\Kz f k=f i
 |0=>⟨0,Zzu _,rfl⟩
 |k+1=>by
  rw[Kz];split
  ·exact⟨k+1,Zzu _,rfl⟩
  ·let⟨i,h1,h2⟩:=Z7 f k;exact⟨i,by lia,h2⟩
theorem gp(f:Nat->Int):∀k i,i<=k->f i<=Kz f k
 |0,i,h=>by
  have:i=0:=by lia
  subst this;exact Zz5 _
 |k+1,i,h=>by
  rw[Kz];by_cases hi:i=k+1
  ·subst hi;split<;>lia
  ·have:=gp f k i (by lia)
   split<;>lia
theorem Lu(h:ns≠[]):Sk ns∈ns:=by
 have hl:0<ns.length:=Zv1.mpr h;let⟨i,h1,h2⟩:=Z7 (λi=>(ns[i]?).getD 0) (ns.length - 1);unfold Sk;rw[h2];have hi:i<ns.length:=by lia
 simp only[Zzl hi,Zw9];exact Zvc hi
theorem fj{x:Int}(h:x∈ns):x<=Sk ns:=by
 let⟨i,hi,e⟩:=Zww.mp h;have:=gp (λi=>(ns[i]?).getD 0) (ns.length - 1) i (by lia);simp only[Zzl hi,Zw9,e] at this;exact this
theorem kc(a d:Value):argsOk "max" ⟨[a],[(Str.ofString "default",d)]⟩:=by unfold argsOk;kernel_rfl
theorem qh{Q:VK}(hc:X.calm=true)(I:Inv X pins σ H s)(ha:H a=some (.lst (ns.map V.int)))(hn:ns≠[])(q:Q (.int (Sk ns)) H) :
  codeAny (model X.prog X.w) X.A (.builtin "max.loop" ⟨[.ref s.heap.objs.size,.none,.ref (s.heap.objs.size+1)],kw⟩) (λr s'=>match r with | .ok (.ret v)=>EP X pins σ Q v s' | .ok _=>False | .error e=>E e s')
   {s with heap:=(s.heap.push {cls:=.type "list_iterator",data:=.fields #[.ref a,.int 0 0]}).push {cls:=.type "list",data:=.seq #[]}}:=by
 let⟨its,rv,hl,hlt⟩:=C6 I ha;have hlen:its.length=ns.length:=by have:=rv.length;rw[Zzz] at this;exact this.symm
 have sz:(s.heap.push {cls:=.type "list_iterator",data:=.fields #[.ref a,.int 0 0]}).objs.size=s.heap.objs.size+1:=Zy0 ..;have gI:((s.heap.push {cls:=.type "list_iterator",data:=.fields #[.ref a,.int 0 0]}).push {cls:=.type "list",data:=.seq #[]}).get? s.heap.objs.size=some {cls:=.type "list_iterator",data:=.fields #[.ref a,.int 0 0]}:=Zzv _ (Zzj _ rfl);have gS:((s.heap.push {cls:=.type "list_iterator",data:=.fields #[.ref a,.int 0 0]}).push {cls:=.type "list",data:=.seq #[]}).get? (s.heap.objs.size+1)=some {cls:=.type "list",data:=.seq #[]}:=by
  have:=Zzj (s.heap.push {cls:=.type "list_iterator",data:=.fields #[.ref a,.int 0 0]}) (o:={cls:=.type "list",data:=.seq #[]}) rfl;rw[sz] at this;exact this
 have hpos:0<its.toArray.size:=by rw[Zzr,hlen];exact Zv1.mpr hn
 have nS:(s.heap.objs.size+1:Addr)∉[s.heap.objs.size,a]:=by
  simp only[Zzw,Zz2,or_false,not_or];exact⟨Zvd _,Zxe (Zxa hlt)⟩
 refine R8 kw (Walks.list (prog:=X.prog) (w:=X.w) (A:=X.A.in1) (I.ok.hd hc) s.heap.objs.size a (Zz0 hlt) its.toArray) (λi=>(ns[i]?).getD 0) (λi v hP=>Pq rv (by simpa using hP)) (s.heap.objs.size+1) nS hpos ⟨⟨_,gI,rfl,rfl⟩,(hl.push _).push _⟩ gS λt' h' tk hk=>?_;rw[Zzr,hlen];refine⟨.int (Sk ns),H,I.kept λb o e=>hk b o ?_ ?_ (Zzv _ (Zzv _ e)),⟨_,rfl⟩,q⟩
 ·simp only[Zzw,Zz2,or_false];exact Zz0 (Zzo e)
 ·exact Zz0 (Zxa (Zzo e))
def A00(te:TE):TE:=λσ H Q=>te σ H λx H1=>∃a ns,x=.ref a/\H1 a=some (.lst (ns.map V.int))/\Q (.int (Ea ns)) H1
theorem e9{p1 p2 p3 kp:Pos}{j}(hc:X.calm=true)(hg:Gl X "max")(hm:X.mg "max" = none)(he:PE X e te)(hn:Bw [e]=true:=by rfl) :
  PE X (.Call (.Name "max" p1) [e] [⟨some "default",.Constant (.int 0) j p3,kp⟩] p2) (A00 te):=by
 intro pins s σ H Q I h;refine wpAny_Call_Name_kw (Gz I hg hm NP.Ws ?_ (by decide) (by decide));refine callWith_kw (thn ((A2 he A0 hn) p2 pins s σ H (λvs H1=>match vs with | [x]=>∃a ns,x=.ref a/\H1 a=some (.lst (ns.map V.int))/\Q (.int (Ea ns)) H1 | _=>False) I h) λus s1 ⟨vs,H1,I1,r1,hv⟩=>kws_cons (wpAny_Constant_int (kws_nil ?_))) ?_ ?_ rfl rfl
 ·match vs,hv,r1 with
  |[x],⟨a,ns,ea,ha,q⟩,r1 =>
  subst ea;let⟨u,rfl,ru⟩:=F9 r1;cases ru;have I2:=I1.tok (s1.toks+1);let⟨its,rv,hl,hlt⟩:=C6 I2 ha;have nm:(toString "max" ++ toString ".loop" : String) = "max.loop" := by decide
  have sz:(s1.heap.push {cls:=.type "list_iterator",data:=.fields #[.ref a,.int 0 0]}).objs.size=s1.heap.objs.size+1:=Zy0 ..;refine kmk_tree F.kind_max F.plain_max F.entry_max (kc _ _) ?_;refine GF (m:=Zx4 "max" ["key", "default"] 0 ⟨[],[(Str.ofString "default",.int 0 s1.toks)]⟩) (wpAny_of_eq (show Zx4 "max" ["key", "default"] 0 ⟨[],[(Str.ofString "default",.int 0 s1.toks)]⟩=pure [none,some (.int 0 s1.toks)] from rfl) (GF (GG (GF (wpAny_pyIter_list hl (GF (wpAny_newObj_type ?_)))))));rw[nm];refine GG ⟨plainId_quiet F.plain_max_loop _,?_⟩;by_cases hz:ns=[]
  ·subst hz;have gI:((s1.heap.push {cls:=.type "list_iterator",data:=.fields #[.ref a,.int 0 0]}).push {cls:=.type "list",data:=.seq #[]}).get? s1.heap.objs.size=some {cls:=.type "list_iterator",data:=.fields #[.ref a,.int 0 0]}:=Zzv _ (Zzj _ rfl);have gS:((s1.heap.push {cls:=.type "list_iterator",data:=.fields #[.ref a,.int 0 0]}).push {cls:=.type "list",data:=.seq #[]}).get? (s1.heap.push {cls:=.type "list_iterator",data:=.fields #[.ref a,.int 0 0]}).objs.size=some {cls:=.type "list",data:=.seq #[]}:=Zzj _ rfl;have e0:its=[]:=by cases rv;rfl
   subst e0;have nS:(s1.heap.push {cls:=.type "list_iterator",data:=.fields #[.ref a,.int 0 0]}).objs.size∉[s1.heap.objs.size,a]:=by
    rw[sz];simp only[Zzw,Zz2,or_false,not_or];exact⟨Zvd _,Zxe (Zxa hlt)⟩
   refine j2 (Walks.list (prog:=X.prog) (w:=X.w) (A:=X.A.in1) (I.ok.hd hc) s1.heap.objs.size a (Zz0 hlt) ([]:List Value).toArray) _ nS ⟨⟨_,gI,rfl,rfl⟩,(hl.push _).push _⟩ gS λh' tk hk=>?_;refine⟨.int 0,H1,I1.kept λb o e=>hk b o ?_ ?_ (Zzv _ (Zzv _ e)),⟨_,rfl⟩,q⟩
   ·simp only[Zzw,Zz2,or_false];exact Zz0 (Zzo e)
   ·rw[sz];exact Zz0 (Zxa (Zzo e))
  ·have q':Q (.int (Sk ns)) H1:=by unfold Ea at q;rw[GD hz] at q;exact q
   have:=qh (E:=X.xe) (kw:=[("default",.int 0 s1.toks)]) hc I2 ha hz q';rw[<- sz] at this;exact this
 ·rw[Cr hn];rfl
 ·exact C7 hn
def FS:V->V->Hp->VK->Prop:=λo i H Q=>∃p xs k v,o=.ref p/\i=.int k/\H p=some (.lst xs)/\0<=k/\xs[k.toNat]?=some v/\Q v H
theorem g6:A2i X FS:=by
 intro pins s σ H o i ov iv Q I ro ri h;let⟨p,xs,k,v,rfl,rfl,hp,h0,hv,q⟩:=h;cases ro;let⟨t,rfl⟩:=ri;let⟨its,rv,hl,hlt⟩:=C6 I hp;let⟨u,hu,ru⟩:=rv.get hv;have hlen:=rv.length;let⟨hz,_⟩:=I.hok p _ hp;have hk:k.toNat<xs.length:=(Zzf.mp hv).1;have h63:=Jj;exact wpAny_getItem_list hl h0 (by lia) (by simpa using hu) ⟨v,H,I,ru,q⟩
end L2
namespace NP
open PySem L2
noncomputable def Ar(n:Nat)(f:Nat->Int):List Int:=(Zys n).map f
theorem Au(n:Nat)(f:Nat->Int):(Ar n f).length=n:=by simp[Ar]
theorem Bz{f:Nat->Int}(h:i<n):(Ar n f)[i]?=some (f i):=by simp[Ar,h]
theorem D0{f:Nat->Int}(h:i<n):(Ar n f).getD i 0=f i:=by rw[Zzg,Bz h];rfl
theorem C3{f g:Nat->Int}(h:∀i,i<n->f i=g i):Ar n f=Ar n g:=by
 apply Zwf;intro i;by_cases hi:i<n
 ·rw[Bz hi,Bz hi,h i hi]
 ·rw[Zyj (by rw[Au];lia),Zyj (by rw[Au];lia)]
theorem Mx{f:Nat->Int}{v:Int}:(Ar n f).set j v=Ar n λd=>if d=j then v else f d:=by
 apply Zwf;intro i;by_cases hi:i<n
 ·rw[Bz hi];by_cases hj:j=i
  ·subst hj;rw[Zvl (by rw[Au];exact hi),GE rfl]
  ·rw[Zxr hj,Bz hi,GD (λe=>hj e.symm)]
 ·rw[Zyj (by rw[List.length_set,Au];lia),Zyj (by rw[Au];lia)]
theorem Kr(n:Nat)(f:Nat->Int):Ar (n+1) f=Ar n f++[f n]:=by
 unfold Ar;rw[Zv6,Zzd];rfl
theorem Qf(k:Nat):(Zz4 k [V.int 0]).flatten=(Ar k λ_=>0).map V.int:=by
 induction k with
 |zero=>rfl
 |succ k ih =>
  rw[List.replicate_succ',List.flatten_append,ih,Kr,Zzd];rfl
noncomputable def Br{α:Type}(f:α->Int)(xs:List α):Int:=(xs.map f).sum
theorem L7{α:Type}(f:α->Int):Br f []=0:=rfl
theorem m7{α:Type}(f:α->Int)(xs ys:List α):Br f (xs++ys)=Br f xs+Br f ys:=by unfold Br;rw[Zzd,List.sum_append]
theorem m6{α:Type}(f:α->Int)(x:α):Br f [x]=f x:=by simp[Br]
theorem Hi{α:Type}(f:α->Int)(x:α)(xs:List α):Br f (x::xs)=f x+Br f xs:=by simp[Br]
theorem El{α:Type}(f:α->Int){xs:List α}{x:α}(h:xs[i]?=some x):Br f (xs.take (i+1))=Br f (xs.take i)+f x:=by
 rw[Zz6,h,m7];rw[show (some x).toList=[x] from rfl,m6]
theorem Ms{α:Type}{f:α->Int}{xs:List α}(h:∀x∈xs,f x=0):Br f xs=0:=by
 induction xs with
 |nil=>rfl
 |cons x r ih=>rw[Hi,h x Zzq,ih λy hy=>h y (Zzs _ hy)];rfl
theorem Hs{α:Type}{f g:α->Int}{xs:List α}(h:∀x∈xs,f x=g x):Br f xs=Br g xs:=by
 induction xs with
 |nil=>rfl
 |cons x r ih=>rw[Hi,Hi,h x Zzq,ih λy hy=>h y (Zzs _ hy)]
def AD(S:Sh):Nat:=(1+Ea (S.wants.map λu=>u.2.1)).toNat
theorem Pd(h:∀x∈ns,0<=x):0<=Ea ns:=by
 unfold Ea;split
 ·exact Zz5 _
 ·rename_i hn;exact h _ (Lu hn)
theorem Pf{x:Int}(h:x∈ns):x<=Ea ns:=by
 unfold Ea;rw[GD (List.ne_nil_of_mem h)];exact fj h
theorem Pe{b:Int}(hb:0<b)(h:∀x∈ns,x<b):Ea ns<b:=by
 unfold Ea;split
 ·exact hb
 ·rename_i hn;exact h _ (Lu hn)
def wAt(nm:Str)(d:Nat)(u:Wt):Int:=if u.1=nm/\u.2.1=(d:Int) then u.2.2 else 0
def cAt(d:Nat)(p:Int×Int):Int:=if p.1=(d:Int) then p.2 else 0
noncomputable def bAt(AQ:List Int)(lag:Int)(d:Nat):Int:=if d+lag.toNat<AQ.length then AQ.getD (d+lag.toNat) 0 else 0
def Eg(AQ:List Int)(lag:Int):List Int:=Ar AQ.length (bAt AQ lag)
theorem uk(AQ:List Int)(lag:Int):AQ.drop lag.toNat++Ar (min lag.toNat AQ.length) (λ_=>0)=Eg AQ lag:=by
 unfold Eg bAt;apply Zwf;intro i;by_cases hi:i<AQ.length
 ·rw[Bz hi];by_cases h:i+lag.toNat<AQ.length
  ·rw[GE h,Zxw (by rw[Zy4];lia),Zut,Nat.add_comm lag.toNat i,Zzl h,Zzg,Zzl h];rfl
  ·rw[GD h,Zy2 (by rw[Zy4];lia),Zy4,Bz (by lia)]
 ·rw[Zyj (by rw[Zz8,Zy4,Au];lia),Zyj (by rw[Au];lia)]
noncomputable def pAt(plan:Str->List Int)(nm:Str)(d:Nat)(w:Wr):Int:=Br (λp:Str×Int=>if p.1=nm then p.2*bAt (plan w.name) w.lag d else 0) w.parts
def Bb(S:Sh)(plan:Str->List Int)(nm:Str)(d:Nat):Int:=Br (wAt nm d) S.wants+Br (pAt plan nm d) S.wares
def At(S:Sh)(plan:Str->List Int)(nm:Str):List Int:=Ar (AD S) (Bb S plan nm)
def Ci(w:Wr)(d:Nat):Int:=(if d=0 then w.stock else 0)+Br (cAt d) w.coming
def jo(S:Sh)(plan:Str->List Int)(w:Wr)(d:Nat):Int:=Ci w d+w.gives*(plan w.name).getD d 0 - Bb S plan w.name d
noncomputable def upS(f:Nat->Int):Nat->Int
 |0=>0
 |d+1=>upS f d+f d
def G5(S:Sh)(plan:Str->List Int)(w:Wr):List Int:=Ar (AD S) λd=>upS (jo S plan w) (d+1)
end NP
namespace L2
open PySem PySem.Spec PyProof.Rows
theorem A0h{κ:Type}:∀{kvs:List (κ×V)} {vs:List (κ×Value)} {i:Nat} {k:κ} {v:V},KV kvs vs->kvs[i]?=some (k,v)->∃u,vs[i]?=some (k,u)/\AE v u
 |_,_,_,_,_,.nil,e=>by simp at e
 |_,(k',u')::_,0,k,v,.cons r _,e=>by
  simp at e;subst e;exact⟨u',by simp;exact r.1.symm,r.2⟩
 |_,_::_,i+1,k,v,.cons _ t,e=>by
  let⟨u,h,q⟩:=A0h (i:=i) t (by simpa using e);exact⟨u,by simpa using h,q⟩
open PySem.W NP
noncomputable def Dt(n:Nat)(key:Nat->Int){α:Type}:KasT α->(α->Prop)->Prop
 |.ret a,Q=>Q a
 |.ask i j k,Q=>i<n/\j<n/\Dt n key (k (decide (key i<key j))) Q
theorem Ev{α β:Type}{f:α->KasT β}{Q:β->Prop}:∀{t:KasT α},Dt n key t (λa=>Dt n key (f a) Q)->Dt n key (t.bind f) Q
 |.ret _,h=>h
 |.ask _ _ _,⟨h1,h2,h3⟩=>⟨h1,h2,Ev h3⟩
theorem Dz{α:Type}{Q Q':α->Prop}(hq:∀a,Q a->Q' a):∀{t:KasT α},Dt n key t Q->Dt n key t Q'
 |.ret _,h=>hq _ h
 |.ask _ _ _,⟨h1,h2,h3⟩=>⟨h1,h2,Dz hq h3⟩
def klt(key:Nat->Int)(a b:Nat):Prop:=key a<key b\/(key a=key b/\a<b)
theorem j8{a b c:Nat}(h1:klt key a b)(h2:klt key b c):klt key a c:=by unfold klt at *;lia
theorem W4{a b:Nat}(h:klt key a b):key a<=key b:=by unfold klt at h;lia
abbrev pat(p:Array Nat)(k:Nat):Nat:=p.getD k 0
theorem Ve{p:Array Nat}(hj:j<=p.size)(k:Nat):pat (kas_rev p i j) k=if i<=k/\k<j then pat p (i+j - 1 - k) else pat p k:=by
 have e:=getElem?_mirror_all (i:=i) hj k;unfold pat kas_rev;rw[Zyp,e];by_cases h1:i<=k/\k<j
 ·rw[GE h1,GE h1,Zyp]
 ·rw[GD h1,GD h1,Zyp]
theorem wu{p:Array Nat}{src d:Nat}(hs:src<p.size)(hd:d<=src)(k:Nat):pat (bubble p src d) k=if k=src - d then pat p src else if src - d<k/\k<=src then pat p (k - 1) else pat p k:=by
 have e:=getElem?_bubble hs d hd k;unfold pat;rw[Zyp,e];by_cases h1:k=src - d
 ·rw[GE h1,GE h1,Zyp]
 ·rw[GD h1,GD h1];by_cases h2:src - d<k/\k<=src
  ·rw[GE h2,GE h2,Zyp]
  ·rw[GD h2,GD h2,Zyp]
theorem Qd(p:Array Nat)(i j:Nat):(kas_rev p i j).size=p.size:=mirror_size _ _ _ _
theorem Qe(p:Array Nat)(i j:Nat):(kas_rev p i j).toList.Perm p.toList:=Array.perm_iff_toList_perm.mp (mirror_perm _ _ _ _)
structure Srt(n:Nat)(key:Nat->Int)(p:Array Nat)(m:Nat):Prop where
 sz:p.size=n
 pm:p.toList.Perm (Zys n)
 up:∀i j,i<j->j<m->klt key (pat p i) (pat p j)
 fix:∀k,m<=k->k<n->pat p k=k
 low:∀k,k<m->pat p k<m
theorem Srt.lt{p:Array Nat}(h:Srt n key p m){k:Nat}(hm:m<=n)(hk:k<n):pat p k<n:=by
 by_cases z:k<m
 ·have:=h.low k z;lia
 ·rw[h.fix k (by lia) hk];exact hk
theorem c8:∀(f:Nat) {p:Array Nat} {m:Nat},Srt n key p m->1<=m->m+f=n->Dt n key (kas_asc p f m) λm'=>m<=m'/\m'<=n/\Srt n key p m'/\(m'<n->key (pat p m')<key (pat p (m' - 1)))
 |0,p,m,h,h1,h2=>⟨Zzu _,by lia,h,λz=>by lia⟩
 |f+1,p,m,h,h1,h2=>by
  refine⟨h.lt (by lia) (by lia),h.lt (by lia) (by lia),?_⟩;show Dt n key (if decide (key (pat p m)<key (pat p (m - 1)))=true then _ else _) _;by_cases c:key (pat p m)<key (pat p (m - 1))
  ·rw[GB c,GE rfl];exact⟨Zzu _,by lia,h,λ_=>c⟩
  ·rw[GC c,GD (by decide)];have e:=h.fix m (Zzu _) (by lia);have h':Srt n key p (m+1):=⟨h.sz,h.pm,λi j hij hj=>by
     by_cases z:j<m
     ·exact h.up i j hij z
     ·have ej:j=m:=by lia
      subst ej
      have l1:klt key (pat p (j - 1)) (pat p j):=by
       have:=h.low (j - 1) (by lia)
       unfold klt
       rw[e] at c ⊢
       lia
      by_cases y:i=j - 1
      ·rw[y];exact l1
      ·exact j8 (h.up i (j - 1) (by lia) (by lia)) l1,λk hk hkn=>h.fix k (by lia) hkn,λk hk=>by
     by_cases z:k<m
     ·have:=h.low k z;lia
     ·have ek:k=m:=by lia
      rw[ek,e];lia⟩
   exact Dz (λa z0=>by let⟨a1,a2,a3,a4⟩:=z0;exact ⟨by lia,a2,a3,a4⟩) (c8 f h' (by lia) (by lia))
structure Fal(n:Nat)(key:Nat->Int)(p:Array Nat)(m q:Nat):Prop where
 sz:p.size=n
 pm:p.toList.Perm (Zys n)
 q1:q+1<=m
 m1:m<=n
 dn:∀i j,i<j->j<m - (q+1)->klt key (pat p j) (pat p i)
 fix:∀k,m - (q+1)<=k->k<n->pat p k=k
 low:∀k,k<m - (q+1)->pat p k<m - (q+1)
 cr:∀i,i<m - (q+1)->key (m - 1)<key (pat p i)
 eq:∀k,m - (q+1)<=k->k<m->key k=key (m - 1)
structure Dwn(n:Nat)(key:Nat->Int)(p:Array Nat)(m:Nat):Prop where
 sz:p.size=n
 pm:p.toList.Perm (Zys n)
 dn:∀i j,i<j->j<m->klt key (pat p j) (pat p i)
 fix:∀k,m<=k->k<n->pat p k=k
 low:∀k,k<m->pat p k<m
 last:∀i,i<m->key (m - 1)<=key (pat p i)
theorem Fal.turn{p:Array Nat}{q:Nat}(h:Fal n key p m q):Dwn n key (kas_rev p (m - (q+1)) m) m:=by
 have hm:=h.m1;have h1:=h.q1;have pr:=λk=>Ve (p:=p) (i:=m - (q+1)) (j:=m) (by rw[h.sz];exact hm) k;refine⟨by rw[Qd,h.sz],(Qe _ _ _).trans h.pm,λi j hij hj=>?_,λk hk hkn=>?_,λk hk=>?_,λi hi=>?_⟩
 ·have vi1:m - (q+1)<=i->pat (kas_rev p (m - (q+1)) m) i=m - (q+1)+m - 1 - i:=λa=>by rw[pr i,GE ⟨a,by lia⟩];exact h.fix _ (by lia) (by lia)
  have vi2:¬ m - (q+1)<=i->pat (kas_rev p (m - (q+1)) m) i=pat p i:=λa=>by rw[pr i,GD (λz=>a z.1)]
  have vj1:m - (q+1)<=j->pat (kas_rev p (m - (q+1)) m) j=m - (q+1)+m - 1 - j:=λa=>by rw[pr j,GE ⟨a,hj⟩];exact h.fix _ (by lia) (by lia)
  have vj2:¬ m - (q+1)<=j->pat (kas_rev p (m - (q+1)) m) j=pat p j:=λa=>by rw[pr j,GD (λz=>a z.1)]
  by_cases a:m - (q+1)<=i
  ·rw[vi1 a,vj1 (by lia)];have e1:=h.eq (m - (q+1)+m - 1 - i) (by lia) (by lia);have e2:=h.eq (m - (q+1)+m - 1 - j) (by lia) (by lia);unfold klt;lia
  ·rw[vi2 a];by_cases b:m - (q+1)<=j
   ·rw[vj1 b];have e2:=h.eq (m - (q+1)+m - 1 - j) (by lia) (by lia);have e3:=h.cr i (by lia);unfold klt;lia
   ·rw[vj2 b];exact h.dn i j hij (by lia)
 ·rw[pr k,GD (by lia)];exact h.fix k (by lia) hkn
 ·rw[pr k];split
  ·rw[h.fix _ (by lia) (by lia)];lia
  ·have:=h.low k (by lia);lia
 ·rw[pr i];split
  ·rw[h.fix _ (by lia) (by lia)];have:=h.eq (m - (q+1)+m - 1 - i) (by lia) (by lia);lia
  ·have:=h.cr i (by lia);lia
theorem Fal.one{p:Array Nat}(h:Fal n key p m 0):Dwn n key p m:=by
 have hm:=h.m1;have h1:=h.q1;have e:=h.fix (m - 1) (by lia) (by lia);refine⟨h.sz,h.pm,λi j hij hj=>?_,λk hk hkn=>h.fix k (by lia) hkn,λk hk=>?_,λi hi=>?_⟩
 ·by_cases z:j=m - 1
  ·rw[z,e];have:=h.cr i (by lia);exact .inl this
  ·exact h.dn i j hij (by lia)
 ·by_cases z:k=m - 1
  ·rw[z,e];lia
  ·have:=h.low k (by lia);lia
 ·by_cases z:i=m - 1
  ·rw[z,e];exact Zz5 _
  ·have:=h.cr i (by lia);lia
theorem Dwn.next{p:Array Nat}(h:Dwn n key p m)(h1:1<=m)(hm:m<n)(c:key m<key (m - 1)):Fal n key p (m+1) 0 :=
 ⟨h.sz,h.pm,by lia,by lia,λi j hij hj=>h.dn i j hij (by lia),λk hk hkn=>h.fix k (by lia) hkn,λk hk=>by have:=h.low k (by lia);lia,λi hi=>by
  have:=h.last i (by lia)
  show key m<_
  lia,λk hk hk2=>by
  have:k=m:=by lia
  subst this
  rfl⟩
theorem Pj:∀(f:Nat) {p:Array Nat} {m q:Nat},Fal n key p m q->m+f=n->Dt n key (kas_desc f p m q) λr=>Fal n key r.1 r.2.1 r.2.2
 |0,p,m,q,h,_=>h
 |f+1,p,m,q,h,hf=>by
  have h1:=h.q1;have e1:=h.fix m (by lia) (by lia);have e2:=h.fix (m - 1) (by lia) (by lia);refine⟨by show pat p m<n;lia,by show pat p (m - 1)<n;lia,?_⟩;show Dt n key (if decide (key (pat p m)<key (pat p (m - 1)))=true then _ else _) _;rw[e1,e2];by_cases c:key m<key (m - 1)
  ·rw[GB c,GE rfl];by_cases hq:q > 0
   ·rw[GE hq];exact Pj f (h.turn.next (by lia) (by lia) c) (by lia)
   ·rw[GD hq];have q0:q=0:=by lia
    subst q0;exact Pj f (h.one.next (by lia) (by lia) c) (by lia)
  ·rw[GC c,GD (by decide)];refine⟨by show pat p (m - 1)<n;lia,by show pat p m<n;lia,?_⟩;show Dt n key (if decide (key (pat p (m - 1))<key (pat p m))=true then _ else _) _;rw[e1,e2];by_cases d:key (m - 1)<key m
   ·rw[GB d,GE rfl];exact h
   ·rw[GC d,GD (by decide)];have ek:key m=key (m - 1):=by lia
    refine Pj f ⟨h.sz,h.pm,by lia,by lia,λi j hij hj=>h.dn i j hij (by lia),λk hk hkn=>h.fix k (by lia) hkn,λk hk=>by have:=h.low k (by lia);lia,λi hi=>by have:=h.cr i (by lia);show key m<_;lia,λk hk hk2=>?_⟩ (by lia);show key k=key m;by_cases z:k=m
    ·rw[z]
    ·rw[ek];exact h.eq k (by lia) (by lia)
theorem d8{p:Array Nat}(h:Dwn n key p m)(h1:1<=m)(hm:m<=n):Dt n key (kas_tail3 m n p) λr=>1<=r.1/\r.1<=n/\Srt n key r.2 r.1:=by
 have pr:=λk=>Ve (p:=p) (i:=0) (j:=m) (by rw[h.sz];exact hm) k;have hs:Srt n key (kas_rev p 0 m) m:=by
  refine⟨by rw[Qd,h.sz],(Qe _ _ _).trans h.pm,λi j hij hj=>?_,λk hk hkn=>?_,λk hk=>?_⟩
  ·rw[pr i,pr j,GE ⟨by lia,by lia⟩,GE ⟨by lia,by lia⟩];exact h.dn _ _ (by lia) (by lia)
  ·rw[pr k,GD (by lia)];exact h.fix k hk hkn
  ·rw[pr k,GE ⟨by lia,hk⟩];exact h.low _ (by lia)
 exact Ev (Dz (λa z0=>by let⟨a1,a2,a3,_⟩:=z0;exact ⟨by show 1<=a;lia,a2,a3⟩) (c8 (n - m) hs h1 (by lia)))
theorem fb{p:Array Nat}(h:Fal n key p (m+1) 0):Dt n key (kas_descPart m n p) λr=>1<=r.1/\r.1<=n/\Srt n key r.2 r.1:=by
 have:=h.m1;refine Ev (Dz (λr hr=>?_) (Pj (n - (m+1)) h (by lia)));have r1:=hr.q1;have r2:=hr.m1;by_cases z:r.2.2 > 0
 ·rw[GE z];exact d8 hr.turn (by lia) r2
 ·rw[GD z];have q0:r.2.2=0:=by lia
  rw[q0] at hr;exact d8 hr.one (by lia) r2
theorem Bh{k:Nat}(h:k<n):pat (Zyf (Zys n)) k=k:=by
 unfold pat;rw[Zyp];simp[h]
theorem uc(h2:2<=n):Dt n key (kas_count n (Zyf (Zys n))) λr=>1<=r.1/\r.1<=n/\Srt n key r.2 r.1:=by
 have s0:Srt n key (Zyf (Zys n)) 1:=⟨by simp,by simp,λi j hij hj=>by lia,λk _ hk=>Bh hk,λk hk=>by rw[Bh (by lia)];exact hk⟩;refine Ev (Dz (λm hm=>?_) (c8 (n - 1) s0 (Zzu _) (by lia)));let⟨a1,a2,a3,a4⟩:=hm;by_cases z:m=n
 ·rw[GE (by rw[z];simp)];exact⟨a1,a2,a3⟩
 ·rw[GD (by simpa using z)];have c:=a4 (by lia);rw[Bh (by lia),Bh (by lia)] at c;by_cases y:m > 1
  ·rw[GE y];have g0:pat (Zyf (Zys n)) 0=0:=Bh (by lia);have g1:pat (Zyf (Zys n)) (m - 1)=m - 1:=Bh (by lia);refine⟨by show pat (Zyf (Zys n)) 0<n;lia,by show pat (Zyf (Zys n)) (m - 1)<n;lia,?_⟩;show Dt n key (if decide (key (pat (Zyf (Zys n)) 0)<key (pat (Zyf (Zys n)) (m - 1)))=true then _ else _) _;rw[g0,g1];by_cases d:key 0<key (m - 1)
   ·rw[GB d,GE rfl];exact⟨a1,a2,a3⟩
   ·rw[GC d,GD (by decide)];have up:∀i,i<m->key 0<=key i/\key i<=key (m - 1):=λi hi=>by
     constructor
     ·by_cases w:i=0
      ·rw[w];exact Zz5 _
      ·have:=W4 (a3.up 0 i (by lia) hi)
       rw[Bh (by lia),Bh (by lia)] at this;exact this
     ·by_cases w:i=m - 1
      ·rw[w];exact Zz5 _
      ·have:=W4 (a3.up i (m - 1) (by lia) (by lia))
       rw[Bh (by lia),Bh (by lia)] at this;exact this
    have al:∀i,i<m->key i=key (m - 1):=λi hi=>by have:=up i hi;lia
    have pr:=λk=>Ve (p:=Zyf (Zys n)) (i:=0) (j:=m) (by simp;lia) k;have dw:Dwn n key (kas_rev (Zyf (Zys n)) 0 m) m:=by
     refine⟨by rw[Qd];simp,(Qe _ _ _).trans (by simp),λi j hij hj=>?_,λk hk hkn=>?_,λk hk=>?_,λi hi=>?_⟩
     ·rw[pr i,pr j,GE ⟨by lia,by lia⟩,GE ⟨by lia,by lia⟩,Bh (by lia),Bh (by lia)];have e1:=al (0+m - 1 - i) (by lia);have e2:=al (0+m - 1 - j) (by lia);unfold klt;lia
     ·rw[pr k,GD (by lia),Bh hkn]
     ·rw[pr k,GE ⟨by lia,hk⟩,Bh (by lia)];lia
     ·rw[pr i,GE ⟨by lia,hi⟩,Bh (by lia)];have:=al (0+m - 1 - i) (by lia);lia
    exact fb (dw.next (by lia) (by lia) c)
  ·rw[GD y];have m1:m=1:=by lia
   subst m1;have dw:Dwn n key (Zyf (Zys n)) 1:=⟨by simp,by simp,λi j hij hj=>by lia,λk _ hk=>Bh hk,λk hk=>by rw[Bh (by lia)];exact hk,λi hi=>by
    rw[Bh (by lia)]
    have:i=0:=by lia
    rw[this]
    exact Zz5 _⟩
   exact fb (dw.next (by lia) (by lia) c)
theorem Qk{p:Array Nat}{k:Nat}(h:Srt n key p k)(hk:k<n):∀(f l r:Nat),l<=r->r<=k->r - l<=f->(∀i,i<l->key (pat p i)<=key k)->(∀i,r<=i->i<k->key k<key (pat p i))->Dt n key (kas_place p k f l r) λl'=>l'<=k/\(∀i,i<l'->key (pat p i)<=key k)/\∀i,l'<=i->i<k->key k<key (pat p i)
 |0,l,r,h1,h2,h3,h4,h5=>⟨by lia,h4,λi hi=>h5 i (by lia)⟩
 |f+1,l,r,h1,h2,h3,h4,h5=>by
  show Dt n key (if l≥r then _ else _) _;by_cases z:l≥r
  ·rw[GE z];exact⟨by lia,h4,λi hi=>h5 i (by lia)⟩
  ·rw[GD z];have e:=h.fix k (Zzu _) hk;refine⟨by show pat p k<n;lia,by have:=h.low ((l+r) / 2) (by lia);show pat p ((l+r) / 2)<n;lia,?_⟩;show Dt n key (if decide (key (pat p k)<key (pat p ((l+r) / 2)))=true then _ else _) _;rw[e];have mono:∀i j,i<=j->j<k->key (pat p i)<=key (pat p j):=λi j hij hj=>by
    by_cases y:i=j
    ·rw[y];exact Zz5 _
    ·exact W4 (h.up i j (by lia) hj)
   by_cases c:key k<key (pat p ((l+r) / 2))
   ·rw[GB c,GE rfl];exact Qk h hk f l ((l+r) / 2) (by lia) (by lia) (by lia) h4 λi hi hik=>by have:=mono _ i hi hik;lia
   ·rw[GC c,GD (by decide)];exact Qk h hk f ((l+r) / 2+1) r (by lia) h2 (by lia) (λi hi=>by have:=mono i ((l+r) / 2) (by lia) (by lia);lia) h5
theorem uj:∀(f:Nat) {p:Array Nat} {k:Nat},Srt n key p k->k+f=n->Dt n key (kas_bin f p k) λp'=>Srt n key p' n
 |0,p,k,h,hf=>by
  have:k=n:=by lia
  subst this;exact h
 |f+1,p,k,h,hf=>by
  refine Ev (Dz (λl hl=>?_) (Qk h (by lia) k 0 k (Zyl _) (Zzu _) (by lia) (λi hi=>by lia) (λi hi hik=>by lia)));let⟨l1,l2,l3⟩:=hl;have hs:=h.sz;have pb:=λi=>wu (p:=p) (src:=k) (d:=k - l) (by lia) (by lia) i;have ed:k - (k - l)=l:=by lia
  rw[ed] at pb;have ek:=h.fix k (Zzu _) (by lia);refine uj f ⟨by rw[bubble_size,hs],(Array.perm_iff_toList_perm.mp (bubble_perm _ _ _)).trans h.pm,λi j hij hj=>?_,λi hi hin=>?_,λi hi=>?_⟩ (by lia)
  ·rw[pb i,pb j];by_cases a:i=l
   ·rw[GE a,GD (by lia),GE ⟨by lia,by lia⟩,ek];have:=l3 (j - 1) (by lia) (by lia);exact .inl this
   ·rw[GD a];by_cases b:j=l
    ·rw[GE b,GD (by lia),ek];have h1:=l2 i (by lia);have h2:=h.low i (by lia);unfold klt;lia
    ·rw[GD b];by_cases c:l<i
     ·rw[GE ⟨c,by lia⟩,GE ⟨by lia,by lia⟩];exact h.up (i - 1) (j - 1) (by lia) (by lia)
     ·rw[GD (λz=>c z.1)];by_cases d:l<j
      ·rw[GE ⟨d,by lia⟩];exact h.up i (j - 1) (by lia) (by lia)
      ·rw[GD (λz=>d z.1)];exact h.up i j hij (by lia)
  ·rw[pb i,GD (by lia),GD (by lia)];exact h.fix i (by lia) hin
  ·rw[pb i];split
   ·rw[ek];lia
   ·split
    ·have:=h.low (i - 1) (by lia);lia
    ·have:=h.low i (by lia);lia
theorem vt(h2:2<=n):Dt n key (kas_sort n) λp=>Srt n key p n:=by
 refine Ev (Dz (λr hr=>?_) (uc h2));let⟨r1,r2,r3⟩:=hr;by_cases z:r.1<n
 ·rw[GE z];have e:max r.1 1=r.1:=by lia
  rw[e];exact uj _ r3 (by lia)
 ·rw[GD z];have e:r.1=n:=by lia
  rw[e] at r3;exact r3
theorem Yk{α:Type}{Qp:α->Prop}{Q:α->Shared->Prop}(hc:∀i j (C:Bool->Shared->Prop),i<n->j<n->C (decide (key i<key j)) s->cmp i j C s)(hq:∀a,Qp a->Q a s):∀{t:KasT α},Dt n key t Qp->t.kasWp cmp Q s
 |.ret _,h=>hq _ h
 |.ask i j k,⟨h1,h2,h3⟩=>hc i j _ h1 h2 (Yk hc hq h3)
def Oq(kz:Str->Int)(xs ys:List Str):Prop:=ys.Perm xs/\ys.Pairwise λa b=>kz a<=kz b
def Mm(kz:Str->Int)(xs ys:List Str):Prop:=∃ps:List Nat,ps.Perm (Zys xs.length)/\ys=ps.map (λi=>xs.getD i "")/\ps.Pairwise (klt λi=>kz (xs.getD i ""))
theorem Qg(xs:List Str):(Zys xs.length).map (λi=>xs.getD i "")=xs:=by
 apply Zwf;intro i;by_cases hi:i<xs.length
 ·rw[Zzx,List.getElem?_range hi,Zzl hi];simp[Zzg,hi]
 ·rw[Zyj (by simp;lia),Zyj (by lia)]
theorem Em{xs:List Str}(h:Mm kz xs ys):Oq kz xs ys:=by
 let⟨ps,h1,rfl,h2⟩:=h;refine⟨?_,?_⟩
 ·have:=h1.map (λi=>xs.getD i "")
  rw[Qg] at this;exact this
 ·rw[List.pairwise_map];exact h2.imp λ{a b} hab=>W4 hab
theorem Zr{xs:List Str}(h:ys.Perm xs)(hl:xs.length<2):Mm kz xs ys:=by
 refine⟨Zys xs.length,List.Perm.refl _,?_,?_⟩
 ·rw[Qg];match xs,hl with
  |[],_=>exact List.perm_nil.mp h
  |[x],_=>exact List.perm_singleton.mp h
 ·rw[Zxh];intro i j hi hj hij;rw[List.length_range] at hi hj;lia
theorem A19{p:Array Nat}(h:Srt n key p n):p.toList.Pairwise (klt key):=by
 rw[Zxh];intro i j hi hj hij;rw[Zy8,h.sz] at hi hj;have:=h.up i j hij hj;unfold pat at this;rw[Zyp,Zyp,Array.getElem?_eq_getElem (by rw[h.sz];exact hi),Array.getElem?_eq_getElem (by rw[h.sz];exact hj)] at this;simpa using this
theorem xj{o:HO}(x:AG P w H h a o):∃ob,h.get? a=some ob:=by
 cases o with
 |lst xs=>let⟨_,_,_,_,e⟩:=x;exact⟨_,e⟩
 |tup xs=>let⟨_,_,_,o,e,_⟩:=x;exact⟨_,e⟩
 |dK kvs=>let⟨_,_,_,_,o,_,_,e,_⟩:=x;exact⟨_,e⟩
 |dT kvs=>let⟨_,_,_,_,o,_,_,e,_⟩:=x;exact⟨_,e⟩
 |set S n=>let⟨o,_,_,_,e,_⟩:=x;exact⟨_,e⟩
 |ins C dx fs=>let⟨_,_,_,e,_⟩:=x;exact⟨_,e⟩
 |own y=>exact x
 |xd fs=>let⟨_,⟨_,_,_,e,_⟩,_⟩:=x;exact⟨_,e⟩
 |rng lo hi=>let⟨_,_,_,e⟩:=x;exact⟨_,e⟩
 |frz o u=>let⟨e,_⟩:=x;exact⟨_,e⟩
 |tbl ps=>exact⟨_,x⟩
 |met f y=>exact⟨_,x⟩
 |ext φ=>let⟨_,e,_⟩:=x;exact e
def Zf(c:Addr)(q:Str):HO:=.ext λh=>h.CodeRec (.ref c) q
theorem ue{c:Addr}(x:h.CodeRec (.ref c) q):AG P w H h c (Zf c q):=by
 let⟨c',o,vs,t,e,ho,r⟩:=id x;cases e;refine⟨x,⟨o,ho⟩,λh1 h2 y k=>?_⟩;let⟨c2,o2,vs2,t2,e2,g2,r2⟩:=y;cases e2;exact⟨c,o2,vs2,t2,rfl,k _ g2,r2⟩
theorem uf{c:Addr}(ok:HOk P w H h)(e:H c=some (Zf c q)):h.CodeRec (.ref c) q:=(ok c _ e).1
def BR(H:Hp)(P:Addr)(pos:Pos)(q:Str):Prop:=H P=some (.tbl #[])\/∃c,H P=some (.tbl #[rawInt pos.line,rawInt pos.col,.ref c])/\H c=some (Zf c q)
theorem BR.same{P:Addr}(t:BR H P pos q)(s:AB H H'):BR H' P pos q:=t.elim (λe=>.inl (s _ _ e)) (λz0=>by let⟨c,e,e2⟩:=z0;exact .inr ⟨c,s _ _ e,s _ _ e2⟩)
def Kj(mg:Str->Option Value)(base:Heap):Prop:=∃bm ob,mg "__builtins__" = some (.ref bm)/\bm≠builtinsNs/\bm≠mainGlobals/\base.get? bm=some ob/\ob.cls=.type "module" /\ ob.dict=some builtinsNs/\ob.data=.plain
theorem qy{P c:Addr}{body:Expr}{clos:List (Str×Addr)}
  (I:Inv X pins σ H s) (hcd:X.env.code=.ref c) (hC:codeHdIn X.K c P=true) (hB:Kj X.mg X.base) (t:BR H P pos (X.env.qual ++ "<lambda>")) (hdef:defaultsOf params X.env=([],[])) (hcl:closureFor scope X.env=pure clos)
  (h:∀f c' ctv H' s',Inv X pins σ H' s'->s'.heap.get? f=some (kla_obj "<lambda>" (X.env.qual ++ "<lambda>") params body scope clos ((X.mg "__name__").getD .none) c' ctv)->H' f=none->H' c'=some (Zf c' (X.env.qual ++ "<lambda>"))->BR H' P pos (X.env.qual ++ "<lambda>")->But P H H'->Q (.ref f) s') :
  wpAny (model X.prog X.w) X.A (eval (.Lambda params body scope pos) X.env) Q X.xe s:=by
 refine kla_eval hdef ?_;have hHP:∃u,H P=some u:=t.elim (λe=>⟨_,e⟩) (λz0=>by let⟨c,e,_⟩:=z0;exact ⟨_,e⟩);let⟨u,hu⟩:=hHP;have neP:∀b o,X.base.get? b=some o->b≠P:=λb o e z=>by rw[z] at e;rw[(I.bs P o e).2] at hu;cases hu
 have C:CodeHd s.heap c P:=codeHd_of_K I.kIn hC;have hg:s.heap.Ns mainGlobals X.mg:=I.ok.mod.glob.keeps I.bk;have hgP:mainGlobals≠P:=by let⟨o,es,ep,e,_⟩:=I.ok.mod.glob;exact neP _ _ e
 have hb:s.heap.BuiltinsAt X.mg P:=by
  let⟨bm,ob,b1,b2,b3,b4,b5⟩:=hB;exact⟨bm,ob,b1,b2,b3,neP _ _ b4,I.bk _ _ b4,b5⟩
 rcases t with e | ⟨c',e,ec⟩
 ·have hP:s.heap.get? P=some (tabObj #[]):=I.hok P _ e
  refine kla_makeFunction (ps:=#[]) hcl I.ok.glob hg hcd C hP trivial rfl hgP hb λc' ctv h' tk hx hge hlt hrec htb=>?_;have hc0:H c'=none:=I.hok.fresh hge;have cP:c'≠P:=λz=>by rw[z,hu] at hc0;cases hc0
  have k:∀b o,b≠P->s.heap.get? b=some o->(h'.push (kla_obj "<lambda>" (X.env.qual ++ "<lambda>") params body scope clos ((X.mg "__name__").getD .none) c' ctv)).get? b=some o:=λb o nb eb=>Zzv _ (hx b o nb eb);have hsz:s.heap.objs.size<=h'.objs.size:=by lia
  have hf:H h'.objs.size=none:=I.hok.fresh hsz;have cf:h'.objs.size≠c':=Zxe hlt;have fP:h'.objs.size≠P:=λz=>by rw[z,hu] at hf;cases hf
  refine h h'.objs.size c' ctv (upd (upd H P (.tbl #[rawInt pos.line,rawInt pos.col,.ref c'])) c' (Zf c' (X.env.qual ++ "<lambda>"))) _ (I.un (t':=tk) ⟨λb o eb n _ _=>k b o (λz=>by rw[z,hu] at n;cases n) eb,λb o eb n _ _=>⟨o.slots,k b o (λz=>by rw[z,hu] at n;cases n) eb⟩,λb o eb n _=>?_,λb o eb _=>?_,λb xs eb=>?_,λb o u' eb=>?_,λb ps eb=>?_⟩ λb v eb=>?_) (Zzj _ rfl) ?_ AA ?_ ?_
  ·rw[A6 (Zz0 (Zzb (Zzo eb) hge)),A6 (λz=>by rw[z,hu] at n;cases n)];exact n
  ·by_cases z:b=P
   ·rw[z];exact⟨_,Zzv _ htb⟩
   ·exact⟨o,k b o z eb⟩
  ·rw[A6 (A8 eb hc0),A6 (λz=>by rw[z,e] at eb;cases eb)];exact eb
  ·rw[A6 (A8 eb hc0),A6 (λz=>by rw[z,e] at eb;cases eb)];exact eb
  ·by_cases z:b=P
   ·subst z;rw[e] at eb;cases eb;exact⟨#[rawInt pos.line,rawInt pos.col,.ref c'],by rw[A6 (Zza cP),AA];simp⟩
   ·exact⟨#[],by rw[A6 (A8 eb hc0),A6 z,eb];simp⟩
  ·by_cases z:b=c'
   ·subst z;rw[AA] at eb;cases eb;exact ue (hrec.push _)
   ·rw[A6 z] at eb;by_cases z2:b=P
    ·subst z2;rw[AA] at eb;cases eb;exact Zzv _ htb
    ·rw[A6 z2] at eb;refine(I.hok b v eb).stay (λb' u' hb' q=>k b' u' (λz3=>?_) q) (λb' q=>?_) λb' xs q=>?_
     ·rcases hb' with r | r
      ·exact z2 (r.symm.trans z3)
      ·rw[z3,e] at r;cases r
     ·rw[A6 (A8 q hc0),A6 (λz3=>by rw[z3,e] at q;cases q)];exact q
     ·rw[A6 (A8 q hc0),A6 (λz3=>by rw[z3,e] at q;cases q)];exact q
  ·rw[A6 cf,A6 fP];exact hf
  ·exact .inr ⟨c',by rw[A6 (Zza cP),AA],AA⟩
  ·exact λb o nb eb=>by rw[A6 (A8 eb hc0),A6 nb];exact eb
 ·have hP:s.heap.get? P=some (tabObj #[rawInt pos.line,rawInt pos.col,.ref c']):=I.hok P _ e
  refine kla_makeFunctionHit (cv:=.ref c') hcl I.ok.glob hg hcd C hP trivial (by simp[codeAmong,rawInt]) hb λctv h' tk hk hsz=>?_;have k:∀b o,s.heap.get? b=some o->(h'.push (kla_obj "<lambda>" (X.env.qual ++ "<lambda>") params body scope clos ((X.mg "__name__").getD .none) c' ctv)).get? b=some o:=λb o eb=>Zzv _ (hk b o eb);exact h h'.objs.size c' ctv H _ (I.kept (t':=tk) k) (Zzj _ rfl) (I.hok.fresh hsz) ec (.inr ⟨c',e,ec⟩) (But.refl _ _)
theorem xz{c' d cc:Addr}{nm lv:Str}{p1 p2 p3:Pos}{pm ctv:Value}{k:Int}{t t0:Tok}{vs:List (Key×Value)}
  (hf:s.heap.get? f=some (kla_obj "<lambda>" q params (.Subscript (.Name lv p1) (.Name nm p2) p3) scope [(lv,cc)] pm c' ctv)) (hrec:s.heap.CodeRec (.ref c') q) (hcell:s.heap.IsCell cc (some (.ref d))) (hd:s.heap.DictOf (B3 prog w) d vs) (hv:valueAt vs (.inr x)=some (.int k t))
  (hroom:A.depth<recursionLimit) (hlim:s.heap.NoLimit) (hsc:scope.kind=.function/\scope.isCoroutine=false/\scope.isGenerator=false/\scope.names.lookup nm=some .local/\scope.names.lookup lv=some .free/\∀x∈scope.names,x.2≠.cell)
  (hbind:bindArgs (kla_fn "<lambda>" q params (.Subscript (.Name lv p1) (.Name nm p2) p3) scope [(lv,cc)] pm (.ref c') ctv) ⟨[.str x t0],[]⟩=pure [(nm,.str x t0)]) (hn1:(nm == ("__debug__" : Str))=false:=by decide) (hn2:(lv == ("__debug__" : Str))=false:=by decide) (hn3:(lv == ("__classdict__" : Str))=false:=by decide) :
  wpAny (model prog w) A (call (.ref f) [.str x t0]) (λv s'=>∃h' tk t',s'={s with heap:=h',toks:=tk}/\v=.int k t'/\∀b o,s.heap.get? b=some o->h'.get? b=some o) (λ_ _=>False) s:=by
 let⟨k1,k2,k3,k4,k5,k6⟩:=hsc;refine wpAny_call (kla_callFunE hroom hf rfl k2 k3 rfl hrec ?_);rw[hbind];refine GG (wpAny_newFunctionEnv k6 (λy hy=>?_) (λh₁ hns hsb=>?_) k1)
 ·rw[Zzh.mp hy];exact k4
 have hk:∀b o,s.heap.get? b=some o->h₁.get? b=some o:=λb o e=>hsb.extBut b o (Zz0 (Zzo e)) (Zzv _ e);refine⟨hlim.fresh _ hsb,kla_codeExpr ?_⟩;have hd1:h₁.DictOf (B3 prog w) d vs:=by
  let⟨o,es,ep,ho,r⟩:=hd;exact⟨o,es,ep,hk _ _ ho,r⟩
 have hc1:h₁.IsCell cc (some (.ref d)):=by
  let⟨o,ho,r⟩:=hcell;exact⟨o,hk _ _ ho,r⟩
 refine wpAny_Subscript_Name (T := "dict") F.slot_dict_getitem.lookup (wpAny_Name (wpAny_loadName_free k1 k5 (c:=cc) (by simp[newEnv]) hc1 (wpAny_Name (wpAny_loadName_local k1 k4 hns (v:=.str x t0) (by simp) ⟨hd1.typeIs,?_⟩) hn1) hn3) hn2);refine wpAny_getItem_of (knd:=B3 prog w) (k:=.inr x) ?_ hd1.mapOf hv ?_
 ·exact Ub (k:=.inr x) ⟨t0,rfl⟩
 ·exact⟨_,_,_,rfl,rfl,hk⟩
def AK:Value->Str
 |.str x _=>x
 |_ => ""
theorem ki{xs:List Str}(r:AC (xs.map V.str) us):us.map AK=xs/\∀u∈us,∃t,u=.str (AK u) t:=by
 induction xs generalizing us with
 |nil=>cases r;exact⟨rfl,λ_ h=>nomatch h⟩
 |cons x xs ih =>
  cases r with
  |cons r1 r2 =>
   let⟨t,rfl⟩:=r1;let⟨e,h⟩:=ih r2;refine⟨by rw[Zzk,e];rfl,λu hu=>?_⟩;rcases Zzw.mp hu with z | z
   ·rw[z];exact⟨t,rfl⟩
   ·exact h u z
theorem Nv:∀{us:List Value},(∀u∈us,∃t,u=.str (AK u) t)->AC ((us.map AK).map V.str) us
 |[],_=>.nil
 |u::us,h=>by
  let⟨t,e⟩:=h u Zzq;exact .cons ⟨t,e⟩ (Nv λv hv=>h v (Zzs _ hv))
theorem Ic:∀{vs:List Value} {ns:List Int} {i:Nat} {n:Int},IntsAre vs ns->ns[i]?=some n->∃t,vs[i]?=some (.int n t)
 |_,_,i,n,.nil,e=>by simp at e
 |_,_,0,n,.cons k t _,e=>by
  have:k=n:=by simpa using e
  subst this;exact⟨t,rfl⟩
 |_,_,i+1,n,.cons _ _ r,e=>by
  let⟨t,h⟩:=Ic (i:=i) r (by simpa using e);exact⟨t,by simpa using h⟩
theorem cx:∀{us:List Value} {p:Int×Value},p∈((us.map AK).map kz).zip us->p.2∈us/\p.1=kz (AK p.2)
 |[],p,h=>by simp at h
 |u::us,p,h=>by
  rw[Zzk,Zzk,List.zip_cons_cons] at h;rcases Zzw.mp h with z | z
  ·rw[z];exact⟨Zzq,rfl⟩
  ·let⟨h1,h2⟩:=cx z;exact⟨Zzs _ h1,h2⟩
theorem i6{out:List Value}(h:KskOut false ((us.map AK).map kz) us out):(∀u∈out,u∈us)/\Oq kz (us.map AK) (out.map AK):=by
 let⟨ps,hp,rfl,hs⟩:=h;have hz:∀p∈ps,p.2∈us/\p.1=kz (AK p.2):=λp hm=>cx (hp.mem_iff.mp hm);refine⟨λu hu=>?_,?_,?_⟩
 ·let⟨p,hm,rfl⟩:=Zzt.mp hu;exact(hz p hm).1
 ·have e:(((us.map AK).map kz).zip us).map (λp=>AK p.2)=us.map AK:=by
   have:(((us.map AK).map kz).zip us).map Prod.snd=us:=List.map_snd_zip (by simp);have h2:=congrArg (Zy6 AK) this;rw[Zyq] at h2;exact h2
  rw[Zyq,<- e];exact hp.map _
 ·rw[Zyq,List.pairwise_map];refine hs.imp_of_mem λ{a b} ha hb hab=>?_;have hab:a.1<=b.1:=hab;rw[(hz a ha).2,(hz b hb).2] at hab;exact hab
noncomputable def Pm(P:Addr)(pos:Pos)(q:Str)(i:Nat)(σ:St)(Q:VK)(x:V)(H1:Hp):Prop:=∃(l:Addr) (xs:List Str) (d:Addr) (kvs:List (Key×V)) (kz:Str->Int),x=.ref l/\H1 l=some (.lst (xs.map V.str))/\xs.length<64/\σ[i]?=some (some (.ref d))/\H1 d=some (.dK kvs) /\
 (∀x∈xs,C1 kvs (.inr x)=some (.int (kz x)))/\BR H1 P pos q/\∀r ys H2,H1 r=none->H2 r=some (.lst (ys.map V.str))->Oq kz xs ys->Mm kz xs ys->BR H2 P pos q->But P H1 H2->Q (.ref r) H2
def lh(P:Addr)(pos:Pos)(q:Str)(i:Nat)(te:TE):TE:=λσ H Q=>te σ H (Pm P pos q i σ Q)
theorem nz{p1 p2 kp lp q1 q2 q3:Pos}{k:Nat}{nm lv:Str}{P c:Addr}(hg:Gl X "sorted")(hm:X.mg "sorted" = none)(he:PE X e te)(hr:AM k X.A)
  (hcd:X.env.code=.ref c) (hC:codeHdIn X.K c P=true) (hB:Kj X.mg X.base) (hdef:defaultsOf params X.env=([],[])) (hN:X.N[i]?=some lv) (hlv:X.env.scope.names.lookup lv=some .cell) (hcl:∀cc,X.env.cells.lookup lv=some cc->closureFor scope X.env=pure [(lv,cc)])
  (hsc:scope.kind=.function/\scope.isCoroutine=false/\scope.isGenerator=false/\scope.names.lookup nm=some .local/\scope.names.lookup lv=some .free/\∀x∈scope.names,x.2≠.cell)
  (hbind:∀(cc c':Addr) (pm ctv v:Value),bindArgs (kla_fn "<lambda>" (X.env.qual ++ "<lambda>") params (.Subscript (.Name lv q1) (.Name nm q2) q3) scope [(lv,cc)] pm (.ref c') ctv) ⟨[v],[]⟩=pure [(nm,v)])
  (hn1:(nm == ("__debug__" : Str))=false:=by decide) (hn2:(lv == ("__debug__" : Str))=false:=by decide) (hn3:(lv == ("__classdict__" : Str))=false:=by decide) (hn:Bw [e]=true:=by rfl) :
  PE X (.Call (.Name "sorted" p1) [e] [⟨some "key",.Lambda params (.Subscript (.Name lv q1) (.Name nm q2) q3) scope lp,kp⟩] p2) (lh P lp (X.env.qual ++ "<lambda>") i te):=by
 intro pins s σ H Q I h;refine wpAny_Call_Name_kw (Gz I hg hm NP.jx ?_ (by decide) (by decide));have hx:∃cc,X.env.cells.lookup lv=some cc:=I.ok.has lv (.inl hlv);let⟨cc,hcc⟩:=hx;refine callWith_kw (thn ((A2 he A0 hn) p2 pins s σ H (λvs H1=>match vs with | [x]=>Pm P lp (X.env.qual ++ "<lambda>") i σ Q x H1 | _=>False) I h) λus s1 ⟨vs,H1,I1,r1,hv⟩=>?_) ?_ ?_ rfl rfl
 ·match vs,hv,r1 with
  |[x],⟨l,xs,d,kvs,kz,ex,hl,h64,hσ,hd,hval,tb,q⟩,r1 =>
  subst ex;let⟨u,rfl,ru⟩:=F9 r1;cases ru;refine kws_cons (qy I1 hcd hC hB tb hdef (hcl cc hcc) λf c' ctv H' s2 I2 hf Hf hc' tb' bt=>kws_nil ?_);have hPs:∃u,H1 P=some (.tbl u):=tb.elim (λe=>⟨_,e⟩) (λz0=>by let⟨c,e,_⟩:=z0;exact ⟨_,e⟩);let⟨pt,hPt⟩:=hPs;have hl2:H' l=some (.lst (xs.map V.str)):=bt _ _ (λz=>by rw[z,hPt] at hl;cases hl) hl;have hd2:H' d=some (.dK kvs):=bt _ _ (λz=>by rw[z,hPt] at hd;cases hd) hd;let⟨its,rv,hil,hlt⟩:=C6 I2 hl2;let⟨eit,hit⟩:=ki rv;let⟨m,F⟩:=I2.fr;let⟨zd,nd,dv,rel,hdd⟩:=I2.hok d _ hd2;have hcell:s2.heap.IsCell cc (some (.ref d)):=by
   let⟨m',hn',hl'⟩:=I2.loc;let⟨u,ru,lk⟩:=hl' i lv (.ref d) hN hσ (.inr (.inl hlv));cases ru;rcases lk with ⟨hk,_⟩ | ⟨_,c2,e2,e3⟩
   ·have hk:X.env.scope.names.lookup lv=some .local:=hk
    rw[hlv] at hk;cases hk
   ·rw[hcc] at e2;cases e2;exact e3
  have hrec:s2.heap.CodeRec (.ref c') (X.env.qual ++ "<lambda>"):=uf I2.hok hc';have nL:∀b o,s2.heap.get? b=some o->(∀es ep,o.data≠.dict es ep)->b≠X.env.locals:=λb o e n z=>by
   let⟨oL,es,ep,e2,d2,_⟩:=F.ns;rw[<- z,e] at e2;cases e2;exact n _ _ d2
  have keepA:∀(h:Heap) (own:List (Addr×Obj)),Fr X.base X.env.locals h m->News X.base X.env.locals h (Dv X.base s2.heap X.env.locals++own)->∀b o,b≠X.env.locals->s2.heap.get? b=some o->h.get? b=some o:=λh own F' N' b o nb e=>by
   cases z:X.base.get? b with
   |some u =>
    have:=I2.bk b u z;rw[e] at this;cases this;exact F'.keep b _ z
   |none=>exact(N' (b,o) (Zyi _ (Og nb z e))).1
  have hil2:its.length=xs.length:=by have:=rv.length;rw[Zzz] at this;exact this.symm
  have step:∀(v:Value),v∈its->∀(h:Heap) (tk:Nat) (own:List (Addr×Obj)),Fr X.base X.env.locals h m->News X.base X.env.locals h (Dv X.base s2.heap X.env.locals++own) ->
    wpAny (model X.prog X.w) X.A.in1.in1 (call (.ref f) [v]) (λv' s'=>∃h' tk' t',s'={s2 with heap:=h',toks:=tk'}/\v'=.int (kz (AK v)) t'/\∀b o,h.get? b=some o->h'.get? b=some o) (λ_ _=>False) {s2 with heap:=h,toks:=tk}:=by
   intro v hvm h tk own F' N';let⟨t,ev⟩:=hit v hvm;have hmem:AK v∈xs:=by rw[<- eit];exact Zzt.mpr ⟨v,hvm,rfl⟩
   have kp:=keepA h own F' N';let⟨w',hw,rw'⟩:=BB.some_of (v:=.int (kz (AK v))) (o:=valueAt dv (.inr (AK v))) (by have:=rel.val (.inr (AK v));rw[hval _ hmem] at this;exact this);let⟨tk',ew⟩:=rw';subst ew;have dL:d≠X.env.locals:=λz=>by rw[z,I2.free] at hd2;cases hd2
   have cL:cc≠X.env.locals:=I2.cne lv cc hcc;have fL:f≠X.env.locals:=nL f _ hf (λes ep z=>by cases z);have c'L:c'≠X.env.locals:=λz=>by rw[z,I2.free] at hc';cases hc'
   have hroom:X.A.depth<recursionLimit:=by have:=hr.dp;lia
   have hk1:=xz (prog:=X.prog) (w:=X.w) (A:=X.A.in1.in1) (s:={s2 with heap:=h,toks:=tk}) (nm:=nm) (lv:=lv) (x:=AK v) (k:=kz (AK v)) (t:=tk') (t0:=t) (vs:=dv) (kp f _ fL hf) (by
    let⟨c2,o,vs,t2,e1,e2,r⟩:=hrec
    cases e1
    exact⟨c',o,vs,t2,rfl,kp _ _ c'L e2,r⟩) (by
    let⟨o,e1,r⟩:=hcell
    exact⟨o,kp _ _ cL e1,r⟩) (by
    let⟨o,es,ep,e1,r⟩:=hdd
    exact⟨o,es,ep,kp _ _ dL e1,r⟩) hw hroom (I2.ok.mod.nolimit.keeps F'.keep) hsc (hbind cc c' _ ctv _) hn1 hn2 hn3
   rw[<- ev] at hk1;exact hk1
  have fin:∀(D:Addr) (h':Heap) (tk:Nat) (out:Array Value) (c:Nat),Fr X.base X.env.locals h' m->News X.base X.env.locals h' ((D,seqObj "list" out c)::Dv X.base s2.heap X.env.locals)->(∀q∈Dv X.base s2.heap X.env.locals,q.1<D)->(∀u∈out.toList,u∈its)->Mm kz xs (out.toList.map AK)->EP X pins σ Q (.ref D) {s2 with heap:=h',toks:=tk}:=by
   intro D h' tk out c F' N' hlt2 hsub hstab;have hsort:=Em hstab;have hD:=N' (D,seqObj "list" out c) Zzq;have N2:News X.base X.env.locals h' (Dv X.base s2.heap X.env.locals++[]):=λp hp=>N' p (Zzs _ (by rw[Zyt] at hp;exact hp));have kp:=keepA h' [] F' N2;have tL:∀b u,H' b=some u->b≠X.env.locals:=λb u e z=>by rw[z,I2.free] at e;cases e
   have neD:∀b o,s2.heap.get? b=some o->b≠D:=λb o e z=>by
    by_cases hb:b=X.env.locals
    ·exact hD.2.1 (z.symm.trans hb)
    ·cases y:X.base.get? b with
     |some u=>rw[z] at y;rw[hD.2.2] at y;cases y
     |none=>exact absurd (hlt2 (b,o) (Og hb y e)) (by rw[z];exact Zx0 _)
   have HD:H' D=none:=by
    cases y:H' D with
    |none=>rfl
    |some u =>
     let⟨o,e⟩:=(show ∃o,s2.heap.get? D=some o from xj (I2.hok D u y));exact absurd rfl (neD D o e)
   have vs2:AC ((out.toList.map AK).map V.str) out.toList:=Nv λu hu=>hit u (hsub u hu);have hlen:(out.toList.map AK).length=xs.length:=hsort.1.length_eq;have I3:Inv X pins σ (upd H' D (.lst ((out.toList.map AK).map V.str))) {s2 with heap:=h',gens:=s2.gens,drawn:=s2.drawn,toks:=tk}:=by
    refine I2.step (g':=s2.gens) (d':=s2.drawn) (ch:=[]) (λ_ z=>nomatch z) (λb o nb _ _ e _=>kp b o nb e) (λb o nb _ _ e _=>⟨o.slots,kp b o nb e⟩) (λb o _ e n=>by rw[A6 (neD b o e)];exact n) (λb o _ e=>?_)
     (λb ys e=>by rw[A6 (A8 e HD)];exact e) (λb o u e=>by rw[A6 (A8 e HD)];exact e) (λb ps e=>⟨#[],by rw[A6 (A8 e HD),e];simp⟩) (λm' hm'=>?_) (λb u e=>?_) I2.bare
    ·by_cases hb:b=X.env.locals
     ·let⟨oL,_,_,e2,_⟩:=F'.ns;exact⟨oL,by rw[hb];exact e2⟩
     ·exact⟨o,kp b o hb e⟩
    ·have em:m'=m:=funext λx=>hm'.agree F.ns x
     rw[em];exact F'.ns
    ·by_cases hb:b=D
     ·subst hb;rw[AA] at e;cases e;refine⟨by rw[Zzz,hlen];exact Am (by lia),out.toList,c,vs2,?_⟩;rw[Array.toArray_toList];exact hD.1
     ·rw[A6 hb] at e;refine(I2.hok b u e).stay (λb' u' hb' q'=>kp b' u' ?_ q') (λb' q'=>by rw[A6 (A8 q' HD)];exact q') λb' ys q'=>by rw[A6 (A8 q' HD)];exact q'
      rcases hb' with r | r
      ·rw[r];exact tL b u e
      ·exact tL b' _ r
   have H1D:H1 D=none:=by
    cases y:H1 D with
    |none=>rfl
    |some u =>
     have hDP:D≠P:=λz=>by
      have:H' P=none:=by rw[<- z];exact HD
      rcases tb' with e | ⟨_,e,_⟩<;>· rw[this] at e;cases e
     rw[bt _ _ hDP y] at HD;cases HD
   exact⟨.ref D,_,I3,rfl,q D _ _ H1D AA hsort hstab (tb'.same (A7 HD)) (bt.new HD)⟩
  by_cases h2:2<=its.length
  ·refine kat_sortedK (f:=.ref f) (b:=false) F Y9 hil h2 (by lia) (ksk_s1 _ _) (λx=>ksk_l1 _ _) (λx=>ksk_t1 _ _) λD kS e1 h' F' N' hDk hlt2=>?_;have keys:∀(AO ks don:List Value) (e:Nat) (h:Heap) (tk:Nat),its=don++AO->IntsAre ks ((don.map AK).map kz)->Fr X.base X.env.locals h m->News X.base X.env.locals h ((kS,seqObj "list" (Zyf ks) e)::(D,seqObj "list" #[] e1)::Dv X.base s2.heap X.env.locals) ->
     KatKeys X.prog X.w X.A.in1.in1 X.base X.env.locals m kS (.ref f) (λks e s'=>wpAny (model X.prog X.w) X.A.in1.in1 (keyKind' (Zyf ks)) (λκ s''=>(kas_sort its.length).kasWp (kas_ask X.prog X.w X.A.in1.in1 κ (katRev false ks)) (λp s3=>KatFin X.base X.env.locals m kS D ks e e1 (katRev false (p.toList.map λi=>(katRev false its).getD i Value.none)) (λs4=>EP X pins σ Q (.ref D) s4) s3) s'') (λ_ _=>False) s') AO ks e {s2 with heap:=h,toks:=tk}:=by
    intro AO;induction AO with
    |nil =>
     intro ks don e h tk eq hi Fh Nh;rw[Zyt] at eq;subst eq;have hkl:ks.length=its.length:=by have:=hi.length;rw[Zzz,Zzz] at this;exact this
     show wpAny (model X.prog X.w) X.A.in1.in1 (keyKind' (Zyf ks)) _ _ _;rw[ksk_kind (keys:=Zyf ks) (kz:=(its.map AK).map kz) (by simpa using hi) (by simp;lia)];refine GG ?_;have kat:∀i,i<its.length->∃t,ks.getD i Value.none=.int (kz (AK (its.getD i Value.none))) t:=λi hi2=>by
      have h1:((its.map AK).map kz)[i]?=some (kz (AK (its.getD i Value.none))):=by
       rw[Zzx,Zzx,Zzl hi2,Zzg,Zzl hi2];rfl
      let⟨t,ht⟩:=Ic hi h1;exact⟨t,by rw[Zzg,ht];rfl⟩
     refine Yk (n:=its.length) (key:=λi=>kz (AK (its.getD i Value.none))) (Qp:=λp=>Srt its.length (λi=>kz (AK (its.getD i Value.none))) p its.length) (λi j C hi2 hj2 hC=>?_) (λp hp=>?_) (vt h2)
     ·let⟨t1,e1'⟩:=kat i hi2;let⟨t2,e2'⟩:=kat j hj2;show wpAny _ _ (keyLt' oneType' (ks.getD i Value.none) (ks.getD j Value.none)) C _ _;rw[e1',e2'];exact kat_lt_int hC
     ·have nkD:kS≠D:=Zxe hDk
      have nall:∀q∈Dv X.base s2.heap X.env.locals,q.1≠kS/\q.1≠D:=λq hq=>by have:=hlt2 q hq;exact⟨Zz0 (Nat.lt_trans this hDk),Zz0 this⟩
      refine KatFin.intro Fh Nh (.head λq hq=>?_) λh3 c3 F3 N3=>KasFin.intro F3 N3 (.tail nkD (.head λq hq=>(nall q hq).2)) λh4 c4 F4 N4=>?_
      ·rcases Zzw.mp hq with z | z
       ·rw[z];exact Zza nkD
       ·exact(nall q z).1
      ·refine fin D h4 tk (Zyf (p.toList.map λi=>its.getD i Value.none)) c4 F4 (λq hq=>N4 q (Zzs _ hq)) hlt2 (λu hu=>?_) ?_
       ·have hu:u∈p.toList.map λi=>its.getD i Value.none:=by simpa using hu
        let⟨i,hi2,rfl⟩:=Zzt.mp hu;have hi3:i<its.length:=Zvs.mp (hp.pm.mem_iff.mp hi2);rw[Zzg,Zzl hi3];exact Zvc hi3
       ·have exs:∀i,xs.getD i "" = AK (its.getD i Value.none):=λi=>by
         rw[<- eit,Zzg,Zzg,Zzx];cases its[i]?<;>rfl
        refine⟨p.toList,by rw[<- hil2];exact hp.pm,?_,?_⟩
        ·rw[Zyq];exact Zxx λi _=>(exs i).symm
        ·have:(λi=>kz (xs.getD i ""))=λi=>kz (AK (its.getD i Value.none)):=funext λi=>by rw[exs]
         rw[this];exact A19 hp
    |cons v r ih =>
     intro ks don e h tk eq hi Fh Nh;have hvm:v∈its:=by rw[eq];simp
     have Nh2:News X.base X.env.locals h (Dv X.base s2.heap X.env.locals++[(kS,seqObj "list" (Zyf ks) e),(D,seqObj "list" #[] e1)]):=λq hq=>by
      rcases Zz3.mp hq with z | z
      ·exact Nh q (Zzs _ (Zzs _ z))
      ·rcases Zzw.mp z with y | y
       ·rw[y];exact Nh _ Zzq
       ·rw[Zzh.mp y];exact Nh _ (Zzs _ Zzq)
     refine KatKeys.cons (wpAny_mono (step v hvm h tk _ Fh Nh2) (λv' s' hh=>?_) (λ_ _ z=>z));let⟨h3,tk3,t3,e1',e2',k3⟩:=hh;subst e1' e2';have nkD:kS≠D:=Zxe hDk;refine KatBack.intro (F:=Fh.kept k3) (N:=Nh.grown k3) (U:=.head λq hq=>?_) λh4 c4 F4 N4=>?_
     ·rcases Zzw.mp hq with z | z
      ·rw[z];exact Zza nkD
      ·have:=hlt2 q z;exact Zz0 (Nat.lt_trans this hDk)
     ·exact ih (ks++[.int (kz (AK v)) t3]) (don++[v]) c4 h4 tk3 (by rw[eq];simp) (by rw[Zzd,Zzd];exact ksk_snoc hi) F4 N4
   exact keys its [] [] 0 h' s2.toks rfl .nil F' N'
  ·refine ksk_sorted (kz:=(its.map AK).map kz) (f:=.ref f) (b:=false) F Y9 hil (by simp) (by lia) (ksk_s1 _ _) (λx=>ksk_l1 _ _) (λx=>ksk_t1 _ _) (λj v kk hv hk h tk own F' N'=>?_) (λD h' tk out c F' N' hlt2 hout=>?_)
   ·have ek:kk=kz (AK v):=by
     rw[Zzx,Zzx,hv] at hk;exact(Zzm hk).symm
    subst ek;refine wpAny_mono (step v (Zzn hv) h tk own F' N') (λv' s' hh=>?_) (λ_ _ z=>z);let⟨h3,tk3,t3,e1,e2,k3⟩:=hh;subst e1 e2;exact⟨h3,tk3,t3,rfl,rfl,F'.kept k3,N'.grown k3⟩
   ·let⟨hsub,hsort⟩:=i6 hout;rw[eit] at hsort;exact fin D h' tk out c F' N' hlt2 hsub (Zr hsort.1 (by lia))
 ·rw[Cr hn];rfl
 ·exact C7 hn
def A4l(H:Hp)(a Pt:Addr):Prop:=∀b u,H b=some u->(b=Pt/\u=.tbl #[])\/(b=a/\∃o xs,u=.frz o (.lst xs))
theorem Yt{K:Frag}{mb:Str->Option Value}{k:Nat}{fa ct:Addr}{s₁:Shared}
  (KX:K.In s₁.heap) (hns:s₁.heap.Ns mainGlobals mg) (hb:s₁.heap.Ns builtinsNs mb) (hbb:∀x:Str,x ≠ "__name__" -> mb x=bootBuiltins x) (hlim:s₁.heap.NoLimit) (hg:s₁.gens=#[]) (hr:AM k callerA)
  (hT:s₁.heap.TableAt ct Pt #[]) (hBM:Kj mg s₁.heap) (hO:A4l H a Pt) (hHK:∀b u,H b=some u->K.lookup b=none) (ok:HOk P w H s₁.heap)
  (F:∀base:Heap,K.In base->base.Ns mainGlobals mg->Kj mg base->Aq P w K mg base CX0 k fa fd [x] sp) (hbind:∀(s:Shared) (u:Value),BindsTo s fd ⟨[u],[]⟩ [(x,u)])
  (hsp:sp [.ref a] H (λv _=>v=.bl true) λ_ _ _=>False) :
  codeAny (model P w) callerA (.call (.ref fa) ⟨[.ref a],[]⟩) (λr s'=>r=.ok (.ret (.bool true))/\OldK s₁.heap s'.heap/\s'.os=s₁.os/\AllBare s'.gens) s₁:=by
 have noD:∀{b:Addr} {o:Obj},s₁.heap.get? b=some o->(∀vs:Array Value,o.data≠.fields vs)->(∀vs n,o.data≠.seq vs n)->H b=none:=λ{b o} e n1 n2=>by
  cases q:H b with
  |none=>rfl
  |some u =>
   have y:=ok b u q;rcases hO b u q with ⟨_,rfl⟩ | ⟨_,ob,xs,rfl⟩
   ·have y:s₁.heap.get? b=some {cls:=.none,data:=.fields #[]}:=y
    rw[e] at y;cases y;exact absurd rfl (n1 _)
   ·let⟨_,_,its,m,_,y3⟩:=y;rw[e] at y3;cases y3;exact absurd rfl (n2 _ _)
 have baseG:∀{b:Addr} {o:Obj},s₁.heap.get? b=some o->H b=none->(T5 s₁.heap H).get? b=some o:=λe n=>se e n;have nsB:∀{b:Addr} {m:Str->Option Value},s₁.heap.Ns b m->(T5 s₁.heap H).Ns b m:=λ{b m} ⟨o,es,ep,e,d,r⟩=>⟨o,es,ep,baseG e (noD e (λ_ z=>by rw[d] at z;cases z) (λ_ _ z=>by rw[d] at z;cases z)),d,r⟩;have kB:K.In (T5 s₁.heap H):=λb o e=>baseG (KX b o e) (by
  cases q:H b with
  |none=>rfl
  |some u=>rw[hHK b u q] at e;cases e)
 have bB:Kj mg (T5 s₁.heap H):=by
  let⟨bm,ob,b1,b2,b3,b4,b5,b6,b7⟩:=hBM;exact⟨bm,ob,b1,b2,b3,baseG b4 (noD b4 (λ_ z=>by rw[b7] at z;cases z) (λ_ _ z=>by rw[b7] at z;cases z)),b5,b6,b7⟩
 have mB:Mod K mg (T5 s₁.heap H):=⟨kB,nsB hns,⟨mb,nsB hb,hbb⟩,by let⟨mc,h1,h2⟩:=hlim;exact⟨mc,nsB h1,h2⟩⟩;have e0:DP P w K mg (T5 s₁.heap H) callerA [] s₁ H:=⟨rfl,mB,λb o e=>xi e,Zvz (je _ _),trivial,(λb hb=>nomatch (show b∈([]:List Addr) from hb)),ok,.of_eq hg⟩;refine codeAny_mono ((F _ kB (nsB hns) bB).run callerA [] s₁ H ⟨[.ref a],[]⟩ [.ref a] [.ref a] _ _ hr e0 (hbind s₁ (.ref a)) (.cons rfl .nil) hsp) λr s' h=>?_;cases r with
 |error e=>exact h.elim
 |ok fl =>
  cases fl with
  |next=>exact h.elim
  |brk=>exact h.elim
  |cont=>exact h.elim
  |ret u =>
   let⟨v,H',os,bare,un,ok',r',q⟩:=h;have q:v=.bl true:=q;subst q;obtain rfl:u=Value.bool true:=r';have old:∀b o,s₁.heap.get? b=some o->asItWas s₁.heap s'.heap b o:=λb o e=>by
    cases y:H b with
    |none=>exact .inl (un.keep b o e y (by intro z;cases z) (by simp))
    |some u =>
     have ob:=ok b u y;rcases hO b u y with ⟨rfl,rfl⟩ | ⟨_,oo,xs,rfl⟩
     ·let⟨more,e2⟩:=un.tbls b #[] y;have ob:s₁.heap.get? b=some {cls:=.none,data:=.fields #[]}:=ob;rw[e] at ob;cases ob;have e3:s'.heap.get? b=some {cls:=.none,data:=.fields (#[]++more)}:=ok' b _ e2;exact .inr (.inl ⟨hT.isCodeTable,rfl,#[],more,rfl,e3⟩)
     ·have e2:=un.frzs b oo _ y
      have e3:=(ok' b _ e2).1;have e4:=ob.1;rw[e] at e4;cases e4;exact .inl e3
   exact⟨rfl,⟨old,λb o e=>un.there b o e (by simp)⟩,os,bare⟩
theorem kh{l:OpenLaw}{k:Nat}{q:Program}{d dw:DefRec}{K:Params->Frag}{sp:World->Addr->Sp}{wk:Str}
  (hn:l.most=some n) (hn2:n<=sizeLine) (hdf:d.params.defaults=[]) (hr:AM k callerA) (hY:∀(w:World) (h:Heap),YP w h->(K w.params).In h) (hw:(recsOf q).find? (λe=>e.name == wk)=some dw)
  (F:∀(w:World) (mg:Str->Option Value) (fa:Addr) (h:Heap),(K w.params).In h->h.Ns mainGlobals mg->mg d.name=some (.ref fa) ->
   ∃(fd:FuncData) (ct Pt:Addr),(∀(s:Shared) (u:Value),BindsTo s fd ⟨[u],[]⟩ [(x,u)])/\tabIn (K w.params) wk=some (ct,Pt)/\(K w.params).lookup Pt=none /\
    ∀base:Heap,(K w.params).In base->base.Ns mainGlobals mg->Kj mg base->Aq l.prog w (K w.params) mg base CX0 k fa fd [x] (sp w Pt))
  (hsp:∀(w:World) (H:Hp) (a Pt:Addr) (ns:List Int),ns.length<=n->H Pt=some (.tbl #[])->SqL (K w.params) H a (ns.map V.int)->sp w Pt [.ref a] H (λv _=>v=.bl true) λ_ _ _=>False) :
  WalkO q loose XP YP l.row.toRowW d [] (λf vs=>PySem.call f vs):=by
 refine Att.attach_call hn hdf λw s₀ s₁ mg mb fa o pm cd doc a vs ns G Y ho hd hcd hmg hobj hints hlen hg=>?_;have KX:=hY w _ Y;let⟨fd,ct,Pt,hbd,htab,hKP,hF⟩:=F w mg fa _ KX G.T.g hmg;let⟨hC,hP⟩:=tab_of G.T KX hw htab;have hT:=hC.tab hP;have aP:a≠Pt:=λz=>by rw[z,hP] at hobj;cases hobj
 have hBM:Kj mg s₁.heap:=by
  let⟨bm,ob,b1,b2,b3,b4,b5,b6⟩:=G.T.bmain;refine⟨bm,ob,b1,b2,λz=>?_,b3,b4,b5,b6⟩;let⟨og,es,ep,e,dg,_⟩:=G.T.g;rw[<- z,b3] at e;cases e;rw[b6] at dg;cases dg
 have rv:=Tg hints;have lenV:=hints.length;have okP:∀H:Hp,AG l.prog w H s₁.heap Pt (.tbl #[]):=λ_=>hP;cases hk:(K w.params).lookup a with
 |some oa =>
  have e:=KX a oa hk;rw[hobj] at e;cases e;refine Yt (H:=upd (λ_=>none) Pt (.tbl #[])) KX G.T.g G.T.b G.T.builtins G.T.nolimit hg hr hT hBM (λb u y=>?_) (λb u y=>?_) (λb u y=>?_) hF hbd (hsp w _ a Pt ns hlen AA (.inr ⟨_,vs.toArray,_,hk,rfl,rfl,rfl,by rw[Zzr,lenV];exact Zzp hlen hn2,by simpa using rv⟩))
  ·by_cases z:b=Pt
   ·subst z;rw[AA] at y;cases y;exact .inl ⟨rfl,rfl⟩
   ·rw[A6 z] at y;cases y
  ·by_cases z:b=Pt
   ·rw[z];exact hKP
   ·rw[A6 z] at y;cases y
  ·by_cases z:b=Pt
   ·subst z;rw[AA] at y;cases y;exact okP _
   ·rw[A6 z] at y;cases y
 |none =>
  refine Yt (H:=upd (upd (λ_=>none) Pt (.tbl #[])) a (.frz {cls:=.type "list",data:=.seq vs.toArray} (.lst (ns.map V.int)))) KX G.T.g G.T.b G.T.builtins G.T.nolimit hg hr hT hBM (λb u y=>?_) (λb u y=>?_) (λb u y=>?_) hF hbd (hsp w _ a Pt ns hlen (by rw[A6 (Zza aP),AA]) (.inl (.inr ⟨_,AA⟩)))
  ·by_cases z2:b=a
   ·subst z2;rw[AA] at y;cases y;exact .inr ⟨rfl,_,_,rfl⟩
   ·rw[A6 z2] at y;by_cases z:b=Pt
    ·subst z;rw[AA] at y;cases y;exact .inl ⟨rfl,rfl⟩
    ·rw[A6 z] at y;cases y
  ·by_cases z2:b=a
   ·rw[z2];exact hk
   ·rw[A6 z2] at y;by_cases z:b=Pt
    ·rw[z];exact hKP
    ·rw[A6 z] at y;cases y
  ·by_cases z2:b=a
   ·subst z2;rw[AA] at y;cases y;exact⟨hobj,by rw[Zzz];exact Zzp hlen hn2,vs,_,rv,hobj⟩
   ·rw[A6 z2] at y;by_cases z:b=Pt
    ·subst z;rw[AA] at y;cases y;exact okP _
    ·rw[A6 z] at y;cases y
def ud(vs:Array Value)(c P:Addr):Bool:=(match vs.getD 18 .none with | .str _ _=>true | _=>false)&&(match vs.getD 7 .none with | .int _ _=>true | _=>false)&&(match vs.getD 9 .none with | .bool _=>true | _=>false)&&(match vs.getD 10 .none with | .int _ _=>true | _=>false)&&c != P
theorem jn{K:Frag}{c P:Addr}{vs:Array Value}(tl:K.lookup c=some ⟨.type "code",od,.fields vs,sl⟩)(h11:vs[11]?=some (.ref P))(h:ud vs c P=true):codeHdIn K c P=true:=by
 unfold codeHdIn;rw[tl];simp only[h11,BEq.rfl,Zyk];exact h
theorem lf{K:Frag}{c P:Addr}{odc:Option Addr}{slc:Array (Option Value)}{vs:Array Value}(hn:nsIn K mainGlobals x=some (some (.ref f)))(hl:K.lookup f=some ⟨oc,od,.func fd,sl⟩)(hc:fd.code=.ref c)(tl:K.lookup c=some ⟨.type "code",odc,.fields vs,slc⟩)(h11:vs[11]?=some (.ref P)):tabIn K x=some (c,P):=by
 unfold tabIn;simp only[hn,hl,hc,tl,h11]
theorem Z2{K:Frag}{c P:Addr}(h:tabIn K x=some (c,P))(hn:nsIn K mainGlobals x=some (some (.ref f)))(hl:K.lookup f=some ⟨oc,od,.func fd,sl⟩):fd.code=.ref c:=by
 unfold tabIn at h;simp only[hn,hl] at h;split at h
 ·rename_i c' hc;split at h
  ·split at h
   ·cases h;exact hc
   ·cases h
  ·cases h
 ·cases h
theorem Z3{nm lv:Str}{cc:Addr}(hs:scope.names=[(nm,.local),(lv,.free)])(h:env.cells.lookup lv=some cc):closureFor scope env=pure [(lv,cc)]:=by
 unfold closureFor;rw[hs];simp[cellOf,h]
structure vh(K:Frag)(f c P:Addr):Prop where
 code:∀oc od fd sl,K.lookup f=some ⟨oc,od,.func fd,sl⟩->fd.code=.ref c
 hd:codeHdIn K c P=true
theorem Fun.okC{K:Frag}{st:Stmt}{c:Addr}{k:Nat}(F:Fun K x qual st f fd)(C:vh K f c Pt)(S:Bu N ps (Ap st))(len:∀vs H Q E,sp vs H Q E->vs.length=ps.length)
  (hbody:∀(A:Around) (outer:List Env) (s:Shared) (H:Hp) (vs:List V) (Q:VK) (E:XK),AM k (A.deeper (envOfC qual (Ap st) s.heap.objs.size f (.ref c)))->sp vs H Q E ->
   ∃t,PSs (No CX0 P w K mg base N qual (Ap st) f (.ref c) A outer s H E).nox (Dg st) t/\t {nx:=λ_ H'=>Q .non H',rt:=Q} (Io N vs) H):Aq P w K mg base CX0 (k+1) f fd ps sp:=by
 let⟨oc,od,kV,doc,pm,an,cdv,ct,osl,rfl,lk,hcd⟩:=F.ex;have e:cdv=.ref c:=C.code _ _ _ _ lk;subst e;refine sv lk hcd S len λA outer s H vs Q E hr hsp=>?_;let⟨t,h,q⟩:=hbody A outer s H vs Q E hr hsp;exact⟨t,h.nox,q⟩
end L2
namespace NP
open PySem L2
def Gi(S:Sh)(x:Str):List Wr:=S.wares.filter λw=>decide (x∈w.parts.map (·.1))
noncomputable def lvF(S:Sh):Nat->Str->Int
 |0,_=>0
 |k+1,x=>Ea ((Gi S x).map λu=>1+lvF S k u.name)
def lv(S:Sh)(x:Str):Int:=lvF S S.wares.length x
structure Lev(S:Sh):Prop where
 nd:(S.wares.map (·.name)).Nodup
 own:∀w∈S.wares,∀p∈w.parts,p.1∈S.wares.map (·.name)
 low:∃r:Str->Nat,(∀w∈S.wares,r w.name<S.wares.length)/\∀w∈S.wares,∀p∈w.parts,r p.1<r w.name
theorem CV{w:Wr}:w∈Gi S x↔w∈S.wares/\x∈w.parts.map (·.1):=by
 unfold Gi;rw[Zwk];exact⟨λz0=>by let⟨a,b⟩:=z0;exact ⟨a,GA b⟩,λz1=>by let⟨a,b⟩:=z1;exact ⟨a,GB b⟩⟩
theorem ql(S:Sh):∀k x,0<=lvF S k x
 |0,_=>Zz5 _
 |k+1,x=>Pd λy hy=>by
  let⟨u,_,rfl⟩:=Zzt.mp hy;have:=ql S k u.name;show 0<=1+lvF S k u.name;lia
theorem Ye{r:Str->Nat}(hr:∀w∈S.wares,r w.name<S.wares.length)(hp:∀w∈S.wares,∀p∈w.parts,r p.1<r w.name):∀k w,w∈S.wares->S.wares.length - r w.name<=k->lvF S (k+1) w.name=lvF S k w.name
 |0,w,hw,h=>by have:=hr w hw;lia
 |k+1,w,hw,h=>by
  show Ea ((Gi S w.name).map λu=>1+lvF S (k+1) u.name)=Ea ((Gi S w.name).map λu=>1+lvF S k u.name);congr 1;apply Zxx;intro u hu;let⟨h1,h2⟩:=CV.mp hu;let⟨p,hp1,hp2⟩:=Zzt.mp h2;have h3:=hp u h1 p hp1;rw[hp2] at h3;have:=hr u h1;rw[Ye hr hp k u h1 (by lia)]
theorem A3o(L:Lev S){w:Wr}(hw:w∈S.wares):lv S w.name=Ea ((Gi S w.name).map λu=>1+lv S u.name):=by
 let⟨r,h1,h2⟩:=L.low;have:=Ye h1 h2 S.wares.length w hw (by lia);exact this.symm
theorem qk(S:Sh)(x:Str):0<=lv S x:=ql S _ x
theorem Pg(L:Lev S){w:Wr}(hw:w∈S.wares){p:Str×Int}(hp:p∈w.parts):lv S w.name+1<=lv S p.1:=by
 let⟨v,hv,e⟩:=Zzt.mp (L.own w hw p hp);rw[<- e,A3o L hv];have:1+lv S w.name<=Ea ((Gi S v.name).map λu=>1+lv S u.name):=Pf (Zzt.mpr ⟨w,CV.mpr ⟨hw,Zzt.mpr ⟨p,hp,e.symm⟩⟩,rfl⟩);lia
theorem qj{k:Nat}{g:Str->Int}(h0:∀x,0<=g x)(h:∀w∈S.wares,∀p∈w.parts,1+lvF S k w.name<=g p.1)(x:Str):lvF S (k+1) x<=g x:=by
 show Ea ((Gi S x).map λu=>1+lvF S k u.name)<=g x;unfold Ea;split
 ·exact h0 x
 ·rename_i hn;let⟨u,hu,e⟩:=Zzt.mp (Lu hn);rw[<- e];let⟨h1,h2⟩:=CV.mp hu;let⟨p,hp1,hp2⟩:=Zzt.mp h2;rw[<- hp2];exact h u h1 p hp1
def fnD(names:List Str)(g:Str->Int):List (Key×V):=names.map λx=>(Zyd x,V.int (g x))
theorem Wl(names:List Str)(g:Str->Int):(fnD names g).length=names.length:=by unfold fnD;rw[Zzz]
theorem Mf{g:Str->Int}(h:x∈names):C1 (fnD names g) (.inr x)=some (.int (g x)):=by
 induction names with
 |nil=>cases h
 |cons y r ih =>
  unfold fnD;rw[Zzk];by_cases e:y=x
  ·rw[Cm (by rw[e])];rw[e]
  ·rw[Ca (λz=>e (Zwh z))];exact ih ((Zzw.mp h).resolve_left λz=>e z.symm)
theorem sw{g:Str->Int}(h:x∉names):C1 (fnD names g) (.inr x)=none:=by
 induction names with
 |nil=>rfl
 |cons y r ih =>
  unfold fnD;rw[Zzk,Ca (λz=>h (by rw[<- Zwh z];exact Zzq))];exact ih λm=>h (Zzs _ m)
theorem yq{g:Str->Int}{v:Int}(h:y∈names):Dx (fnD names g) (.inr y) (.int v)=fnD names λx=>if x=y then v else g x:=by
 unfold Dx;rw[GE (by rw[Fb,Mf h];rfl)];unfold fnD;rw[Zyq];apply Zxx;intro x _;show (if Zyd x=(Zyd y:Key) then (Zyd x,V.int v) else (Zyd x,V.int (g x)))=(Zyd x,V.int (if x=y then v else g x));by_cases e:x=y
 ·rw[GE (by rw[e]),GE e]
 ·rw[GD (λz=>e (Zwh z)),GD e]
theorem Ni{g g':Str->Int}(h:∀x∈names,g x=g' x):fnD names g=fnD names g':=by
 unfold fnD;exact Zxx λx hx=>by rw[h x hx]
theorem g7{g:Str->Int}{v:Int}(h:y∉names):Dx (fnD names g) (.inr y) (.int v)=fnD (names++[y]) λx=>if x=y then v else g x:=by
 rw[Qh _ (sw h)];unfold fnD;rw[Zzd];congr 1
 ·refine Zxx λx hx=>?_;show (Zyd x,V.int (g x))=(Zyd x,V.int (if x=y then v else g x));rw[GD (λe:x=y=>h (e▸hx))]
 ·show [(Zyd y,V.int v)]=[(Zyd y,V.int (if y=y then v else g y))]
  rw[GE rfl]
theorem Hh{xs:List Str}(nd:xs.Nodup)(h:xs[i]?=some x):x∉xs.take i:=by
 intro m;let⟨j,hj⟩:=Zvb.mp m;rw[Zvv] at hj;split at hj
 ·rename_i hlt;have hj2:j<xs.length:=(Zzf.mp hj).1;have:=(List.getElem?_inj hj2 nd).mp (hj.trans h.symm);lia
 ·cases hj
end NP
namespace L2
open PySem PySem.Spec PyProof.Rows
noncomputable def ItV(a:Addr)(xs:List V):It:=⟨λi H=>H a=some (.lst xs)/\i<xs.length,λi H x H'=>H'=H/\xs.reverse[i]?=some x,λi H=>H a=some (.lst xs)/\i=xs.length⟩
theorem A43(a:Addr)(xs:List V):S3 (ItV a xs) xs.length (λi x=>xs.reverse[i]?=some x) (λH=>H a=some (.lst xs)) :=
 ⟨λ_ _ h o=>⟨o,h⟩,λ_ _ _ _ _ _ y=>y,λ_ o=>⟨o,rfl⟩⟩
theorem km(a it:Addr)(xs:List V):Nt P w K tg (ItV a xs) [it] it (λi h=>i<=xs.length/\h.IsRevIter it a ((xs.length:Int) - 1 - (i:Int))) where
 mem:=by simp
 obj:=λi h st b hb=>by
  have e:b=it:=by simpa using hb
  subst e;let⟨_,o,e,c,d⟩:=st;exact⟨o,e,λv z=>by rw[d] at z;cases z⟩
 keep:=λi h h' st k=>⟨st.1,st.2.at λo e=>k it (by simp) o e⟩;item:=by
  intro X hP hw hK hc i pins s σ H E I hf st hg;subst hP hw hK;let⟨hq,hlt⟩:=hg;let⟨its,rv,hl,hal⟩:=C6 I hq;let⟨f0,f1,f2,f3,f4,f5⟩:=hf it (by simp);have hai:a≠it:=A8 hq f0;have hlen:=rv.length;have hsz:its.toArray.size=xs.length:=by rw[Zzr];exact hlen.symm
  have st2:s.heap.IsRevIter it a ((its.toArray.size:Int) - 1 - (i:Int)):=by rw[hsz];exact st.2
  refine(Walks.listRev (prog:=X.prog) (w:=X.w) (A:=X.A) (I.ok.hd hc) it a hai its.toArray).item i s _ E (by lia) ⟨by lia,st2,hl⟩ λv h' tk hx st3 hk=>?_;have I1:Inv X pins σ H {s with heap:=h',toks:=tk}:=I.turned (t':=tk) (λb o hb e=>hk b o (by simpa using hb) e) f0 f1 f3 f4 f5;let⟨_,⟨oi,ei,ci,di⟩,_⟩:=id st3;have hlt2:its.length - 1 - i<its.length:=by lia
  have hx:its[its.length - 1 - i]?=some v:=by rw[hsz,hlen] at hx;simpa using hx
  let⟨u,hu,ru⟩:=rv.get (x:=xs[xs.length - 1 - i]) (i:=xs.length - 1 - i) (by simp[show xs.length - 1 - i<xs.length by lia]);have eu:u=v:=by rw[hlen,hx] at hu;exact(Zzm hu).symm
  subst eu;refine⟨u,rfl,Ue (s:={s with heap:=h',toks:=tk}) ei ci di (by decide) ⟨xs[xs.length - 1 - i],H,I1,ru,⟨rfl,?_⟩,?_,λb hb=>(hf b hb).1⟩⟩
  ·rw[List.getElem?_reverse hlt];simp[show xs.length - 1 - i<xs.length by lia]
  ·have:=st3.2.1
   rw[hsz] at this;exact⟨hlt,this⟩
 done:=by
  intro X hP hw hK hc i pins s σ H E I hf st hg;subst hP hw hK;let⟨hq,hlt⟩:=hg;let⟨its,rv,hl,hal⟩:=C6 I hq;let⟨f0,f1,f2,f3,f4,f5⟩:=hf it (by simp);have hai:a≠it:=A8 hq f0;have hlen:=rv.length;have hsz:its.toArray.size=xs.length:=by rw[Zzr];exact hlen.symm
  subst hlt;have st2:s.heap.IsRevIter it a ((its.toArray.size:Int) - 1 - ((its.toArray.size:Nat):Int)):=by rw[hsz];exact st.2
  exact(Walks.listRev (prog:=X.prog) (w:=X.w) (A:=X.A) (I.ok.hd hc) it a hai its.toArray).done s _ E ⟨Zzu _,st2,hl⟩ λh' tk hk=>⟨rfl,I.turned (t':=tk) (λb o hb e=>hk b o (by simpa using hb) e) f0 f1 f3 f4 f5⟩
 self:=λ_ _ _ _ _ st h=>wpAny_pyIter_revIter st.2 h
def A3x(ta:TA):TI:=λσ H R=>ta σ H λvs H1=>∃a xs,vs=[.ref a]/\H1 a=some (.lst xs)/\R (ItV a xs) H1
theorem A1k{p:Pos}{ta:TA}(hg:Gl X "reversed")(hm:X.mg "reversed" = none)(ha:PA X [e] ta)(hn:Bw [e]=true:=by rfl):PI X tg (.Call (.Name "reversed" p) [e] [] pos) (A3x ta):=by
 intro pins s σ H R I h;refine Call_ (Gz I hg hm NP.Z5 (Zxp (thn (ha pos pins s σ H _ I h) λus s1 ⟨vs,H1,I1,r1,q1⟩=>?_) (Cr hn) rfl));let⟨a,xs,e,hq,q⟩:=q1;subst e;let⟨u,rfl,ru⟩:=F9 r1;cases ru;let⟨its,rv,hl,hal⟩:=C6 I1 hq;have hlen:=rv.length;refine call_reversed_list hl ?_;have hrv:(s1.heap.push (revObj a ((its.toArray.size:Int) - 1))).IsRevIter s1.heap.objs.size a ((xs.length:Int) - 1 - ((0:Nat):Int)):=by
  refine⟨_,Zzj _ rfl,rfl,?_⟩;rw[Zzr,<- hlen];simp[revObj]
 have I2:Inv X pins σ H1 {s1 with heap:=s1.heap.push (revObj a ((its.toArray.size:Int) - 1))}:=I1.kept (t':=s1.toks) λb o e=>Zzv _ e;refine wpAny_pyIter_revIter (s:={s1 with heap:=s1.heap.push (revObj a ((its.toArray.size:Int) - 1))}) hrv ⟨_,[_],_,_,H1,rfl,I2,km a _ xs,⟨Zyl _,hrv⟩,λb hb=>?_,q⟩;have e:=Zzh.mp hb;subst e;exact I1.fpOk (Zzu _) (I1.hok.fresh (Zzu _))
end L2
namespace NP
open PySem L2
def Te(S:Sh)(x:Str):Option Wr:=S.wares.find? λw=>decide (w.name=x)
theorem L5(nd:(S.wares.map (·.name)).Nodup){w:Wr}(hw:w∈S.wares):Te S w.name=some w:=by
 unfold Te;cases e:S.wares.find? (λv=>decide (v.name=w.name)) with
 |none =>
  have:=List.find?_eq_none.mp e w hw;simp at this
 |some v =>
  have h1:v.name=w.name:=GA (by simpa using List.find?_some e);have h2:=List.mem_of_find?_eq_some e;let⟨i,hi,ei⟩:=Zww.mp hw;let⟨j,hj,ej⟩:=Zww.mp h2;have:(S.wares.map (·.name))[i]?=(S.wares.map (·.name))[j]?:=by
   rw[Zzx,Zzx,Zzl hi,Zzl hj,ei,ej];show some w.name=some v.name;rw[h1]
  have e2:=(List.getElem?_inj (by rw[Zzz];exact hi) nd).mp this;subst e2;rw[<- ei,<- ej]
noncomputable def tmF(S:Sh):Nat->Str->Int
 |0,_=>0
 |k+1,x=>match Te S x with
  |some w=>w.lag+Ea (w.parts.map λp=>tmF S k p.1)
  |none=>0
def tm(S:Sh)(x:Str):Int:=tmF S S.wares.length x
theorem Pw(L:Lev S)(k:Nat){w:Wr}(hw:w∈S.wares):tmF S (k+1) w.name=w.lag+Ea (w.parts.map λp=>tmF S k p.1):=by
 rw[tmF,L5 L.nd hw]
theorem Xb(L:Lev S){r:Str->Nat}(hp:∀w∈S.wares,∀p∈w.parts,r p.1<r w.name):∀k w,w∈S.wares->r w.name<k->tmF S (k+1) w.name=tmF S k w.name
 |0,w,_,h=>by lia
 |k+1,w,hw,h=>by
  rw[Pw L _ hw,Pw L _ hw];congr 2;apply Zxx;intro p hpm;let⟨v,hv,e⟩:=Zzt.mp (L.own w hw p hpm);have h3:=hp w hw p hpm;rw[<- e] at h3 ⊢;exact Xb L hp k v hv (by lia)
theorem Tm(L:Lev S){w:Wr}(hw:w∈S.wares):tm S w.name=w.lag+Ea (w.parts.map λp=>tm S p.1):=by
 let⟨r,h1,h2⟩:=L.low;have h3:=Xb L h2 S.wares.length w hw (h1 w hw);rw[Pw L _ hw] at h3;exact h3.symm
theorem Xt(L:Lev S)(so:Oq (lv S) (S.wares.map (·.name)) ys){w:Wr}(hw:w∈S.wares)(hj:ys.reverse[j]?=some w.name){p:Str×Int}(hp:p∈w.parts):p.1∈ys.reverse.take j:=by
 have hlv:=Pg L hw hp;have hm:p.1∈ys.reverse:=by rw[List.mem_reverse];exact so.1.mem_iff.mpr (L.own w hw p hp)
 have pw:ys.reverse.Pairwise λa b=>lv S b<=lv S a:=by rw[List.pairwise_reverse];exact so.2
 let⟨i,hi⟩:=Zvb.mp hm;let⟨hil,ei⟩:=Zzf.mp hi;let⟨hjl,ej⟩:=Zzf.mp hj;have hlt:i<j:=by
  rcases Nat.lt_trichotomy i j with z | z | z
  ·exact z
  ·subst z;rw[ei] at ej;rw[ej] at hlv;lia
  ·have:=Zxh.mp pw j i hjl hil z
   rw[ei,ej] at this;lia
 exact Zzn (i:=i) (by rw[Zvv,GE hlt];exact hi)
end NP
namespace L2
open PySem PySem.Spec PyProof.Rows PySem.W NP
theorem Inv.laidF{o:HO}(I:Inv X pins σ H s)(k:∀b u,s.heap.get? b=some u->h'.get? b=some u)(fr:∀b u,s.heap.get? b=some u->b≠a)(hn:H a=none)(new:AG X.prog X.w (upd H a o) h' a o) :
  Inv X pins σ (upd H a o) {s with heap:=h',toks:=t'}:=by
 refine I.un ⟨λb u e _ _ _=>k b u e,λb u e _ _ _=>⟨u.slots,k b u e⟩,λb u e n _=>by rw[A6 (fr b u e)];exact n,λb u e _=>⟨u,k b u e⟩,λb xs e=>by rw[A6 (A8 e hn)];exact e,λb u v e=>by rw[A6 (A8 e hn)];exact e,λb ps e=>⟨#[],by rw[A6 (A8 e hn),e];simp⟩⟩ λb u e=>?_;by_cases hb:b=a
 ·subst hb;rw[AA] at e;cases e;exact new
 ·rw[A6 hb] at e;exact(I.hok b u e).stay (λb' u' _ q=>k b' u' q) (λb' q=>by rw[A6 (A8 q hn)];exact q) λb' xs q=>by rw[A6 (A8 q hn)];exact q
noncomputable def Xc(xs:List Str):PyData:=.list (xs.map .str)
theorem Jc:∀xs:List Str,RDs H (xs.map .str) (xs.map V.str)
 |[]=>RDs.nil
 |x::r=>RDs.cons RD.str_mk (Jc r)
theorem Y8{xs:List Str}(h:∀x∈xs,PyData.strOk x=true):okD (Xc xs)=true:=by
 have h1:∀ys:List Str,(∀x∈ys,PyData.strOk x=true)->PyData.canLayAll0 (ys.map .str)=true/\PyData.depthAll (ys.map .str)=0:=λys=>by
  induction ys with
  |nil=>intro _;exact⟨by rw[Zy1,PyData.canLayAll0],by rw[Zy1,PyData.depthAll]⟩
  |cons y r ih =>
   intro hy;let⟨a,b⟩:=ih λx hx=>hy x (Zzs _ hx);refine⟨?_,?_⟩
   ·rw[Zzk,PyData.canLayAll0,PyData.canLay0,hy y Zzq,a];rfl
   ·rw[Zzk,PyData.depthAll,PyData.depth,b];rfl
 let⟨a,b⟩:=h1 xs h;unfold okD Xc;rw[PyData.canLay0,a,PyData.depth,b];rfl
theorem Rn(xs:List Str):PyData.eqv (Xc xs) (Xc xs)=true:=by
 have h1:∀ys:List Str,PyData.eqvAll (ys.map .str) (ys.map .str)=true:=λys=>by
  induction ys with
  |nil=>rw[Zy1,PyData.eqvAll]
  |cons y r ih=>rw[Zzk,PyData.eqvAll,PyData.eqv,ih];simp
 unfold Xc;rw[PyData.eqv];exact h1 xs
def FA:V->List V->Hp->VK->Prop:=λx vs H Q=>∃(l:Addr) (xs:List Str) (y:Str),x=.ref l/\vs=[.str y]/\H l=some (.lst (xs.map V.str))/\y∈xs/\Q (.int (xs.idxOf y:Nat)) H
theorem Mp:∀{xs:List Str} {us:List Value},AC (xs.map V.str) us->∀j (hj:j<us.length) (y:Str),eqU (.str y) us[j]=(xs.getD j "" == y)
 |[],_,.nil,j,hj,y=>absurd hj (Zv5 _)
 |x::xs,u::us,.cons r t,0,hj,y=>by
  let⟨t',rfl⟩:=r;rfl
 |x::xs,u::us,.cons r t,j+1,hj,y=>Mp t j (Zvh hj) y
theorem Ex:∀xs:List Str,(xs.map V.str).all Gf=true
 |[]=>rfl
 |x::xs=>by rw[Zzk,Zwm,Ex xs];rfl
theorem rk{xs:List Str}(h:y∈xs):xs.getD (xs.idxOf y) "" = y:=by
 have hl:xs.idxOf y<xs.length:=List.idxOf_lt_length_iff.mpr h;rw[Zzg,Zzl hl,Zw9];exact List.getElem_idxOf hl
theorem Ma{y:Str}:∀{xs:List Str} {m:Nat},m<xs.idxOf y->m<xs.length->(xs.getD m "" == y)=false
 |[],m,h,hm=>absurd hm (Zv5 _)
 |x::xs,0,h,_=>by
  rw[List.idxOf_cons] at h;cases e:x == y with
  |false=>exact e
  |true=>rw[e] at h;exact absurd h (Zx0 _)
 |x::xs,m+1,h,hm=>by
  rw[List.idxOf_cons] at h;cases e:x == y with
  |false=>rw[e] at h;exact Ma (xs:=xs) (m:=m) (Zvh h) (Zvh hm)
  |true=>rw[e] at h;exact absurd h (Zv5 _)
theorem qc:MtM X "list.index" FA:=by
 intro pins s σ H x vs v us Q I rx rv h;let⟨l,xs,y,rfl,rfl,hH,hy,q⟩:=h;cases rx;let⟨u,rfl,ru⟩:=rv.one;let⟨z,its,n,r,hl,e⟩:=I.lstM hH;rw[Zzz] at hl z;have hj:xs.idxOf y<xs.length:=List.idxOf_lt_length_iff.mpr hy;have hs:its.toArray.size=xs.length:=by rw[Zzr,hl]
 rw[sizeLine_eq] at z;refine call_meets F.slot_list_index ⟨_,e,rfl⟩ F.entry_list_index (F.args_list_index_2 _ _) (SeqAt.list_indexAt l its.toArray n none #[] u (eqU (.str y)) (xs.idxOf y) (by lia) (by lia) ?_ (λm hm hlt=>?_)) ⟨e,λw hw=>Gc ru rfl r (Ex xs) w (by simpa using hw),?_⟩
 ·rw[List.getElem_toArray,Mp r,rk hy];exact beq_self_eq_true y
 ·rw[List.getElem_toArray,Mp r];exact Ma hlt (by lia)
 ·exact⟨.int _,H,I.tok _,⟨_,rfl⟩,q⟩
theorem i5{xs zs:List Str}(h:Mm kz xs ys)(h':Mm kz xs zs):ys=zs:=by
 let⟨ps,p1,rfl,p2⟩:=h;let⟨qs,q1,rfl,q2⟩:=h';have e:ps=qs:=List.Perm.eq_of_pairwise (λa b _ _ h1 h2=>by unfold klt at h1 h2;lia) p2 q2 (p1.trans q1.symm);rw[e]
theorem Jl(x:Str):∀xs:List Str,inV (.str x) (xs.map V.str)=decide (x∈xs)
 |[]=>rfl
 |y::xs=>by
  show (y == x||inV (.str x) (xs.map V.str))=decide (x∈y::xs);rw[Jl x xs];by_cases e:y=x
  ·rw[e];simp
  ·have e2:(y == x)=false:=by simpa using e
   rw[e2,Bool.false_or];exact decide_eq_decide.mpr ⟨λm=>Zzs _ m,λm=>(Zzw.mp m).resolve_left λz=>e z.symm⟩
end L2
set_option exponentiation.threshold 4000
namespace L2
open PySem PySem.Spec PyProof.Rows
end L2
namespace NP
open PySem L2
noncomputable def Bx(m g:Int):Int:=if -(-m / g) > 0 then -(-m / g) else 0
theorem j5(m g:Int):0<=Bx m g:=by unfold Bx;split<;>lia
theorem Sl{m g:Int}(h:0<g):m<=g*Bx m g:=by
 have h1:=Int.mul_ediv_add_emod (-m) g;have h2:=Int.emod_nonneg (-m) (b:=g) (by lia);have h3:g*(-(-m / g))=-(g*(-m / g)):=Int.mul_neg ..;unfold Bx;split
 ·rw[h3];lia
 ·rename_i q;have h4:0<=-m / g:=by lia
  have h5:0<=g*(-m / g):=Zux (by lia) h4;lia
theorem W3{m g:Int}(h:0<g)(hl:0<Bx m g):g*Bx m g<m+g:=by
 have h1:=Int.mul_ediv_add_emod (-m) g;have h2:=Zus (-m) h;have h3:g*(-(-m / g))=-(g*(-m / g)):=Int.mul_neg ..;unfold Bx at hl ⊢;split
 ·rw[h3];lia
 ·rename_i q;rw[GD q] at hl;lia
theorem j6{m g:Int}(h:0<g)(hm:0<=m):Bx m g<=m:=by
 by_cases hz:0<Bx m g
 ·have h1:=W3 h hz
  have h2:Bx m g*1<=Bx m g*g:=Int.mul_le_mul_of_nonneg_left (by lia) (by lia);have h3:g*Bx m g=Bx m g*g:=Int.mul_comm ..;have h4:(g - 1)*1<=(g - 1)*Bx m g:=Int.mul_le_mul_of_nonneg_left (by lia) (by lia);have h5:(g - 1)*Bx m g=g*Bx m g - Bx m g:=by rw[Int.sub_mul,Int.one_mul]
  lia
 ·lia
def vp:List Int->Int
 |[]=>0
 |x::r=>x+vp r
def vi(us:List Wt)(x:Str):Int:=vp (us.map λu=>if u.1=x then u.2.2 else 0)
def A13(L:Str->Int)(w:Wr)(x:Str):Int:=vp (w.parts.map λp=>if p.1=x then L w.name*p.2 else 0)
def vn(ws:List Wr)(L:Str->Int)(x:Str):Int:=vp (ws.map λw=>A13 L w x)
def A1u(S:Sh)(L:Str->Int)(x:Str):Int:=vi S.wants x+vn S.wares L x
def exF(S:Sh):Nat->Str->Int
 |0,_=>0
 |k+1,x=>match Te S x with
  |some w=>Bx (A1u S (exF S k) x) w.gives
  |none=>0
def ex(S:Sh)(x:Str):Int:=exF S S.wares.length x
theorem Mo{w:Wr}(h:Te S x=some w):w∈S.wares/\w.name=x:=⟨List.mem_of_find?_eq_some h,GA (by simpa using List.find?_some h)⟩
theorem Oh{m g:Int}(h:0<g)(hm:m<=0):Bx m g=0:=by
 unfold Bx;have:0<=-m / g:=Int.ediv_nonneg (by lia) (by lia);rw[GD (by lia)]
noncomputable def above(f g:Int)(xs ys:List Int):Nat->Int
 |0=>-f
 |i+1=>above f g xs ys i+(xs.getD i 0 - ys.getD i 0)+g*Bx (-(above f g xs ys i+(xs.getD i 0 - ys.getD i 0))) g
noncomputable def Iu(f g:Int)(xs ys:List Int)(i:Nat):Int:=Bx (-(above f g xs ys i+(xs.getD i 0 - ys.getD i 0))) g
def AQ(f g:Int)(xs ys:List Int)(n:Nat):List Int:=(Zys n).map (Iu f g xs ys)
theorem Yf(f g:Int)(xs ys:List Int)(n:Nat):(AQ f g xs ys n).length=n:=by simp[AQ]
theorem j4(f g:Int)(xs ys:List Int)(n:Nat):AQ f g xs ys (n+1)=AQ f g xs ys n++[Iu f g xs ys n]:=by
 unfold AQ;rw[Zv6,Zzd];rfl
theorem qm{f g:Int}{xs ys:List Int}(h:i<n):(AQ f g xs ys n)[i]?=some (Iu f g xs ys i):=by simp[AQ,h]
theorem N8{f g:Int}{xs ys:List Int}(h:i<n):(AQ f g xs ys n).getD i 0=Iu f g xs ys i:=by rw[Zzg,qm h];rfl
theorem ce(f g:Int)(xs ys:List Int)(i:Nat):above f g xs ys (i+1)=above f g xs ys i+(xs.getD i 0 - ys.getD i 0)+g*Iu f g xs ys i:=rfl
theorem Zc{f g:Int}{xs ys:List Int}(hg:0<g)(i:Nat):0<=above f g xs ys (i+1):=by
 have:=Sl (m:=-(above f g xs ys i+(xs.getD i 0 - ys.getD i 0))) hg;rw[ce];unfold Iu;lia
theorem qo(f g:Int)(xs ys:List Int)(i:Nat):0<=Iu f g xs ys i:=j5 _ _
theorem uv{f g:Int}{xs ys:List Int}(hg:0<g)(hf:0<=f)(i:Nat):-f<=above f g xs ys i:=by
 cases i with
 |zero=>exact Zz5 _
 |succ i=>have:=Zc (f:=f) (xs:=xs) (ys:=ys) hg i;lia
theorem qq{f g:Int}{xs ys:List Int}(hg:0<g)(hf:0<=f)(hx:0<=xs.getD i 0)(hy:0<=ys.getD i 0):Iu f g xs ys i<=f+ys.getD i 0:=by
 have h1:=uv (f:=f) (xs:=xs) (ys:=ys) hg hf i;unfold Iu;by_cases h:0<=-(above f g xs ys i+(xs.getD i 0 - ys.getD i 0))
 ·have:=j6 hg h
  lia
 ·rw[Oh hg (by lia)];lia
noncomputable def LRF(S:Sh):Nat->Str->List Int
 |0,_=>[]
 |k+1,x=>match Te S x with
  |some w=>AQ w.floor w.gives (Ar (AD S) (Ci w)) (At S (LRF S k) x) (AD S)
  |none=>[]
def LR(S:Sh)(x:Str):List Int:=LRF S S.wares.length x
theorem W1{plan':Str->List Int}{nm:Str}(h:∀t∈S.wares,∀p∈t.parts,p.1=nm->plan t.name=plan' t.name)(d:Nat):Bb S plan nm d=Bb S plan' nm d:=by
 unfold Bb;congr 1;refine Hs λt ht=>?_;unfold pAt;refine Hs λp hp=>?_;by_cases e:p.1=nm
 ·rw[GE e,GE e,h t ht p hp e]
 ·rw[GD e,GD e]
theorem R5{plan':Str->List Int}{nm:Str}(h:∀t∈S.wares,∀p∈t.parts,p.1=nm->plan t.name=plan' t.name):At S plan nm=At S plan' nm:=C3 λd _=>W1 h d
theorem S1(L:Lev S)(k:Nat){w:Wr}(hw:w∈S.wares):LRF S (k+1) w.name=AQ w.floor w.gives (Ar (AD S) (Ci w)) (At S (LRF S k) w.name) (AD S):=by rw[LRF,L5 L.nd hw]
theorem Zd(L:Lev S){r:Str->Nat}(hr:∀w∈S.wares,r w.name<S.wares.length)(hp:∀w∈S.wares,∀p∈w.parts,r p.1<r w.name):∀k w,w∈S.wares->S.wares.length - r w.name<=k->LRF S (k+1) w.name=LRF S k w.name
 |0,w,hw,h=>by have:=hr w hw;lia
 |k+1,w,hw,h=>by
  rw[S1 L _ hw,S1 L _ hw];congr 1;refine R5 λu hu p hpm e=>?_;have h3:=hp u hu p hpm;rw[e] at h3;have:=hr u hu;exact Zd L hr hp k u hu (by lia)
theorem Jt(L:Lev S){w:Wr}(hw:w∈S.wares):LR S w.name=AQ w.floor w.gives (Ar (AD S) (Ci w)) (At S (LR S) w.name) (AD S):=by
 let⟨r,h1,h2⟩:=L.low;have h3:=Zd L h1 h2 S.wares.length w hw (by lia);rw[S1 L _ hw] at h3;exact h3.symm
theorem Js(L:Lev S){w:Wr}(hw:w∈S.wares):(LR S w.name).length=AD S:=by rw[Jt L hw,Yf]
theorem kr(L:Lev S)(so:Oq (lv S) (S.wares.map (·.name)) ys){nm:Str}(hi:ys[i]?=some nm){t:Wr}(ht:t∈S.wares){p:Str×Int}(hp:p∈t.parts)(e:p.1=nm):t.name∈ys.take i:=by
 have h1:=Pg L ht hp;rw[e] at h1;let⟨j,hj⟩:=Zvb.mp (so.1.mem_iff.mpr (Zzt.mpr ⟨t,ht,rfl⟩));let⟨hil,ei⟩:=Zzf.mp hi;let⟨hjl,ej⟩:=Zzf.mp hj;have hlt:j<i:=by
  rcases Nat.lt_trichotomy j i with z | z | z
  ·exact z
  ·subst z;rw[ei] at ej;rw[ej] at h1;lia
  ·have:=Zxh.mp so.2 i j hil hjl z
   rw[ei,ej] at this;lia
 exact Zzn (i:=j) (by rw[Zvv,GE hlt];exact hj)
structure cj(S:Sh):Prop where
 wb:∀w∈S.wares,(1<=w.gives/\w.gives<=10^41)/\(0<=w.floor/\w.floor<=10^41)/\0<=w.stock/\w.parts.length<=12/\∀p∈w.parts,1<=p.2/\p.2<=10^41
 com:∀w∈S.wares,∀p∈w.coming,0<=p.2
 few:S.wares.length<=12
 wt:S.wants.length<=20/\∀u∈S.wants,0<=u.2.2/\u.2.2<=10^41
theorem P4{α:Type}{l:List α}{f:α->Int}(h:∀x∈l,0<=f x):0<=Br f l:=by
 induction l with
 |nil=>exact Zz5 _
 |cons x r ih =>
  rw[Hi];have h1:=h x Zzq;have h2:=ih λy hy=>h y (Zzs _ hy);lia
theorem Ux{α:Type}{l:List α}{f:α->Int}{c:Int}(hc:0<=c)(hl:l.length<=n)(h:∀x∈l,f x<=c):Br f l<=n*c:=by
 induction l generalizing n with
 |nil=>exact Zux (Int.natCast_nonneg n) hc
 |cons x r ih =>
  cases n with
  |zero=>cases hl
  |succ n =>
   rw[Hi];have h1:=h x Zzq;have h2:=ih (n:=n) (Nat.le_of_succ_le_succ hl) λy hy=>h y (Zzs _ hy);have e:((n+1:Nat):Int)*c=n*c+c:=by rw[Int.natCast_add,Int.add_mul];simp
   lia
theorem yp{xs:List Int}{B:Int}(hB:0<=B)(h:∀x∈xs,0<=x/\x<=B)(i:Nat):0<=xs.getD i 0/\xs.getD i 0<=B:=by
 rw[Zzg];cases e:xs[i]? with
 |none=>exact⟨Zz5 _,hB⟩
 |some x=>exact h x (Zzn e)
theorem um{xs:List Int}{B:Int}(hB:0<=B)(h:∀x∈xs,0<=x/\x<=B)(lag:Int)(d:Nat):0<=bAt xs lag d/\bAt xs lag d<=B:=by
 unfold bAt;split
 ·exact yp hB h _
 ·exact⟨Zz5 _,hB⟩
theorem iy(E:cj S){B:Int}(hB:0<=B)(h:∀nm,∀x∈plan nm,0<=x/\x<=B)(nm:Str)(d:Nat):0<=Bb S plan nm d/\Bb S plan nm d<=20*10^41+12*(12*(10^41*B)):=by
 have hB2:0<=10^41*B:=Zux (by decide +kernel) hB;have w0:0<=Br (wAt nm d) S.wants:=P4 λu hu=>by
  unfold wAt;split
  ·exact(E.wt.2 u hu).1
  ·exact Zz5 _
 have w1:Br (wAt nm d) S.wants<=(20:Nat)*(10:Int)^41:=Ux (by decide +kernel) E.wt.1 λu hu=>by
  unfold wAt;split
  ·exact(E.wt.2 u hu).2
  ·decide +kernel
 have p0:0<=Br (pAt plan nm d) S.wares:=P4 λt ht=>P4 λp hp=>by
  split
  ·exact Zux (by have:=((E.wb t ht).2.2.2.2 p hp).1;lia) (um hB (h t.name) t.lag d).1
  ·exact Zz5 _
 have p1:Br (pAt plan nm d) S.wares<=(12:Nat)*(12*(10^41*B)):=Ux (by lia) E.few λt ht=>by
  have:pAt plan nm d t<=(12:Nat)*(10^41*B):=Ux hB2 (E.wb t ht).2.2.2.1 λp hp=>by
   split
   ·have h3:=(E.wb t ht).2.2.2.2 p hp
    have h4:=um hB (h t.name) t.lag d;exact Int.mul_le_mul h3.2 h4.2 h4.1 (by decide +kernel)
   ·exact hB2
  exact this
 unfold Bb;exact⟨by lia,Int.add_le_add w1 p1⟩
theorem Zb(E:cj S){w:Wr}(hw:w∈S.wares)(d:Nat):0<=Ci w d:=by
 unfold Ci;have h1:0<=(if d=0 then w.stock else 0):=by
  split
  ·exact(E.wb w hw).2.2.1
  ·exact Zz5 _
 have h2:0<=Br (cAt d) w.coming:=P4 λp hp=>by
  unfold cAt;split
  ·exact E.com w hw p hp
  ·exact Zz5 _
 lia
theorem cm(E:cj S):∀(k:Nat) (nm:Str),∀x∈LRF S k nm,0<=x/\x<=10^(45*k)
 |0,nm,x,h=>by cases h
 |k+1,nm,x,h=>by
  have hB:(0:Int)<=10^(45*k):=Int.pow_nonneg (by decide);have h1:(1:Int)<=10^(45*k):=Int.pow_pos (by decide);have e:(10:Int)^(45*(k+1))=10^(45*k)*10^45:=by rw[<- Int.pow_add];rfl
  rw[LRF] at h;split at h
  ·rename_i w hw;have hw2:=(Mo hw).1;unfold AQ at h;let⟨i,hi,rfl⟩:=Zzt.mp h;have hi:=Zvs.mp hi;have hwb:=E.wb w hw2;have hn:=iy E hB (λy=>cm E k y) nm i;have e1:(Ar (AD S) (Ci w)).getD i 0=Ci w i:=D0 hi;have e2:(At S (LRF S k) nm).getD i 0=Bb S (LRF S k) nm i:=D0 hi;have h2:=qq (f:=w.floor) (g:=w.gives) (xs:=Ar (AD S) (Ci w)) (ys:=At S (LRF S k) nm) (i:=i) (by lia) hwb.2.1.1 (by rw[e1];exact Zb E hw2 i) (by rw[e2];exact hn.1);rw[e2] at h2;refine⟨qo _ _ _ _ _,?_⟩;rw[e];have hn2:=hn.2;have hf:=hwb.2.1.2;generalize (10:Int)^(45*k)=B at hB h1 hn2 ⊢;lia
  ·cases h
theorem gv(E:cj S)(nm:Str):∀x∈LR S nm,0<=x/\x<10^600:=λx hx=>by
 have h1:=cm E S.wares.length nm x hx;have h2:(10:Int)^(45*S.wares.length)<=10^(45*12):=by
  have:(10:Nat)^(45*S.wares.length)<=10^(45*12):=Nat.pow_le_pow_right (by decide) (Nat.mul_le_mul_left _ E.few);exact_mod_cast this
 exact⟨h1.1,Zx3 (Zxb h1.2 h2) (by decide +kernel)⟩
def Cv(row:List Int)(lag:Int):Nat->Option Nat
 |0=>none
 |n+1=>match Cv row lag n with
  |some d=>some d
  |none=>if (n:Int)<lag/\0<row.getD n 0 then some n else none
noncomputable def Bq(row:List Int)(lag:Int):Option Nat:=Cv row lag row.length
theorem Jo:∀{n:Nat},Cv row lag n=none->∀e,e<n->¬ ((e:Int)<lag/\0<row.getD e 0)
 |0,_,e,he=>absurd he (Zv5 _)
 |n+1,h,e,he=>by
  rw[Cv] at h;split at h
  ·cases h
  ·rename_i q;split at h
   ·cases h
   ·rename_i c;by_cases z:e=n
    ·subst z;exact c
    ·exact Jo q e (by lia)
theorem Ro{d:Nat}(h:Cv row lag n=some d):∀k,Cv row lag (n+k)=some d
 |0=>h
 |k+1=>by
  show Cv row lag ((n+k)+1)=some d;rw[Cv,Ro h k]
theorem bn{d:Nat}(h:Cv row lag n=some d)(hn:n<=row.length):Bq row lag=some d:=by
 have:=Ro h (row.length - n);rw[Nat.add_sub_cancel' hn] at this;exact this
theorem Jn:∀{n d:Nat},Cv row lag n=some d->d<n/\(d:Int)<lag/\0<row.getD d 0/\∀e,e<d->¬ ((e:Int)<lag/\0<row.getD e 0)
 |0,d,h=>by cases h
 |n+1,d,h=>by
  rw[Cv] at h;split at h
  ·rename_i d' e;obtain rfl:=Zzm h;let⟨h1,h2,h3,h4⟩:=Jn e;exact⟨by lia,h2,h3,h4⟩
  ·rename_i e;split at h
   ·rename_i c;obtain rfl:=Zzm h;exact⟨by lia,c.1,c.2,λi hi=>Jo e i hi⟩
   ·cases h
end NP
set_option maxHeartbeats 400000
namespace L2
open PySem PySem.Spec PyProof.Rows PySem.W NP
section
variable {I:Addr}{P:Nat->Value->Prop}{St:Nat->Heap->Prop}
end
theorem yg:PIp X .Sub (rI0 λi j=>.int (i - j)):=λpins s σ H x y v u Q I rx ry q=>yi pins s σ H x y v u Q I rx ry q
def N2(e:Addr)(h:Heap):Prop:=∃(o:Obj) (vs:Array Value),h.get? e=some o/\o.data=.fields vs/\vs[2]?=some Value.none
def Kn{α:Type}(e:Addr)(t:Sem α):Prop:=∀(M:Model) (Γ:PySem.Ctx) (Q:α->Pos->Shared->Prop) (E:Value->Pos->Shared->Prop) (p:Pos) (s:Shared),N2 e s.heap->Sem.wp M Γ t Q E p s->Sem.wp M Γ t (λa p s=>Q a p s/\N2 e s.heap) E p s
section
variable {α β:Type}{e:Addr}
theorem Kn.pure(x:α):Kn e (Pure.pure x:Sem α):=λM Γ Q E p s n h=>by
 rw[Sem.wp_pure'] at h ⊢;exact⟨h,n⟩
theorem Kn.bind{t:Sem α}{k:α->Sem β}(ht:Kn e t)(hk:∀a,Kn e (k a)):Kn e (t >>= k):=λM Γ Q E p s n h=>by
 rw[Sem.wp_bind'] at h ⊢;exact Sem.wp_mono M Γ t (λa p s z=>hk a M Γ Q E p s z.2 z.1) (λ_ _ _ x=>x) p s (ht M Γ _ E p s n h)
theorem Kn.uns(m:String):Kn e (unsupported m:Sem α):=λM Γ Q E p s n h=>False.elim h
theorem Kn.load:Kn e (load a):=λM Γ Q E p s n h=>by
 let⟨o,h1,h2⟩:=h;exact⟨o,h1,h2,n⟩
theorem Kn.stack:Kn e stack:=λM Γ Q E p s n h=>⟨h,n⟩
theorem Kn.alloc(o:Obj):Kn e (alloc o):=λM Γ Q E p s n h=>by
 refine⟨h,?_⟩;let⟨o',vs,h1,h2⟩:=n;exact⟨o',vs,Zzv _ h1,h2⟩
theorem Kn.update(f:Obj->Obj)(hf:∀(o:Obj) (vs:Array Value),o.data=.fields vs->vs[2]?=some Value.none->∃vs':Array Value,(f o).data=.fields vs'/\vs'[2]?=some Value.none):Kn e (update a f):=λM Γ Q E p s n h=>by
 let⟨h1,h2⟩:=h;refine⟨h1,h2,?_⟩;let⟨o,vs,e1,e2,e3⟩:=n;by_cases z:e=a
 ·subst z;let⟨vs',e4,e5⟩:=hf o vs e2 e3;exact⟨f o,vs',Zxv _ e1 (Obj.isFreed_of_fields e4),e4,e5⟩
 ·exact⟨o,vs,(Zyo _ _ (Zza z)).trans e1,e2,e3⟩
theorem Kn.fieldsOf(v:Value):Kn e (fieldsOf v):=by
 unfold PySem.fieldsOf;repeat (first | exact Kn.pure _ | exact Kn.uns _ | exact Kn.load | (refine Kn.bind ?_ λ_=>?_) | split)
theorem Kn.field(v:Value)(i:Nat):Kn e (field v i):=by
 unfold PySem.field;refine Kn.bind (Kn.fieldsOf v) λ_=>?_;repeat (first | exact Kn.pure _ | exact Kn.uns _ | exact Kn.load | (refine Kn.bind ?_ λ_=>?_) | split)
theorem Kn.setField(v x:Value)(hi:i≠2):Kn e (setField v i x):=by
 unfold PySem.setField updateField;split
 ·refine Kn.bind Kn.load λo=>?_;split
  ·split
   ·refine Kn.update _ λo vs h1 h2=>⟨_,Obj.data_mapFields h1 _,?_⟩;rw[Array.getElem?_setIfInBounds_ne hi];exact h2
   ·exact Kn.uns _
  ·exact Kn.uns _
 ·exact Kn.uns _
theorem Kn.setFlight(v:Value)(f:Option Addr):Kn e (setFlight v f):=by
 unfold PySem.setFlight;refine Kn.bind (Kn.field _ _) λ_=>?_;split
 ·exact Kn.setField _ _ (by decide)
 ·exact Kn.pure _
theorem Kn.ready:∀l:List Env,Kn e (readyFrames l)
 |[]=>Kn.pure _
 |env::outer=>by
  have hb:Kn e (behindIsImport env outer):=by
   unfold behindIsImport;repeat (first | exact Kn.pure _ | exact Kn.uns _ | exact Kn.field _ _ | (refine Kn.bind ?_ λ_=>?_) | split)
  have hk:∀b,Kn e (keptBack env b outer):=λb=>by
   unfold keptBack underTheClaimsCaller;repeat (first | exact Kn.pure _ | exact Kn.stack | (refine Kn.bind ?_ λ_=>?_) | split)
  unfold readyFrames;split
  ·refine Kn.bind Kn.load λo=>?_;split
   ·exact Kn.pure _
   ·refine Kn.bind hb λb=>Kn.bind (hk b) λv=>Kn.bind (Kn.update _ λo vs h1 h2=>⟨vs,h1,h2⟩) λ_=>Kn.ready outer
  ·exact Kn.uns _
theorem Kn.frameOf(env:Env):Kn e (frameOf env):=by
 unfold PySem.frameOf frameEnvs;refine Kn.bind (Kn.bind Kn.stack λ_=>Kn.pure _) λl=>Kn.bind ?_ λo=>?_
 ·unfold frameObject;split
  ·exact Kn.pure _
  ·exact Kn.bind (Kn.ready _) λ_=>Kn.pure _
 ·split
  ·exact Kn.pure _
  ·exact Kn.uns _
theorem Kn.newFields(ty:String)(vs:List Value):Kn e (newFields ty vs):=by
 unfold PySem.newFields newObj newObjAsIs;dsimp only;repeat (first | exact Kn.pure _ | exact Kn.uns _ | exact Kn.alloc _ | (refine Kn.bind ?_ λ_=>?_) | split)
theorem Kn.place(f:Addr)(b:Bool):Kn e (entryPlaceOf f b):=by
 unfold entryPlaceOf;refine Kn.bind Kn.stack λ_=>?_;split
 ·exact Kn.pure _
 ·exact Kn.pure _
theorem Kn.noteFrame(v:Value)(env:Env):Kn e (noteFrame v env):=by
 unfold PySem.noteFrame EntryCells.newEntry;repeat (first | exact Kn.pure _ | exact Kn.uns _ | exact Kn.field _ _ | exact Kn.setField _ _ (by decide) | exact Kn.frameOf _ | exact Kn.place _ _ | exact Kn.newFields _ _ | (refine Kn.bind ?_ λ_=>?_) | split)
theorem Kn.leaving(v:Value)(env:Env):Kn e (leaving env v):=Kn.bind (Kn.noteFrame v env) λ_=>Kn.setFlight v none
theorem Kn.any{t:Sem α}{Q:α->Shared->Prop}(k:Kn e t)(n:N2 e s.heap)(h:wpAny M A t Q E s):wpAny M A t (λa s'=>Q a s'/\N2 e s'.heap) E s:=λΓ p hΓ=>k M Γ _ _ p s n (h Γ p hΓ)
theorem Kn.with{t:Sem Unit}{Q:Unit->Shared->Prop}{C:Heap->Prop}(k:Kn e t)(n:N2 e s.heap)(h:∀Q':Unit->Shared->Prop,(∀h',C h'->Q' () {s with heap:=h'})->wpAny M A t Q' E s)(hq:∀h',C h'->N2 e h'->Q () {s with heap:=h'}):wpAny M A t Q E s:=by
 refine wpAny_mono (k.any n (h (λ_ s'=>∃h',s'={s with heap:=h'}/\C h') λh' c=>⟨h',rfl,c⟩)) (λ_ s' z=>?_) λ_ _ x=>x;let⟨⟨h',rfl,c⟩,n'⟩:=z;exact hq h' c n'
end
theorem AG.ex{o:HO}(x:AG P w H h a o):∃ob,h.get? a=some ob:=by
 cases o with
 |lst xs=>let⟨_,_,_,_,e⟩:=x;exact⟨_,e⟩
 |tup xs=>let⟨_,_,_,ob,e,_⟩:=x;exact⟨ob,e⟩
 |dK kvs=>let⟨_,_,_,_,o,_,_,e,_⟩:=x;exact⟨o,e⟩
 |dT kvs=>let⟨_,_,_,_,o,_,_,e,_⟩:=x;exact⟨o,e⟩
 |set S n=>let⟨ob,_,_,_,e,_⟩:=x;exact⟨ob,e⟩
 |ins C dx fs=>let⟨_,_,_,e,_⟩:=x;exact⟨_,e⟩
 |own y=>exact x
 |xd fs=>let⟨_,⟨od,_,_,e,_⟩,_⟩:=x;exact⟨od,e⟩
 |rng lo hi=>let⟨_,_,_,e⟩:=x;exact⟨_,e⟩
 |frz ob u=>exact⟨_,x.1⟩
 |tbl ps=>exact⟨_,x⟩
 |met f y=>exact⟨_,x⟩
 |ext φ=>exact x.2.1
structure Fl(P:Program)(w:World)(fs:List Addr)(H:Hp)(h:Heap)(a:Addr)(H':Hp)(B h':Heap):Prop where
 un:Un fs [] H H' h h'
 hok:HOk P w H' h'
 new:h.get? a=none
 free:H' a=none
 k1:∀b o,h.get? b=some o->H b=none->b∉fs->B.get? b=some o
 k2:∀b o u,H' b=some u->h'.get? b=some o->B.get? b=some o
 k3:∀b o,h.get? b=some o->b∉fs->∃o',B.get? b=some o'
 fr:∀b∈fs,∃o,h.get? b=some o/\H b=none/\∀vs,o.data≠.fields vs
section
variable {fs:List Addr}{H0:Hp}{h0 h1 h2:Heap}
theorem Fl.slots(F:Fl P w fs H h a H' B h1)(up:h1.UpToSlots h2){o:Obj}(e:h.get? b=some o)(hb:b∈fs):∃sl,h2.get? b=some {o with slots:=sl}:=by
 let⟨o',e',n,hd⟩:=F.fr b hb;rw[e] at e';cases e';let⟨sl,q⟩:=F.un.slot b o e n hb (by simp);let⟨sl2,q2⟩:=up b _ q hd;exact⟨sl2,q2⟩
theorem Fl.on(F:Fl P w fs H h a H' B h1)(st:B.StaysIn h2)(up:h1.UpToSlots h2):Fl P w fs H h a H' B h2 where
 un:={
  keep:=λb o e n hb _=>st b o (F.k1 b o e n hb)
  slot:=λb o e n hb _=>F.slots up e hb
  free:=F.un.free
  there:=λb o e _=>by
   by_cases hb:b∈fs
   ·let⟨sl,q⟩:=F.slots up e hb
    exact⟨_,q⟩
   ·let⟨o',q⟩:=F.k3 b o e hb
    exact⟨o',st b o' q⟩
  tups:=F.un.tups
  frzs:=F.un.frzs
  tbls:=F.un.tbls}
 hok:=λb u e=>(F.hok b u e).stay (λc o hc q=>st c o (by
  rcases hc with rfl | hc
  ·exact F.k2 _ o u e q
  ·exact F.k2 c o _ hc q)) (λ_ q=>q) λ_ _ q=>q
 new:=F.new;free:=F.free;k1:=F.k1;k2:=λb o u e q=>by
  let⟨o1,q1⟩:=(F.hok b u e).ex;have z:=F.k2 b o1 u e q1;have z2:=st _ _ z;rw[q] at z2;cases z2;exact z
 k3:=F.k3;fr:=F.fr
theorem Fl.out(F:Fl P w (L::fs) H h a H' B h1)(U:Un fs [] H0 H h0 h)(hL:h0.objs.size<=L)(fr:∀b∈fs,∃o,h0.get? b=some o/\H0 b=none/\∀vs,o.data≠.fields vs):Fl P w fs H0 h0 a H' B h1:=by
 have nL:∀b o,h0.get? b=some o->b∉fs->b∉L::fs:=λb o e hb z=>by
  rcases Zzw.mp z with z | z
  ·rw[z] at e;exact absurd (Zzb (Zzo e) hL) (Zx0 _)
  ·exact hb z
 have nx:∀b:Addr,b∉([]:List Addr):=λb z=>by cases z
 refine⟨⟨λb o e n hb hx=>?_,λb o e n hb hx=>?_,λb o e n hx=>?_,λb o e hx=>?_,λb xs e=>F.un.tups b xs (U.tups b xs e),λb o u e=>F.un.frzs b o u (U.frzs b o u e),λb ps e=>?_⟩,F.hok,?_,F.free,λb o e n hb=>?_,F.k2,λb o e hb=>?_,fr⟩
 ·exact F.un.keep b o (U.keep b o e n hb hx) (U.free b o e n hx) (nL b o e hb) hx
 ·let⟨sl,q⟩:=U.slot b o e n hb hx;let⟨sl2,q2⟩:=F.un.slot b _ q (U.free b o e n hx) (Zzs _ hb) hx;exact⟨sl2,q2⟩
 ·let⟨o',q⟩:=U.there b o e hx;exact F.un.free b o' q (U.free b o e n hx) hx
 ·let⟨o',q⟩:=U.there b o e hx;exact F.un.there b o' q hx
 ·let⟨m1,e1⟩:=U.tbls b ps e;let⟨m2,e2⟩:=F.un.tbls b _ e1;exact⟨m1++m2,by rw[e2,Array.append_assoc]⟩
 ·cases e:h0.get? a with
  |none=>rfl
  |some o =>
   let⟨o',q⟩:=U.there a o e (nx a);rw[F.new] at q;cases q
 ·exact F.k1 b o (U.keep b o e n hb (nx b)) (U.free b o e n (nx b)) (nL b o e hb)
 ·let⟨o',q⟩:=U.there b o e (nx b);exact F.k3 b o' q (nL b o e hb)
end
abbrev CXE(P:Program)(w:World):CXT:=λouter H s E e s'=>∃(a:Addr) (cls:Value) (H':Hp) (B:Heap) (t:Addr),e=.ref a/\s'.os=s.os/\AllBare s'.gens/\Fl P w (frs outer) H s.heap a H' B s'.heap/\(Zwp B outer a cls (.ref t) s'.heap/\N2 a s'.heap)/\E cls none H'
abbrev XG:=Value->St->Hp->Prop
def Ij(X:Cx)(G:XG):Prop:=∀(pins:List (Addr×Obj)) (σ:St) (H:Hp) (s:Shared) (e:Value) (s':Shared),Inv X pins σ H s->CXE X.prog X.w X.stack H s (λcls _ H'=>G cls σ H') e s'->X.xe e s'
def vd(X:Cx)(G:XG):Prop:=∀(pins:List (Addr×Obj)) (σ:St) (H:Hp) (s:Shared) (h':Heap) (e:Addr) (cls:Value) (vs:List Value),Inv X pins σ H s->Heap.MadeExcOf s.heap h' e cls vs->G cls σ H->X.xe (.ref e) {s with heap:=h'}
section
variable {E:XK}
theorem Inv.frfl(I:Inv X pins σ H s):∀b∈frs X.stack,∃o,s.heap.get? b=some o/\H b=none/\∀vs,o.data≠.fields vs:=λb hb=>by
 let⟨_,o,ho,hd⟩:=I.stack.mem hb;exact⟨o,ho,I.stkFree b hb,hd⟩
theorem tu(I:Inv X pins σ H s):∀b∈frs X.outer,∃o,X.s₀.heap.get? b=some o/\X.H₀ b=none/\∀vs,o.data≠.fields vs:=λb hb=>by
 let⟨_,o,ho,hd⟩:=I.ok.funs.mem hb;exact⟨o,ho,I.ok.frf b hb,hd⟩
theorem Fc:Ij (No (CXE P w) P w K mg base N qual scope f cd A outer s H E) λcls _ H'=>E cls none H':=by
 rintro pins σ H1 s1 e s' I ⟨a,cls,H2,B,t,he,os,bare,F,fl,hE⟩;subst he;refine(Kn.leaving (.ref a) _).with fl.2 (C:=λh'=>Zwp B outer a cls (.ref t) h'/\s'.heap.UpToSlots h') (λQ' hq=>wpAny_leaves_onW (outer:=outer) I.ok.frames rfl fl.1 λh' x y=>hq h' ⟨x,y⟩) λh' z n'=>?_;let⟨fl',up⟩:=z;have F1:Fl P w (s.heap.objs.size::frs outer) H1 s1.heap a H2 B h':=F.on fl'.1 up;exact⟨a,cls,H2,B,t,rfl,os.trans I.os,bare,F1.out I.base (Zzu _) (tu I),⟨fl',n'⟩,hE⟩
theorem Inv.flNew{e:Addr}{vs:List Value}(I:Inv X pins σ H s)(hx:Heap.MadeExcOf s.heap h' e cls vs):Fl X.prog X.w (frs X.stack) H s.heap e H (hideAll s.heap (frs X.stack)) h' where
 un:=Un.kept hx.keeps
 hok:=I.hok.kept hx.keeps
 new:=hx.new
 free:=by
  cases q:H e with
  |none=>rfl
  |some u =>
   let⟨ob,z⟩:=(I.hok e u q).ex;rw[hx.new] at z;cases z
 k1:=λb o q _ hb=>hideAll_get _ q hb;k2:=λb o u q z=>by
  let⟨o1,z1⟩:=(I.hok b u q).ex;have z2:=hx.keeps b o1 z1;rw[z] at z2;cases z2;exact hideAll_get _ z1 λm=>by rw[I.stkFree b m] at q;cases q
 k3:=λb o q hb=>⟨o,hideAll_get _ q hb⟩;fr:=I.frfl
theorem Gn:vd (No (CXE P w) P w K mg base N qual scope f cd A outer s H E) λcls _ H'=>E cls none H':=by
 intro pins σ H1 s1 h' e cls vs I hx hE;have F:=I.flNew hx;have n0:N2 e h':=by
  let⟨t,he,_⟩:=hx.there;exact⟨_,_,he,rfl,rfl⟩
 refine(Kn.leaving (.ref e) _).with (s:={s1 with heap:=h'}) n0 (C:=λh2=>∃t,Zwp (hideAll s1.heap (frs (envOfC qual scope s.heap.objs.size f cd::outer))) outer e cls (.ref t) h2/\h'.UpToSlots h2) (λQ' hq=>wpAny_leaves_madeW (outer:=outer) (h:=s1.heap) I.ok.frames rfl (λb o q=>of_hideAll _ q) (funFrames_hide I.stack λenv he b hb=>Zx5.mpr ⟨env,he,hb⟩) hx λh2 t fl _ _ up=>hq h2 ⟨t,fl,up⟩) λh2 z n2=>?_;let⟨t,fl,up⟩:=z;have F1:Fl P w (s.heap.objs.size::frs outer) H1 s1.heap e H1 _ h2:=F.on fl.1 up;exact⟨e,cls,H1,_,t,rfl,I.os,I.bare,F1.out I.base (Zzu _) (tu I),⟨fl,n2⟩,hE⟩
end
theorem Fun.okX{st:Stmt}{k:Nat}(F:Fun K x qual st f fd)(S:Bu N ps (Ap st))(len:∀vs H Q E,sp vs H Q E->vs.length=ps.length)
  (hbody:∀(cdv:Value) (A:Around) (outer:List Env) (s:Shared) (H:Hp) (vs:List V) (Q:VK) (E:XK),AM k (A.deeper (envOfC qual (Ap st) s.heap.objs.size f cdv))->sp vs H Q E ->
   ∃t,PSs (No (CXE P w) P w K mg base N qual (Ap st) f cdv A outer s H E) (Dg st) t/\t {nx:=λ_ H'=>Q .non H',rt:=Q} (Io N vs) H):Aq P w K mg base (CXE P w) (k+1) f fd ps sp:=by
 let⟨oc,od,kV,doc,pm,an,cdv,ct,osl,rfl,lk,hcd⟩:=F.ex;exact sv lk hcd S len λA outer s H vs Q E hr hsp=>hbody cdv A outer s H vs Q E hr hsp
def Eh(P:Program)(w:World)(K:Zzy)(mg:Str->Option Value)(base:Heap)(x:Str)(k:Nat)(ps:List Str)(sp:Sp):Prop :=
 ∃f fd,mg x=some (.ref f)/\Zxj K (.ref f)=true/\BF K fd ps []/\Aq P w K mg base (CXE P w) k f fd ps sp
def m5(sp:Sp)(G:XG)(t:TA):TE:=λσ H Q=>t σ H λvs H1=>sp vs H1 Q λcls _ H'=>G cls σ H'
theorem dq{k:Nat}{G:XG}{Q:VK}{vs:List V}(F:Aq X.prog X.w X.K X.mg X.base (CXE X.prog X.w) k f fd ps sp)(hr:AM k X.A)(hb:BF X.K fd ps [])(hp:Ij X G)
  (I:Inv X pins σ H s) (r:AC vs us) (h:sp vs H Q λcls _ H'=>G cls σ H'):wpAny (model X.prog X.w) X.A (call (.ref f) us) (EP X pins σ Q) X.xe s:=by
 have hl:us.length=ps.length:=by rw[<- r.length];exact F.len _ _ _ _ h
 have hb':=hb s us I.kIn (by rw[Zyt];exact hl);rw[Zyt] at hb';refine wpAny_call (codeAny_mono (F.run X.A X.stack s H ⟨us,[]⟩ us vs Q _ hr I.env0 hb' r h) λr s' hq=>?_);cases r with
 |error e=>exact hp pins σ H s e s' I hq
 |ok fl =>
  cases fl with
  |ret u=>exact I.after hq
  |next=>exact False.elim hq
  |brk=>exact False.elim hq
  |cont=>exact False.elim hq
theorem B0{k:Nat}{G:XG}{p:Pos}(h:Eh X.prog X.w X.K X.mg X.base x k ps sp)(hp:Ij X G)(hr:AM k X.A)(hg:Gl X x)(ha:PA X (e::es) t)(hn:Bw (e::es)=true:=by rfl)(hdb:(x == ("__debug__" : Str))=false:=by decide) :
  PE X (.Call (.Name x p) (e::es) [] pos) (m5 sp G t):=by
 let⟨f,fd,hm,hk,hb,F⟩:=h;intro pins s σ H Q I ht;refine wpAny_Call_Name_kw (Jz I hg hm ?_ hdb);refine Zuu (h₀:=X.base) I.ok.mod.kin hk (thn (ha pos pins s σ H _ I ht) λus s1 ⟨vs,H1,I1,r,q⟩=>⟨I1.kIn,?_⟩) (B6 (B2 hn).1) (C7 (B2 hn).2);exact dq F hr hb hp I1 r q
abbrev Cx.tried(X:Cx)(pn:List (Addr×Obj))(W:Value->Shared->Prop):Cx:={X with pn:=pn,xe:=W}
abbrev Cx.caught(X:Cx)(a:Addr):Cx:={X with A:=X.A.mark (some (.ref a)),calm:=false,xe:=λ_ _=>False}
def bi(a:Addr)(cls:Value):HO:=.ext λh=>(∃o,h.get? a=some o/\o.cls=cls)/\N2 a h
section
variable {W:Value->Shared->Prop}
theorem Inv.tried(I:Inv X pins σ H s)(W:Value->Shared->Prop):Inv (X.tried (X.pn++pins) W) [] σ H s :=
 ⟨⟨I.ok.mod,I.ok.kind,I.ok.glob,I.ok.blt,I.ok.above,I.ok.inj,I.ok.has,I.ok.cab,I.ok.hd,I.ok.frames,I.ok.stk,I.ok.exf,I.ok.bs,I.ok.bsz,I.ok.noex,I.ok.exfs,I.ok.funs,I.ok.frf⟩,I.os,I.bare,I.base,I.loc,I.cell,I.free,I.freeC,λp hp=>I.pin p (by rw[Zyt] at hp;exact hp),I.hok,I.len⟩
theorem Inv.untried{ps:List (Addr×Obj)}(I:Inv (X.tried (X.pn++pins) W) ps σ H s):Inv X pins σ H s :=
 ⟨⟨I.ok.mod,I.ok.kind,I.ok.glob,I.ok.blt,I.ok.above,I.ok.inj,I.ok.has,I.ok.cab,I.ok.hd,I.ok.frames,I.ok.stk,I.ok.exf,I.ok.bs,I.ok.bsz,I.ok.noex,I.ok.exfs,I.ok.funs,I.ok.frf⟩,I.os,I.bare,I.base,I.loc,I.cell,I.free,I.freeC,λp hp=>I.pin p (Zyi _ hp),I.hok,I.len⟩
theorem Inv.caught(I:Inv X pins σ H s)(a:Addr):Inv (X.caught a) pins σ H s :=
 ⟨⟨I.ok.mod,I.ok.kind,I.ok.glob,I.ok.blt,I.ok.above,I.ok.inj,I.ok.has,I.ok.cab,(λz=>by cases z),I.ok.frames,I.ok.stk,I.ok.exf,I.ok.bs,I.ok.bsz,I.ok.noex,I.ok.exfs,I.ok.funs,I.ok.frf⟩,I.os,I.bare,I.base,I.loc,I.cell,I.free,I.freeC,I.pin,I.hok,I.len⟩
theorem Inv.uncaught(I:Inv (X.caught a) pins σ H s)(ok:X.Ok):Inv X pins σ H s:=⟨ok,I.os,I.bare,I.base,I.loc,I.cell,I.free,I.freeC,I.pin,I.hok,I.len⟩
theorem Inv.lands(I:Inv X pins σ H s)(os:s'.os=s.os)(bare:AllBare s'.gens)(F:Fl X.prog X.w (frs X.stack) H s.heap a H' B s'.heap)(hc:∃o,s'.heap.get? a=some o/\o.cls=cls)(hn:N2 a s'.heap):Inv X pins σ (upd H' a (bi a cls)) s':=by
 have na:∀b u,H' b=some u->b≠a:=λb u e z=>by rw[z,F.free] at e;cases e
 refine I.call' (ch:=[]) os ⟨F.un.keep,F.un.slot,λb o e n hx=>?_,F.un.there,λb xs e=>?_,λb o u e=>?_,λb ps e=>?_⟩ (λb u e=>?_) bare (λb z=>by cases z)
 ·rw[A6 (λz=>by rw[z,F.new] at e;cases e)];exact F.un.free b o e n hx
 ·have q:=F.un.tups b xs e
  rw[A6 (na b _ q)];exact q
 ·have q:=F.un.frzs b o u e
  rw[A6 (na b _ q)];exact q
 ·let⟨more,q⟩:=F.un.tbls b ps e;exact⟨more,by rw[A6 (na b _ q)];exact q⟩
 ·by_cases hb:b=a
  ·subst hb;rw[AA] at e;cases e;let⟨o,ho,hcl⟩:=hc;exact⟨⟨⟨o,ho,hcl⟩,hn⟩,⟨o,ho⟩,λh1 h2 ⟨⟨o,e,c⟩,o',vs,e',r⟩ k=>⟨⟨o,k o e,c⟩,o',vs,k o' e',r⟩⟩
  ·rw[A6 hb] at e;exact(F.hok b u e).stay (λc o _ q=>q) (λc q=>by rw[A6 (na c _ q)];exact q) λc xs q=>by rw[A6 (na c _ q)];exact q
theorem Jy{n:Str}{Q:Unit->Shared->Prop}(I:Inv X pins σ H s)(nd:X.N.Nodup)(hi:X.N[i]?=some n)(hl:X.env.scope.names.lookup n=some .local)(h:∀s',Inv X pins (σ.set i none) H s'->Q () s') :
  wpAny M A (do bindName X.env n .none;unbindBehindTheSuite X.env n pos) Q E s:=by
 let⟨m,hn,hlk⟩:=I.loc;refine wpAny_nameGoes_keeps (m:=m) hl hn (by rw[I.ok.kind];rfl) λh' v hn' hs=>h _ ?_;have neL:∀b o,X.s₀.heap.get? b=some o->b≠X.env.locals:=λb o e=>Zz0 (Zzb (Zzo e) I.ok.above);refine⟨I.ok,I.os,I.bare,⟨λb o e n hb hx=>(hs.2 b (neL b o e)).trans (I.base.keep b o e n hb hx),λb o e n hb hx=>?_,I.base.free,λb o e hx=>?_,I.base.tups,I.base.frzs,I.base.tbls⟩,⟨_,hn',λj y v' e1 e2 e3=>?_⟩,λy c e=>?_,I.free,I.freeC,λp hp=>?_,λb u e=>?_,by rw[List.length_set];exact I.len⟩
 ·let⟨sl,q⟩:=I.base.slot b o e n hb hx;exact⟨sl,(hs.2 b (neL b o e)).trans q⟩
 ·let⟨o',q⟩:=I.base.there b o e hx;exact⟨o',(hs.2 b (neL b o e)).trans q⟩
 ·by_cases hj:j=i
  ·subst hj;rw[List.getElem?_set] at e2;split at e2<;>rename_i z
   ·split at e2<;>cases e2
   ·exact absurd rfl z
  ·rw[Zxr (Zza hj)] at e2;let⟨u',r',q⟩:=hlk j y v' e1 e2 e3;refine⟨u',r',?_⟩;rcases q with ⟨k,e⟩ | ⟨k,c,e,z⟩
   ·refine .inl ⟨k,?_⟩;have:y≠n:=λe=>hj (R0 nd e1 (e▸hi));simp[this,e]
   ·exact .inr ⟨k,c,e,z.sameBut hs (I.cne y c e)⟩
 ·let⟨w',z⟩:=I.cell y c e;exact⟨w',z.sameBut hs (I.cne y c e)⟩
 ·let⟨e,n,ne,nf,d⟩:=I.pin p hp;exact⟨(hs.2 p.1 ne).trans e,n,ne,nf,d⟩
 ·refine(I.hok b u e).stay (λc o hc q=>?_) (λ_ q=>q) λ_ _ q=>q;have nc:c≠X.env.locals:=λz=>by
   rcases hc with rfl | hc
   ·rw[z,I.free] at e;cases e
   ·rw[z,I.free] at hc;cases hc
  exact(hs.2 c nc).trans q
end
def AX.lose(D:AX)(i:Nat):AX:={nx:=λσ H=>D.nx (σ.set i none) H,rt:=D.rt,bk:=λσ H=>D.bk (σ.set i none) H,ct:=λσ H=>D.ct (σ.set i none) H}
def A2x(i:Nat)(fits:Value->Prop)(tb:XG->TS)(ts:Addr->TS):TS:=λD σ H=>tb (λcls σ' H'=>fits cls/\∀a,H' a=none->ts a (D.lose i) (σ'.set i (some (.ref a))) (upd H' a (bi a cls))) D σ H
theorem A1j{suite:List Stmt}{b₀:Stmt}{c n:Str}{cp hp:Pos}{C0:Addr}{tb:XG->TS}{ts:Addr->TS}{fits:Value->Prop}(nd:X.N.Nodup)(hi:X.N[i]?=some n)(hl:X.env.scope.names.lookup n=some .local)(hst:X.stack=X.env::X.outer)(hfr:X.env.frame=some X.env.locals)
  (hg:Gl X c) (hm:X.mg c=some (.ref C0)) (hf:∀cls,fits cls->exmOne X.K cls (.ref C0)=some true)
  (hb:∀(pn:List (Addr×Obj)) (W:Value->Shared->Prop) (G:XG),Ij (X.tried pn W) G->PSs (X.tried pn W) body (tb G)) (hs:∀a,PSs (X.caught a) (b₀::suite) (ts a)) (hd:(c == ("__debug__" : Str))=false:=by decide) :
  PS X (.Try body [.ExceptHandler (some (.Name c cp)) (some n) (b₀::suite) hp] [] [] pos) (A2x i fits tb ts):=by
 intro pins s σ H D I h;refine wpAny_Try_except ?_;refine wpAny_mono (hb (X.pn++pins) (λe s'=>∃a cls σ1 H1 s1 H' B t,e=.ref a/\Inv X pins σ1 H1 s1/\s'.os=s1.os/\AllBare s'.gens/\Fl X.prog X.w (frs X.stack) H1 s1.heap a H' B s'.heap/\(Zwp B X.stack a cls (.ref t) s'.heap/\N2 a s'.heap) /\
  fits cls/\∀a,H' a=none->ts a (D.lose i) (σ1.set i (some (.ref a))) (upd H' a (bi a cls))) _ (λps σ1 H1 s1 e s' I1 ⟨a,cls,H',B,t,he,os,bare,F,fl,q⟩=>⟨a,cls,σ1,H1,s1,H',B,t,he,I1.untried,os,bare,F,fl,q⟩) [] s σ H D (I.tried _) h) (λf s1 q=>?_) (λe s' q=>?_)
 ·cases f with
  |next=>let⟨σ',H',I',q⟩:=q;exact GG ⟨σ',H',I'.untried,q⟩
  |brk=>let⟨σ',H',I',q⟩:=q;exact⟨σ',H',I'.untried,q⟩
  |cont=>let⟨σ',H',I',q⟩:=q;exact⟨σ',H',I'.untried,q⟩
  |ret u=>let⟨v,σ',H',I',r,q⟩:=q;exact⟨v,σ',H',I'.untried,r,q⟩
 ·let⟨a,cls,σ1,H1,s1,H',B,t,rfl,I1,os,bare,F,fl,hf1,hq⟩:=q;let⟨fl,n3⟩:=fl;have fl':=fl;rw[hst] at fl';refine(Kn.noteFrame (.ref a) _).with n3 (C:=λh'=>Heap.HeldW B (X.env::X.outer) a cls (.ref t) X.env.locals h'/\s'.heap.UpToSlots h') (λQ' hq=>wpAny_looks_onW (outer:=X.outer) (by rw[I.ok.frames,hst]) hfr fl' λh' x y=>hq h' ⟨x,y⟩) λh4 z4 n4=>?_;let⟨held,up4⟩:=z4;refine(Kn.setFlight (.ref a) none).with (s:={s' with heap:=h4}) n4 (C:=λh'=>Zwp B (X.env::X.outer) a cls (.ref t) h'/\h4.UpToSlots h') (λQ' hq=>wpAny_landsW held λh' x y=>hq h' ⟨x,y⟩) λh5 z5 n5=>?_;let⟨fl5,up5⟩:=z5;have F5:=(F.on held.1 up4).on fl5.1 up5;have I5:Inv X pins σ1 H' {s' with heap:=h5}:=I1.call' (ch:=[]) os F5.un F5.hok bare (λb z=>by cases z);refine wpAny_handleBy_cons (codeAny_handlers_test ?_) (by intro z;cases z);refine Jz (X:=X.caught a) (I5.caught a) hg hm ?_ hd;let⟨oe,hoe,hoc⟩:=fl5.there;have LT:Looks (model X.prog X.w) h5 (typeOf (.ref a)) cls:=hoc▸(Looks.ld hoe).andThen .now;refine(exm_one I5.kIn LT (hf cls hf1)).here ?_;refine codeAny_handlers_suite_as ?_;refine(Kn.setFlight (.ref a) none).with (s:={s' with heap:=h5}) n5 (C:=λh'=>Zwp B (X.env::X.outer) a cls (.ref t) h'/\h5.UpToSlots h') (λQ' hq=>lands_againW fl5 λh' x y=>hq h' ⟨x,y⟩) λh6 z6 n6=>?_;let⟨fl6,up6⟩:=z6;have F6:=F5.on fl6.1 up6;have I6:Inv X pins σ1 (upd H' a (bi a cls)) {s' with heap:=h6}:=I1.lands os bare F6 fl6.there n6;refine L8 (X:=X.caught a) (I6.caught a) nd hi (.inl hl) (v:=.ref a) rfl (λs7 I7=>?_) (.inr hl);refine wpAny_mono (hs a pins s7 _ _ (D.lose i) I7 (hq a F.free)) (λf s8 q8=>?_) (λe s8 z=>z.elim);cases f with
  |next=>let⟨σ',H2,I',q⟩:=q8;exact Jy (I'.uncaught I.ok) nd hi hl λs9 I9=>⟨_,H2,I9,q⟩
  |brk=>let⟨σ',H2,I',q⟩:=q8;exact Jy (I'.uncaught I.ok) nd hi hl λs9 I9=>⟨_,H2,I9,q⟩
  |cont=>let⟨σ',H2,I',q⟩:=q8;exact Jy (I'.uncaught I.ok) nd hi hl λs9 I9=>⟨_,H2,I9,q⟩
  |ret u=>let⟨v,σ',H2,I',r,q⟩:=q8;exact Jy (I'.uncaught I.ok) nd hi hl λs9 I9=>⟨v,_,H2,I9,r,q⟩
def X5:List Value:=[.type "ValueError",.type "Exception",.type "BaseException",.type "object"]
def yx(K:Frag)(C:Addr):Bool:=excIn K C X5 "ValueError.__new__"
theorem jh{K:Frag}(Y:K.In h)(z:yx K C=true) :
  ∃bm N nm q bs hdct sn sub ab col dd k0 k1 k2 k3 k5 mN,h.get? C=some (excClassObj nm q C N bs bm hdct sn sub ab col dd k0 k1 k2 k3 k5 "ValueError.__new__")/\h.Ns N mN/\mN "__init__" = none/\OwnTail h X5 bm:=by
 unfold yx excIn at z;split at z
 ·rename_i d1 c1 l1 lk;split at z
  ·rename_i C2 b2 a0 a1 a2 a3 nn a5 em es;let⟨z,z6⟩:=Zy3.mp z;let⟨z,z5⟩:=Zy3.mp z;let⟨z,z4⟩:=Zy3.mp z;let⟨z,z3⟩:=Zy3.mp z;let⟨z1,z2⟩:=Zy3.mp z;have e1:=beq_iff_eq.mp z1;have e2:=beq_iff_eq.mp z2;have e6:=beq_iff_eq.mp z6;subst e1 e2;cases c1 with
   |mk nm1 bs1 mro1 ns1 qn1 hd1 sn1 sub1 ab1 col1 del1 =>
   have e3:del1=false:=by simpa using z3
   have em:mro1=_:=em;subst e3 em;have el:l1=#[a0,a1,a2,a3,some (.builtin "ValueError.__new__"),a5]:=by
    cases l1 with
    |mk l=>exact congrArg Array.mk es
   subst el;exact⟨b2,ns1,nm1,qn1,bs1,hd1,sn1,sub1,ab1,col1,d1,a0,a1,a2,a3,a5,_,Y _ _ lk,.of_isNs (isNs_of_in Y z5),nsMap_none_of_in Y z5 e6,tail_of_in Y z4⟩
  ·cases z
 ·cases z
def li(C:Addr)(G:XG)(te:TA):TS:=λD σ H=>te σ H λvs H1=>vs.length<=sizeLine/\G (.ref C) σ H1
theorem Cb{G:XG}{ta:TA}{np:Pos}(hm:vd X G)(hc:X.calm=true)(hg:Gl X x)(hmg:X.mg x=some (.ref C))(q:yx X.K C=true)(ha:PA X [e] ta)(hn:Bw [e]=true:=by rfl)(hd:(x == ("__debug__" : Str))=false:=by decide) :
  PS X (.Raise (some (.Call (.Name x np) [e] [] cpos)) none pos) (li C G ta):=by
 intro pins s σ H D I h;let⟨bm,N,nm,qn,bs,hdct,sn,sub,ab,col,dd,k0,k1,k2,k3,k5,mN,hC,hN,hni,T⟩:=jh I.ok.mod.kin q;refine wpAny_Raise_call_subT (C:=C) (nm:=nm) (q:=qn) (N:=N) (bs:=bs) (bm:=bm) (hdct:=hdct) (sn:=sn) (sub:=sub) (ab:=ab) (col:=col) (dd:=dd) (k0:=k0) (k1:=k1) (k2:=k2) (k3:=k3) (k5:=k5) F.excBase_ValueError (mN:=mN) (T.hasType F.excBase_ValueError.hasBase) (I.ok.hd hc) (by rw[B6 hn];exact C7 rfl) hni ?_;refine Jz I hg hmg ⟨rfl,?_⟩ hd;rw[B6 hn];have h1:=ha cpos pins s σ H _ I h;rw[B6 hn] at h1;exact Zv7 (wpAny_mono h1 (λus s2 z0=>by let⟨vs,H1,I1,r,hv,hG⟩:=z0;exact ⟨rfl,by rw[<- r.length];exact hv,I1.bk _ _ hC,hN.keeps I1.bk,T.keeps I1.bk,λh' e' hx=>hm pins σ H1 s2 h' e' (.ref C) us I1 hx hG⟩) λ_ _ y=>y)
abbrev TF:=Nat->St->Hp->(Hp->Prop)->Prop
def PF(X:Cx)(es:List Expr)(t:TF):Prop:=∀(pins:List (Addr×Obj)) (s:Shared) (σ:St) (H:Hp) (acc:Str) (Q:VK) (n:Nat),acc.length<=n->Inv X pins σ H s->t n σ H (λH'=>∀z:Str,Q (.str z) H')->wpAny (model X.prog X.w) X.A (joinParts acc (evalEach es X.env)) (EP X pins σ Q) X.xe s
def FT:TF:=λn _ H K=>n<=1000000/\K H
def A07(k:Nat)(t:TF):TF:=λn σ H K=>n+k<=1000000/\t (n+k) σ H K
def A05(te:TE)(t:TF):TF:=λn σ H K=>te σ H λv H1=>∃y,v=.str y/\n+y.length<=1000000/\t (n+y.length) σ H1 K
def A06(te:TE)(t:TF):TF:=λn σ H K=>te σ H λv H1=>∃y,v=.str y/\(∀c∈y.cps.toList,c<0x110000)/\n+(10*y.length+2)<=1000000/\t (n+(10*y.length+2)) σ H1 K
section
variable {t:TF}{p q:Pos}
theorem F0(h:n<=1000000):n<=sizeLine:=Zzp h (by decide)
theorem V9:PF X [] FT:=λpins s σ H acc Q n ha I h=>joinParts_nil ⟨.str acc,H,I.tok _,⟨_,rfl⟩,h.2 acc⟩ (F0 (Zzp ha h.1))
theorem Va(ht:PF X es t):PF X (.Constant (.str x) j p::es) (A07 x.length t):=λpins s σ H acc Q n ha I h=>by
 refine joinParts_cons (Zuw ?_);have hl:(acc++x).length<=n+x.length:=by rw[strLen_append];lia
 exact⟨F0 (Zzp hl h.1),ht pins _ σ H (acc++x) Q _ hl (I.tok _) h.2⟩
theorem Zx(he:PE X e te)(ht:PF X es t):PF X (.FormattedValue e (-1) none p::es) (A05 te t):=λpins s σ H acc Q n ha I h=>by
 refine joinParts_cons (FormattedValue_plain (thn (he pins s σ H _ I h) λu s1 z0=>?_));let⟨v,H1,I1,r,y,hv,hy,hq⟩:=z0;subst hv;let⟨tk,rfl⟩:=r;have hl:(acc++y).length<=n+y.length:=by rw[strLen_append];lia
 exact formatField_str (λt' tk'=>⟨F0 (Zzp hl hy),ht pins _ σ H1 (acc++y) Q _ hl (I1.tok _) hq⟩) (F0 (by lia))
theorem A1l(he:PE X e te)(ht:PF X es t):PF X (.FormattedValue e 114 none p::es) (A06 te t):=λpins s σ H acc Q n ha I h=>by
 refine joinParts_cons (wpAny_FormattedValue_repr (thn (he pins s σ H _ I h) λu s1 z0=>?_));let⟨v,H1,I1,r,y,hv,hc,hy,hq⟩:=z0;subst hv;let⟨tk,rfl⟩:=r;have hr:(reprText y).length<=10*y.length+2:=PySem.StrLaws.reprText_len y λc hm=>Zzb (hc c hm) (by decide);refine wpAny_pyReprObj_str ?_ (F0 (by lia));have hl:(acc++reprText y).length<=n+(10*y.length+2):=by rw[strLen_append];lia
 exact formatField_str (λt' tk'=>⟨F0 (Zzp hl hy),ht pins _ σ H1 (acc++reprText y) Q _ hl (I1.tok _) hq⟩) (F0 (by lia))
def A33(t:TF):TE:=λσ H Q=>t 0 σ H λH'=>∀z:Str,Q (.str z) H'
theorem Vb(h:PF X (e::e2::es) t):PE X (.JoinedStr (e::e2::es) p) (A33 t):=λpins s σ H Q I hq=>JoinedStr_many (h pins s σ H Str.empty Q 0 (Zzu _) I hq)
end
end L2
set_option maxHeartbeats 1000000
namespace L2
open PySem PySem.Spec PySem.Calls PyProof.Rows PySem.W Builtin Builtin.ObjectAttr Builtin.Getset_descriptor
structure S4(K:Frag)(D:Addr):Prop where
 ga:findIn K (.ref D) "__getattribute__" = some (some (.builtin "BaseException.__getattribute__"))
 gt:findIn K (.ref D) "__getattr__" = some none
 cl:findIn K (.ref D) "__class__" = some (some (.builtin "object.__class__"))
 gs:specialIn K (.builtin "object.__class__") "__get__" = some (some (.builtin "getset_descriptor.__get__"))
 tk:takesIn K (.builtin "object.__class__")=some true
 ob:mroIn K D (.type "object")=some true
 be:mroIn K D (.type "BaseException")=some true
 is:(clsIn K D).isSome=true
def S5(x D:Addr)(h:Heap):Prop:=∃o,h.get? x=some o/\o.cls=.ref D
theorem Jm{x D:Addr}(p:S5 x D h):Looks M h (typeOf (.ref x)) (.ref D):=by
 let⟨o,h1,h2⟩:=p;exact h2▸(Looks.ld h1).andThen .now
section
variable {K:Frag}{x D:Addr}
theorem yw{tp:Value}(Y:K.In s.heap)(p:S5 x D s.heap)(k:S4 K D)(h:R (.ok (.ret (.ref D))) s):codeAny (model prog w) A (.call (.builtin "getset_descriptor.__get__") ⟨[.builtin "object.__class__",.ref x,tp],[]⟩) R s:=by
 let⟨h0,g,dr,t,os⟩:=s;have T0:=Jm (M:=model prog w) p;have T1:=looks_mroIn (M:=model prog w) Y k.ob;refine codeAny_call_builtin KF.slot_gs.plain KF.entry_gs
  (KF.slot_gs.check _ _ _ _ _ _ _ _ KF.type_class (KF.args_gs _ _ _) ?_)
 unfold Builtin.«getset_descriptor.__get__» descrGet;rw[dga_obj];refine GF (GG ?_);unfold descrGetter descrCheckInstance descrNameAndClass isInstance;simp only[KF.owner_class];repeat lk
 refine And.intro (Code.quiet_builtin _ (by decide +kernel)) (codeAny_builtin KF.entry_class ?_);unfold Builtin.«object.__class__» shownTypeOf;repeat lk
 exact h
theorem ji{tk:Tok}{Q:Fin->Shared->Prop}(Y:K.In s.heap)(p:S5 x D s.heap)(k:S4 K D)(h:Q (.done (.ret (.ref D))) s):wpAny (model prog w) A (Builtin.«object.__getattribute__» ⟨[.ref x,.str "__class__" tk],[]⟩) Q E s:=by
 let⟨h0,g,dr,t,os⟩:=s;have T0:=Jm (M:=model prog w) p;have T1:=looks_findIn (M:=model prog w) Y k.cl;have T2:=looks_specialIn (M:=model prog w) Y k.gs;have T3:=looks_takesIn (M:=model prog w) Y k.tk;have TF:Looks (model prog w) h0 (find (.ref x) (.ref D) "__class__") (.bind (.builtin "getset_descriptor.__get__") (.builtin "object.__class__")) :=
  T1.andThen (Looks.andThen (show Looks (model prog w) h0 (getOf (some (.builtin "object.__class__"))) (some (.builtin "getset_descriptor.__get__")) from T2) ((show Looks (model prog w) h0 (dataDescriptor? (some (.builtin "object.__class__")) (some (.builtin "getset_descriptor.__get__"))) (some (.builtin "getset_descriptor.__get__",.builtin "object.__class__")) from T3.andThen .now).andThen (Looks.tag .now)))
 refine GF (GG ?_);refine GF (GG (GF (T0.at (GF (TF.at ?_)))));show wpAny _ _ (holding [Value.builtin "object.__class__"] (call (.builtin "getset_descriptor.__get__") [.builtin "object.__class__",.ref x,.ref D]) >>= ret) _ _ _;exact GF (wpAny_holding (wpAny_call (yw (s:=⟨h0,g,dr,t,os⟩) Y p k (GG h))))
theorem jk{nameV:Value}{Q:Unit->Shared->Prop}(Y:K.In s.heap)(p:S5 x D s.heap)(k:S4 K D)(h:Q () s):wpAny (model prog w) A (checkBuiltinCall "BaseException.__getattribute__" ⟨[.ref x,nameV],[]⟩) Q E s:=by
 let⟨h0,g,dr,t,os⟩:=s;have T0:=Jm (M:=model prog w) p;have T1:=looks_mroIn (M:=model prog w) Y k.be;have TI:Looks (model prog w) h0 (isInstance (.ref x) (.type "BaseException")) true:=T0.andThen T1;have b1:builtinKind "BaseException.__getattribute__" = some .slot:=by decide +kernel
 have b2:splitId "BaseException.__getattribute__" = some ("BaseException", "__getattribute__"):=by decide +kernel
 have ar:=F.args_bexc_ga (.ref x) nameV;simp only[checkBuiltinCall,b1,b2];refine GF (TI.at ?_);rw[GD (by decide)];exact wpAny_of_eq ar h
theorem jj{Q:Option Value->Shared->Prop}(Y:K.In s.heap)(p:S5 x D s.heap)(k:S4 K D)(h:Q (some (.ref D)) {s with toks:=s.toks+1}):wpAny (model prog w) A (getAttr? (.ref x) "__class__") Q E s:=by
 let⟨h0,g,dr,t,os⟩:=s;have T0:=Jm (M:=model prog w) p;have T1:=looks_findIn (M:=model prog w) Y k.ga;have T2:=looks_findIn (M:=model prog w) Y k.gt;unfold getAttr? getAttrBy? getAttrBy;refine GF (wpAny_mkText (GF (wpAny_attempt (wpAny_holding (GF (T0.at (GF (T1.at ?_))))))));show wpAny _ _ (getAttrByItsOwn _ _ _ _ _ _) _ _ _;unfold getAttrByItsOwn;refine GF (show wpAny _ _ (typeLookup (.ref D) "__getattr__") _ _ _ from T2.at ?_);refine GF (wpAny_attempt (wpAny_holding ?_));show wpAny _ _ (boundAndCalled (.builtin "BaseException.__getattribute__") (.ref x) (.str "__class__" t)) _ _ _;unfold boundAndCalled;rw[F.attr_ValueError.ga.bind (.ref x)];refine GF (GG (wpAny_call (codeAny_call_builtin F.attr_ValueError.ga.plain F.entry_bexc_ga (jk Y p k (ji Y p k ?_)))));exact GG (GG h)
theorem Nk(k:S4 K D):KitX K (.ref x) (.ref D) (S5 x D) where
 ty:=λ_ _ _ p=>Jm p
 it:=λM h Y _=>by
  let⟨cd,hc⟩:=Zws.mp k.is;unfold clsIn at hc;split at hc
  ·rename_i ho;exact λA' Q' E' s' kk q=>GF (wpAny_loadPart (kk _ _ (Y _ _ ho)) (GG q))
  ·cases hc
 ne:=λh tp dd its n sl Y htp=>by
  let⟨cd,hc⟩:=Zws.mp k.is;refine Zvm.mpr λq=>?_;obtain rfl:D=tp:=Value.ref.inj (beq_iff_eq.mp q);unfold clsIn at hc;split at hc
  ·rename_i ho;have z:=(Y _ _ ho).symm.trans htp;cases z
  ·cases hc
 ca:=λY p h=>jj Y p k h
end
def A1g(K:Frag):List V->Hp->VK->Prop:=λxs H Q=>∃(a D:Addr) (c:V) (b:Bool),xs=[.ref a,c]/\H a=some (bi a (.ref D))/\S4 K D /\
 ((∃C:Addr,c=.ref C/\kitOne K (.ref D) (.ref C)=some b)\/(∃T:String,c=.ty T/\kitOne K (.ref D) (.type T)=some b)\/∃(tp:Addr) (Cs:List Addr),c=.ref tp/\H tp=some (.tup (Cs.map V.ref))/\kitAny K (.ref D) (Cs.map Value.ref)=some b)/\Q (.bl b) H
theorem Tf:∀{Cs:List Addr} {us:List Value},AC (Cs.map V.ref) us->us=Cs.map Value.ref
 |[],_,.nil=>rfl
 |C::Cs,_,.cons r t=>by
  have e:_=Value.ref C:=r;rw[e,Tf t];rfl
theorem uh:AI X (.builtin "isinstance") (A1g X.K):=by
 intro pins s σ H xs us Q I r h;let⟨a,D,c,b,rfl,ha,k,hc,q⟩:=h;let⟨u,v,rfl,ru,rv⟩:=cz r;have ru:u=Value.ref a:=ru;subst ru;have p:S5 a D s.heap:=(I.hok a _ ha).1.1;have ne:(Value.ref a)≠.builtin "__main__.__loader__#opaque" := λz=>by cases z
 rcases hc with ⟨C,rfl,e⟩ | ⟨T,rfl,e⟩ | ⟨tp,Cs,rfl,ht,e⟩
 ·have rv:v=Value.ref C:=rv
  subst rv;exact kia_one (Nk k) I.kIn p e ne λtk=>⟨.bl b,H,I.tok tk,rfl,q⟩
 ·have rv:v=Value.type T:=rv
  subst rv;exact kia_one (Nk k) I.kIn p e ne λtk=>⟨.bl b,H,I.tok tk,rfl,q⟩
 ·have rv:v=Value.ref tp:=rv
  subst rv;let⟨its,rt,pt,_⟩:=I.tuple (SqT.of ht);have ei:=Tf rt;subst ei;let⟨⟨c2,dd,data,sl⟩,ho,hcl,n,hd⟩:=id (show s.heap.IsTuple tp (Cs.map Value.ref).toArray from pt);simp only at hcl hd;subst hcl hd;exact kia_tup (Nk k) I.kIn p ho e ne λtk=>⟨.bl b,H,I.tok tk,rfl,q⟩
theorem Cw:Ij X (λ_ _ _=>False):=λ_ _ _ _ _ _ _ h=>by
 let⟨_,_,_,_,_,_,_,_,_,_,z⟩:=h;exact z.elim
theorem E5{K0:Frag}(h:X.K=K0):AI X (.builtin "isinstance") (A1g K0):=by
 subst h;exact uh
theorem T9:bootBuiltins "ValueError" = some (.type "ValueError"):=by decide +kernel
def EU:List V->Hp->VK->Prop:=λxs H Q=>∃i:Int,xs=[.int i]/\i.natAbs<10^577/\Q (.str (Str.ofString (toString i))) H
theorem qt(h:n<10^577):n.log2<1920:=by
 by_cases z:n=0
 ·subst z;decide
 ·rw[Nat.log2_lt z];exact Zzb h (by decide +kernel)
theorem Nq:AI X (.type "str") EU:=by
 intro pins s σ H xs us Q I r h;let⟨i,rfl,hi,q⟩:=h;let⟨u,rfl,t,rfl⟩:=F9 r;exact P.str_of_int (qt hi) ⟨.str _,H,I.tok _,⟨_,rfl⟩,q⟩
def FU:List V->Hp->VK->Prop:=λxs H Q=>∃(x:Str) (n:Int),xs=[.str x]/\Zxq x=some n/\x.length<=640/\Q (.int n) H
theorem jw:AI X (.type "int") FU:=by
 intro pins s σ H xs us Q I r h;let⟨x,n,rfl,hn,hl,q⟩:=h;let⟨u,rfl,t,rfl⟩:=F9 r;exact KIN.call_text hn hl ⟨.int _,H,I.tok _,⟨_,rfl⟩,q⟩
open NP
def Kp(g h:Heap):Prop:=∀b o,g.get? b=some o->h.get? b=some o
section
variable {I S:Addr}{P:Nat->Value->Prop}{St:Nat->Heap->Prop}
end
theorem y4{dv:List (Key×Value)}(r:KV kvs dv):dv.map (·.1)=kvs.map (·.1):=by
 induction r with
 |nil=>rfl
 |cons r1 _ ih=>rw[Zzk,Zzk,ih,r1.1]
theorem X6:∀{ys:List V} {us:List Value},us.length=ys.length->(∀(j:Nat) (v:Value),us[j]?=some v->∃y,ys[j]?=some y/\AE y v)->AC ys us
 |[],[],_,_=>.nil
 |[],_::_,e,_=>by simp at e
 |_::_,[],e,_=>by simp at e
 |y::ys,u::us,e,h=>by
  let⟨y',e1,r⟩:=h 0 u rfl;have e1:y=y':=by simpa using e1
  subst e1;exact .cons r (X6 (by simpa using e) λj v hv=>h (j+1) v hv)
def FJ:List V->Hp->VK->Prop:=λxs H Q=>∃(d:Addr) (kvs:List (Key×V)),xs=[.ref d]/\Rd H d (.dK kvs)/\kvs.length<=1000/\∀l,H l=none->Q (.ref l) (upd H l (.lst (kvs.map λp=>kV p.1)))
theorem Rx(hc:X.calm=true):AI X (.type "list") FJ:=by
 intro pins s σ H xs us Q I r h;let⟨d,kvs,rfl,hd,hl,q⟩:=h;let⟨u,rfl,ru⟩:=F9 r;cases ru;let⟨zd,nd,dv,rel,hdd⟩:=Op I.hok hd;let⟨ep,hat⟩:=hdd.dictAt;have hlen:dv.length=kvs.length:=rel.length.symm;have hkk:=y4 rel;refine kdl_call (kdl_dict (knd:=B3 X.prog X.w) (kvs:=dv) (ep:=ep) nd) (I.ok.hd hc) hat (by rw[hlen];exact Am hl) λh' tk acc c hk hS hacc=>?_;have hn:H s.heap.objs.size=none:=I.hok.fresh (Zzu _);have hal:acc.toList.length=(kvs.map λp=>kV p.1).length:=by rw[Zy8,hacc.1,hlen,Zzz]
 have vals:AC (kvs.map λp=>kV p.1) acc.toList:=X6 hal λj v hv=>by
  let⟨k,x,hx,hkv⟩:=hacc.2 j v (by rw[<- Zwe];exact hv);have e1:=congrArg (λz=>z[j]?) hkk;simp only[Zzx,hx,Zx1] at e1;cases ex:kvs[j]? with
  |none=>rw[ex] at e1;cases e1
  |some y =>
   rw[ex] at e1;have e2:k=y.1:=Zzm e1;subst e2;exact⟨kV y.1,by rw[Zzx,ex];rfl,A0i hkv⟩
 refine⟨.ref s.heap.objs.size,_,I.laidF (t':=tk) (o:=.lst (kvs.map λp=>kV p.1)) (λb o eb=>hk b o eb) (λb o eb=>Zz0 (Zzo eb)) hn ⟨?_,acc.toList,c,vals,?_⟩,rfl,q _ hn⟩
 ·rw[Zzz];exact Am hl
 ·rw[Array.toArray_toList];exact hS
theorem Inv.thaw{o:Obj}(I:Inv X pins σ H s)(h:H a=some (.frz o (.dK kvs)))(h0:X.H₀ a=none):Inv X pins σ (upd H a (.dK kvs)) s:=by
 have ne:∀b,H b=none->b≠a:=λb e z=>by rw[z,h] at e;cases e
 have ne2:∀b u,X.H₀ b=some u->b≠a:=λb u e z=>by rw[z,h0] at e;cases e
 refine⟨I.ok,I.os,I.bare,⟨I.base.keep,I.base.slot,λb ob e n hx=>?_,I.base.there,λb xs e=>?_,λb ob u e=>?_,λb ps e=>?_⟩,I.loc,I.cell,?_,λx c e=>?_,λp hp=>?_,λb u e=>?_,I.len⟩
 ·have:=I.base.free b ob e n hx
  rw[A6 (ne b this)];exact this
 ·rw[A6 (ne2 b _ e)];exact I.base.tups b xs e
 ·rw[A6 (ne2 b _ e)];exact I.base.frzs b ob u e
 ·rw[A6 (ne2 b _ e)];exact I.base.tbls b ps e
 ·rw[A6 (ne _ I.free)];exact I.free
 ·rw[A6 (ne _ (I.freeC x c e))];exact I.freeC x c e
 ·let⟨p1,p2,p3⟩:=I.pin p hp;exact⟨p1,by rw[A6 (ne _ p2)];exact p2,p3⟩
 ·by_cases hb:b=a
  ·subst hb;rw[AA] at e;cases e;exact(I.hok b _ h).2
  ·rw[A6 hb] at e;have nq:∀c w,H c=some w->w≠.frz o (.dK kvs)->c≠a:=λc w q n z=>by rw[z,h] at q;exact n (Zzm q).symm
   refine(I.hok b u e).stay (λ_ _ _ q=>q) (λc q=>?_) λc ys q=>?_
   ·rw[A6 (nq c _ q (λz=>by cases z))];exact q
   ·rw[A6 (nq c _ q (λz=>by cases z))];exact q
def Thaw(H0 H H':Hp):Prop:=H'=H\/∃a o kvs,H0 a=none/\H a=some (.frz o (.dK kvs))/\H'=upd H a (.dK kvs)
def zx(H0:Hp)(t:TS):TS:=λD σ H=>t {D with nx:=λσ' H'=>∃H2,Thaw H0 H' H2/\D.nx σ' H2} σ H
theorem wg{st:Stmt}{t:TS}{H0:Hp}(e:X.H₀=H0)(h:PS X st t):PS X st (zx H0 t):=by
 subst e;intro pins s σ H D I q;refine wpAny_mono (h pins s σ H _ I q) (λf s' hs=>?_) λ_ _ z=>z;cases f with
 |next =>
  let⟨σ',H',I',H2,th,q2⟩:=hs;rcases th with e | ⟨a,o,kvs,h0,ha,e⟩
  ·subst e;exact⟨σ',_,I',q2⟩
  ·subst e;exact⟨σ',_,I'.thaw ha h0,q2⟩
 |ret u=>exact hs
 |brk=>exact hs
 |cont=>exact hs
def FV:V->V->Hp->VK->Prop:=λo i H Q=>∃(p:Addr) (kvs:List (Key×V)) (k:Key) (v:V),o=.ref p/\i=kV k/\H p=some (.dK kvs)/\C1 kvs k=some v/\Q v H
theorem Yu(hu:X.A.units+1<cLine):A2i X FV:=by
 intro pins s σ H o i ov iv Q I ro ri h;let⟨p,kvs,k,v,rfl,rfl,hp,hv,q⟩:=h;cases ro;have g:cu H p (kV k) (C1 kvs k):=.inl ⟨kvs,k,.inl hp,rfl,rfl⟩;rw[hv] at g;exact Uj hu I g ri λw' s' I' rw'=>⟨v,H,I',rw',q⟩
theorem yf{k:Key}(h:Rd H p (.dK kvs))(e:C1 kvs k=some v):Tc H (.ref p) (kV k) v:=.inr (.inr ⟨p,kvs,k,rfl,rfl,h,e⟩)
end L2
namespace NP
open PySem L2
def nk(j:Nat):Key:=Zwu (j:Int)
end NP
namespace L2
open PySem PySem.Spec PyProof.Rows PySem.W
end L2
namespace NP
open PySem L2
end NP
namespace L2
open PySem PySem.Spec PyProof.Rows
def FW:V->List V->Hp->VK->Prop:=λx vs H Q=>∃(sep:Str) (l:Addr) (xs:List Str) (B:Nat),x=.str sep/\vs=[.ref l]/\H l=some (.lst (xs.map V.str))/\(∀y∈xs,y.length<=B)/\xs.length*B+xs.length*sep.length<=16777216/\Q (.str (Str.join sep xs)) H
theorem Gd{sep:Str}{B:Nat}{xs:List Str}(h:∀y∈xs,y.length<=B):(Str.join sep xs).length<=xs.length*B+xs.length*sep.length:=by
 rw[<- Zva,size_glued];have h1:=StrLaws.sumLen_le xs h;have h2:(xs.length - 1)*sep.length<=xs.length*sep.length:=Nat.mul_le_mul_right _ (Nat.sub_le _ _);lia
theorem Pp:∀{xs:List Str} {us:List Value},AC (xs.map V.str) us->∃l:List (Str×Tok),strValues l=us/\l.map (·.1)=xs
 |[],_,.nil=>⟨[],rfl,rfl⟩
 |x::xs,u::us,.cons r t=>by
  let⟨l,h1,h2⟩:=Pp t;let⟨tk,rfl⟩:=r;exact⟨(x,tk)::l,by rw[<- h1];rfl,by rw[<- h2];rfl⟩
theorem Pc:MtM X "str.join" FW:=by
 intro pins s σ H x vs v us Q I rx hv h;let⟨sep,l,xs,B,rfl,rfl,hH,hB,hz,q⟩:=h;let⟨tk,rfl⟩:=rx;let⟨u,rfl,ru⟩:=hv.one;cases ru;let⟨z,its,n,r,hlx,e⟩:=I.lstM hH;let⟨ps,rfl,hps⟩:=Pp r;refine call_meets F.slot_str_join (typeIs_str s sep tk) F.entry_str_join (F.args_str_join_2 _ _) (meets_str_join_list sep tk l ps (by rw[hps];exact StrLaws.joinFits hB hz)) ⟨⟨_,e,rfl,n,rfl⟩,?_⟩;have fin:∀t,(EP X pins σ Q) (.str (Str.join sep xs) t) s:=λt=>⟨.str (Str.join sep xs),H,I,⟨t,rfl⟩,q⟩;have fin2:∀t t',(EP X pins σ Q) (.str (Str.join sep xs) t) {s with toks:=t'}:=λt t'=>⟨.str (Str.join sep xs),H,I.tok _,⟨t,rfl⟩,q⟩;have hjl:(Builtin.Str.glued sep xs).length<=sizeLine:=by
  rw[Zva,sizeLine_eq];exact Zzp (Gd hB) hz
 subst hps;match ps with
 |[]=>exact⟨hjl,fin2 _ _⟩
 |[p]=>exact fin p.2
 |p::p2::r2 =>
  have e2:=Zva sep ((p::p2::r2).map (·.1));have f3:=fin2 s.toks (s.toks+1);rw[<- e2] at f3;exact⟨hjl,f3⟩
section
variable {I:Addr}{G:Array GenState->Array GenState->Prop}{St:Nat->Shared->Prop}
end
open PySem.W NP
def A01(te:TE):TE:=λσ H Q=>te σ H λx H1=>∃(a:Addr) (kvs:List (Key×V)) (ns:List Int),x=.ref a/\H1 a=some (.dK kvs)/\kvs.map (·.2)=ns.map V.int/\ns≠[]/\Q (.int (Sk ns)) H1
theorem Zy{l:Expr}{p:Pos}(hc:X.calm=true)(hg:Gl X "max")(hm:X.mg "max" = none)(hl:PE X l te)(hbase:attributeBase l "values" X.env (eval l X.env)=eval l X.env:=by rfl)(hline:(apos.endLine == cpos.line)=true:=by rfl)
  (hn:Bw [.Call (.Attribute l "values" apos) [] [] cpos]=true:=by rfl) :
  PE X (.Call (.Name "max" p) [.Call (.Attribute l "values" apos) [] [] cpos] [] pos) (A01 te):=by
 intro pins s σ H Q I h;refine wpAny_Call_Name_kw (Gz I hg hm NP.Ws ?_ (by decide) (by decide));refine PyProof.Rows.callWith_builtin1 ?_ (B6 hn) (C7 (B2 hn).2);rw[B6 hn];show wpAny _ _ (spliced ((false,eval (.Call (.Attribute l "values" apos) [] [] cpos) X.env)::backTo pos (starEach [] X.env))) _ _ s;refine Zuv (wpAny_Call_method0_late hbase hline (thn (hl pins s σ H _ I h) λv s1 z0=>?_));let⟨x,H1,I1,r1,q1⟩:=z0;let⟨a,kvs,ns,e,ha,hk,hns,q⟩:=q1;subst e;cases r1;let⟨hz,hS,vs,rel,hdd⟩:=I1.hok a _ ha;let⟨ep,hat⟩:=hdd.dictAt;let⟨t1,t2,_⟩:=A23 I1 (.inl ⟨kvs,.inl ha⟩);refine⟨"dict", "dict.values",PySem.F.plainAttrs_dict,PySem.F.slot_dict_values,PySem.F.type_dict_values,t1,t2,Zvi rfl (PySem.evalArgs_none ?_)⟩;refine call_meetsIn PySem.F.slot_dict_values t1 PySem.F.entry_dict_values (PySem.F.args_dict_values_1 _) (meets_dict_values (B3 X.prog X.w) a hS) ⟨⟨vs,hat.dictOf⟩,?_⟩;have I3:Inv X pins σ H1 {s1 with heap:=s1.heap.push {cls:=.type "dict_values",data:=.fields #[.ref a]}}:=I1.kept (t':=s1.toks) λb o e=>Zzv _ e;refine Calls.spliced_nil ?_;have K:=PySem.W.kdl_values (prog:=X.prog) (w:=X.w) (knd:=B3 X.prog X.w) (r:=s1.heap.objs.size) (d:=a) (kvs:=vs) (ep:=ep);have hok:(s1.heap.push {cls:=.type "dict_values",data:=.fields #[.ref a]}).IsValuesView s1.heap.objs.size a/\(s1.heap.push {cls:=.type "dict_values",data:=.fields #[.ref a]}).DictAt (B3 X.prog X.w) a vs ep:=⟨⟨_,Zzj _ rfl,rfl,rfl⟩,hat.push _⟩;have hlv:vs.length=ns.length:=by
  have:=congrArg Zxn hk;rw[Zzz,Zzz] at this;rw[<- rel.length];exact this
 have hval:∀(i:Nat) (v:Value),(∃k,vs[i]?=some (k,v))->∃t,v=.int ((ns[i]?).getD 0) t:=λi v z0=>by
  let⟨k,e⟩:=z0;have hi:i<kvs.length:=by rw[rel.length];exact(Zzf.mp e).1
  let⟨u,hu,ru⟩:=A0h (k:=kvs[i].1) (v:=kvs[i].2) (i:=i) rel (by simp[hi]);rw[hu] at e;have e:=Zzm e;have eu:u=v:=congrArg Prod.snd e;subst eu;have e1:=congrArg (λz=>z[i]?) hk;simp only[Zzx,Zzl hi,Zx1] at e1;cases en:ns[i]? with
  |none=>rw[en] at e1;cases e1
  |some n =>
   rw[en] at e1;have e1:kvs[i].2=.int n:=Zzm e1;rw[e1] at ru;exact ru
 generalize hh3:s1.heap.push {cls:=.type "dict_values",data:=.fields #[.ref a]}=h3 at I3 hok;have hsz:∀b o,s1.heap.get? b=some o->h3.get? b=some o:=λb o e=>by rw[<- hh3];exact Zzv _ e
 let⟨oI,St,hit,W,st⟩:=K.iter X.A.in1 {s1 with heap:=h3} (I3.ok.hd hc) hok;have nm:(toString "max" ++ toString ".loop" : String) = "max.loop" := by decide
 refine call_function_tree F.kind_max F.plain_max F.entry_max (F.args_max1 _) ?_;refine GF (m:=Zx4 "max" ["key", "default"] 0 ⟨[],[]⟩) (wpAny_of_eq (show Zx4 "max" ["key", "default"] 0 ⟨[],[]⟩=pure [none,none] from rfl) (GF (GG (GF (hit _ _ (GF (wpAny_newObj_type ?_)))))));rw[nm];refine GG ⟨plainId_quiet F.plain_max_loop _,?_⟩;have sz:(h3.push oI).objs.size=h3.objs.size+1:=Zy0 ..;have hlt:=K.there h3 hok;have nS:(h3.push oI).objs.size∉[h3.objs.size,a]:=by
  rw[sz];simp only[Zzw,Zz2,or_false,not_or];exact⟨Zvd _,Zxe (Zxa hlt.2)⟩
 have gS:((h3.push oI).push {cls:=.type "list",data:=.seq #[]}).get? (h3.push oI).objs.size=some {cls:=.type "list",data:=.seq #[]}:=Zzj _ rfl;have st2:St 0 ((h3.push oI).push {cls:=.type "list",data:=.seq #[]}):=W.frame 0 _ _ st λb _ o e=>Zzv _ e;have hpos:0<vs.length:=by rw[hlv];exact Zv1.mpr hns
 refine R8 [] W (λi=>(ns[i]?).getD 0) hval _ nS hpos st2 gS λt' h' tk hk'=>?_;rw[hlv];refine⟨.int (Sk ns),H1,I3.kept λb o e=>hk' b o ?_ ?_ (Zzv _ (Zzv _ e)),⟨_,rfl⟩,q⟩
 ·simp only[Zzw,Zz2,or_false];exact Zz0 (Zzo e)
 ·rw[sz];exact Zz0 (Zxa (Zzo e))
theorem AM.z{k:Nat}(h:AM k A)(e:j<=k:=by decide):AM j A:=h.mono e
def zt(ta:TE):TT:=λσ H Q=>ta σ H λx H'=>∃a xs,x=.ref a/\H' a=some (.tup xs)/\Q (!xs.isEmpty) H'
theorem we{a:Expr}(ha:PE X a ta)(he:∀whole,isTrue a X.env whole=(do let v <- whole;standAt a.pos;holding [v] (truthy v)):=by intro _;rfl):PT X a (zt ta):=by
 intro pins s σ H Q I h;refine isTrue_plain (thn (ha pins s σ H _ I h) λv s1 ⟨x,H1,I1,r1,q1⟩=>?_) (he _);let⟨a,xs,e,hx,q⟩:=q1;exact Zh pins s1 σ H1 x v Q I1 r1 ⟨_,by subst e;exact .inr (.inl ⟨xs,SqT.of hx,rfl⟩),q⟩
def FX:R2:=λx y H Q=>∃l b xs zs,x=.ref l/\y=.ref b/\H l=some (.lst xs)/\H b=some (.lst zs)/\xs.length+zs.length<=sizeLine/\Q (.ref l) (upd H l (.lst (xs++zs)))
theorem rj:fillsInplaceSlot (.type "list") "add" (Operator.Add == .Add)=pure false:=by
 have e:typeLookup (.type "list") (dunderI "add")=pure (some (.builtin "list.__iadd__")):=Zvg.lookup;unfold fillsInplaceSlot;show (typeLookup (.type "list") (dunderI "add") >>= λx=>pure (x.isSome&&!isSeqSlot x))=pure false;rw[e];show (pure ((some (Value.builtin "list.__iadd__")).isSome&&!isSeqSlot (some (Value.builtin "list.__iadd__"))):Sem Bool)=pure false;rw[show isSeqSlot (some (Value.builtin "list.__iadd__"))=true by decide +kernel];rfl
theorem yk:seqSlot? (.type "list") (dunderI "add")=pure (some (.builtin "list.__iadd__")):=PySem.seqSlot_of Zvg.lookup (by decide +kernel)
theorem Rk:PIp X .Add FX:=by
 intro pins s σ H x y v u Q I rx ry h;let⟨l,b,xs,zs,rfl,rfl,hH,hB,hz,q⟩:=h;cases rx;cases ry;let⟨z,its,n,r,hl,e⟩:=I.lstM hH;let⟨z2,its2,n2,r2,hl2,e2⟩:=I.lstM hB;have hsz:its.toArray.size+its2.toArray.size<=sizeLine:=by rw[Zzr,Zzr];lia
 have hlong:¬ (!its.toArray.isEmpty&&Zxd (its.toArray.size+its2.toArray.size))=true:=by
  rw[Qz hsz];simp
 unfold inplaceOp;refine wpAny_holding (GF (wpAny_typeOf (T := "list") ⟨_,e,rfl⟩ (GF (wpAny_of_eq rj ?_))));show wpAny _ X.A (if false=true then _ else _) _ _ s;rw[GD (λz:false=true=>Bool.noConfusion z)];refine GF (wpAny_binaryOp1_none (nm := "add") (T := "list") ⟨_,e,rfl⟩ ⟨_,e2,rfl⟩ noFill_list_add (GF (wpAny_of_eq yk (GF (wpAny_rule ?_)))));refine call_meets Zvg ⟨_,e,rfl⟩ PySem.F.entry_list_iadd (PySem.F.args_list_iadd_2 _ _) (AutoSeq1.list___iadd___list_list_0 l its.toArray n b its2.toArray n2 hlong (by rw[Zzr];lia) (by lia)) ⟨e,e2,?_⟩;refine⟨.ref l,_,I.lset (its':=its++its2) hH e (by simp) (r.append r2) ?_,rfl,q⟩;rw[Zz8];lia
open Builtin Builtin.Str
def one(c:Nat):Str:=⟨#[c]⟩
theorem Vy(x:Str)(c lim:Nat):∀(l:List Nat) (st:Array Nat×Nat),(∀i∈l,st.2<=i)->l.Pairwise (·<·)->st.1.size+l.length<=lim ->
  (forIn l st (StrLaws.occBody x (one c) x.length lim)).run.1.toList=st.1.toList++l.filter λi=>decide (x.cps.toList[i]?=some c)
 |[],st,_,_,_=>by simp
 |a::r,st,h1,h2,h3=>by
  rw[Zv8];unfold StrLaws.occBody;have hr:=List.pairwise_cons.mp h2;rw[Zyz] at h3;have iff:=StrLaws.subAt_one x c a;by_cases hc:x.cps.toList[a]?=some c
  ·let⟨g1,g2⟩:=iff.mpr hc;rw[GE ⟨⟨⟨by lia,h1 a Zzq⟩,g1⟩,g2⟩,Zxk,GE (GB hc)];have:=Vy x c lim r (st.1.push a,a+(one c).length) (λi hi=>hr.1 i hi) hr.2 (by simp;lia);refine this.trans ?_;simp
  ·rw[GD (λz=>hc (iff.mp ⟨z.1.2,z.2⟩)),Zxk,GD (by simpa using hc)];exact Vy x c lim r st (λi hi=>h1 i (Zzs _ hi)) hr.2 (by lia)
theorem pi(x:Str)(c:Nat):occurrences x (one c) 0 x.length (x.length+1)=(List.range' 0 (x.length+1)).filter λi=>decide (x.cps.toList[i]?=some c):=by
 rw[StrLaws.occ_eq];have:=Vy x c (x.length+1) (List.range' 0 (x.length+1 - 0)) (#[],0) (λ_ _=>Zyl _) List.pairwise_lt_range' (by simp);rw[this];rfl
theorem Xs(x:Str)(c:Nat):∀(cuts:List Nat) (a:Nat),(∀i,a<=i->x.cps.toList[i]?=some c->i∈cuts)->(∀i∈cuts,a<=i)->cuts.Pairwise (·<·)->∀p∈StrLaws.partsFrom x 1 a cuts,c∉p.cps.toList
 |[],a,h,_,_,p,hp=>by
  have hp:p∈[strSub x a x.length]:=hp;rw[Zzh.mp hp,StrLaws.strSub_toList];intro z;let⟨i,hi⟩:=Zw7 (List.mem_of_mem_take z);rw[Zut] at hi;cases h (a+i) (by lia) hi
 |k::r,a,h,h0,hs,p,hp=>by
  have hp:p∈strSub x a k::StrLaws.partsFrom x 1 (k+1) r:=hp;have hr:=List.pairwise_cons.mp hs;rcases Zzw.mp hp with rfl | hp
  ·rw[StrLaws.strSub_toList];intro z;let⟨i,hi⟩:=Zw7 z;have hl:=(Zzf.mp hi).1;rw[Zyy] at hl;rw[Zvy (by lia),Zut] at hi;rcases Zzw.mp (h (a+i) (by lia) hi) with e | e
   ·lia
   ·have:=hr.1 _ e
    lia
  ·have hk:=h0 k Zzq
   refine Xs x c r (k+1) (λi hi he=>?_) (λi hi=>hr.1 i hi) hr.2 p hp;rcases Zzw.mp (h i (by lia) he) with e | e
   ·lia
   ·exact e
theorem m9(x:Str)(c:Nat)(hc:c<256):∀p∈Txt.split x (one c),c∉p.cps.toList:=λp hp=>by
 have hs:(List.range' 0 (x.length+1)).Pairwise (·<·):=List.pairwise_lt_range';have all:∀i,x.cps.toList[i]?=some c->i∈occurrences x (one c) 0 x.length (x.length+1):=λi hi=>by
  rw[pi];have:=(Zzf.mp hi).1;have hl:x.cps.toList.length=x.length:=by show x.cps.toList.length=x.cps.size;simp
  refine Zwk.mpr ⟨?_,GB hi⟩;rw[List.mem_range'];exact⟨i,by lia,by lia⟩
 unfold Txt.split at hp;split at hp
 ·rename_i h1;rw[Zzh.mp hp];have l1:(one c).length=1:=rfl;have k1:Zx7 (one c)=1:=by
   unfold Zx7 one;rw[GE (by simpa using hc)]
  have k2:1<=Zx7 x:=by unfold Zx7;split<;>(try split)<;>decide
  have:x.length=0:=by
   rcases Bool.or_eq_true_iff.mp h1 with z | z
   ·have:=GA z;lia
   ·have:=GA z;lia
  intro z;have hl:x.cps.toList.length=0:=by rw[<- this];show x.cps.toList.length=x.cps.size;simp
  rw[List.eq_nil_of_length_eq_zero hl] at z;cases z
 ·split at hp
  ·rename_i h2;rw[Zzh.mp hp];intro z;let⟨i,hi⟩:=Zw7 z;have:=all i hi;rw[List.isEmpty_iff.mp h2] at this;cases this
  ·rw[StrLaws.partsBetween_eq] at hp;refine Xs x c _ 0 (λi _ hi=>all i hi) (λ_ _=>Zyl _) ?_ p hp;rw[pi];exact hs.filter _
theorem Uk{c:Nat}:∀{w w' X X':List Nat},c∉w->c∉w'->w++c::X=w'++c::X'->w=w'/\X=X'
 |[],[],X,X',_,_,h=>by simpa using h
 |[],b::w',X,X',_,h2,h=>by
  have:c=b:=by simpa using (Zy7 h).1
  exact absurd (by rw[this];exact Zzq) h2
 |a::w,[],X,X',h1,_,h=>by
  have:a=c:=by simpa using (Zy7 h).1
  exact absurd (by rw[this];exact Zzq) h1
 |a::w,b::w',X,X',h1,h2,h=>by
  have h:=Zy7 h;let⟨e1,e2⟩:=Uk (λz=>h1 (Zzs _ z)) (λz=>h2 (Zzs _ z)) h.2;exact⟨by rw[h.1,e1],e2⟩
theorem Jk(c:Nat)(w v:Str)(r:List Str):(Str.join (one c) (w::v::r)).cps.toList=w.cps.toList++c::(Str.join (one c) (v::r)).cps.toList:=by
 show (w++one c++Str.join (one c) (v::r)).cps.toList=_;rw[Str.cps_append,Str.cps_append];simp[one]
theorem Uy{a b:Str}(h:a.cps.toList=b.cps.toList):a=b:=Str.ext' (Array.toList_inj.mp h)
theorem Yl{c:Nat}:∀{ws us:List Str},ws≠[]->us≠[]->(∀w∈ws,c∉w.cps.toList)->(∀w∈us,c∉w.cps.toList)->Str.join (one c) ws=Str.join (one c) us->ws=us
 |[],_,h,_,_,_,_=>absurd rfl h
 |_::_,[],_,h,_,_,_=>absurd rfl h
 |[w],[u],_,_,_,_,h=>by rw[show w=u from h]
 |[w],u::u2::r,_,_,h1,_,h=>by
  have e:=congrArg (λz:Str=>z.cps.toList) h;have e:w.cps.toList=(Str.join (one c) (u::u2::r)).cps.toList:=e;rw[Jk] at e;exact absurd (by rw[e];simp) (h1 w Zzq)
 |w::w2::r,[u],_,_,_,h2,h=>by
  have e:=congrArg (λz:Str=>z.cps.toList) h;have e:(Str.join (one c) (w::w2::r)).cps.toList=u.cps.toList:=e;rw[Jk] at e;exact absurd (by rw[<- e];simp) (h2 u Zzq)
 |w::w2::r,u::u2::r2,_,_,h1,h2,h=>by
  have e:=congrArg (λz:Str=>z.cps.toList) h;have e:(Str.join (one c) (w::w2::r)).cps.toList=(Str.join (one c) (u::u2::r2)).cps.toList:=e;rw[Jk,Jk] at e;let⟨e1,e2⟩:=Uk (h1 w Zzq) (h2 u Zzq) e;have:=Yl (ws:=w2::r) (us:=u2::r2) (by simp) (by simp) (λx hx=>h1 x (Zzs _ hx)) (λx hx=>h2 x (Zzs _ hx)) (Uy e2);rw[Uy e1,this]
theorem En{c:Nat}(hc:c<256)(h:ws≠[])(hn:∀w∈ws,c∉w.cps.toList):Txt.split (Str.join (one c) ws) (one c)=ws:=by
 refine Yl (c:=c) (λz=>?_) h (m9 _ _ hc) hn (StrLaws.join_split _ _);have:=split_pos (Str.join (one c) ws) (one c);rw[z] at this;exact absurd this (by decide)
def FK:V->List V->Hp->VK->Prop:=λx vs H Q=>∃(y:Str) (c:Nat),x=.str y/\vs=[.str (one c)]/\y.length<=1000000/\∀p,H p=none->Q (.ref p) (upd H p (.lst ((Txt.split y (one c)).map V.str)))
theorem Th:∀(l:List Str) (k:Nat),AC (l.map V.str) (strsFrom k l)
 |[],_=>.nil
 |x::r,k=>.cons ⟨_,rfl⟩ (Th r (k+1))
theorem R7:MtM X "str.split" FK:=by
 intro pins s σ H x vs v us Q I rx rv h;let⟨y,c,rfl,rfl,hy,q⟩:=h;let⟨t,rfl⟩:=rx;let⟨u,rfl,ru⟩:=rv.one;let⟨t2,rfl⟩:=ru;have hz:y.length<=sizeLine:=Zzp hy (by decide);have hf:H s.heap.objs.size=none:=I.hok.fresh (Zzu _);have hl:=split_le y (one c);have hl2:(1000002:Nat)<=sizeLine:=by decide
 have fin:∀(its:List Value) (t':Nat),AC ((Txt.split y (one c)).map V.str) its->(EP X pins σ Q) (.ref s.heap.objs.size) {s with heap:=s.heap.push {cls:=.type "list",data:=.seq its.toArray},toks:=t'}:=λits t' r=>⟨.ref s.heap.objs.size,_,I.laid (t':=t') (λb o e=>Zzv _ e) (Zzu _) (show AG X.prog X.w _ _ _ (.lst ((Txt.split y (one c)).map V.str)) from ⟨by rw[Zzz];lia,its,0,r,Zzj _ rfl⟩),rfl,q _ hf⟩;have one1:Txt.split y (one c)=[y]->AC ((Txt.split y (one c)).map V.str) [Value.str y t]:=λe=>by rw[e];exact .cons ⟨_,rfl⟩ .nil
 cases h1:(decide (y.length<(one c).length)||decide (Zx7 y<Zx7 (one c))) with
 |true =>
  have e:Txt.split y (one c)=[y]:=by unfold Txt.split;exact GE h1
  exact call_meets F.slot_str_split (typeIs_str s y t) F.entry_str_split (F.args_str_split_2 _ _) (meets_str_split_cannot_occur y (one c) t t2 h1) (fin _ s.toks (one1 e))
 |false =>
  cases h2:(occurrences y (one c) 0 y.length (y.length+1)).isEmpty with
  |true =>
   have e:Txt.split y (one c)=[y]:=by unfold Txt.split;rw[GD (by rw[h1];decide)];exact GE h2
   exact call_meets F.slot_str_split (typeIs_str s y t) F.entry_str_split (F.args_str_split_2 _ _) (meets_str_split_not_found y (one c) t t2 h1 rfl h2) (fin _ s.toks (one1 e))
  |false =>
   have e:Txt.split y (one c)=partsBetween y (occurrences y (one c) 0 y.length (y.length+1)) (one c).length:=by unfold Txt.split;rw[GD (by rw[h1];decide)];exact GD (by rw[h2];decide)
   have r:=Th (Txt.split y (one c)) s.toks;rw[e] at r;refine call_meets F.slot_str_split (typeIs_str s y t) F.entry_str_split (F.args_str_split_2 _ _) (meets_str_split_sep y (one c) t t2 h1 rfl h2 hz (by rw[<- e];lia)) ?_;exact fin _ _ (by rw[e];exact r)
def zr(p:Params)(l:List (Str×Tok×Addr)):Array DictEntry:=(l.map λe=>{hash:=PyData.keyHash p e.1,key:=.str e.1 e.2.1,val:=.ref e.2.2}).toArray
def DQ(w:World)(K:Zzy)(a:Addr)(l:List (Str×Tok×Addr)):Prop:=(∃ep,K.lookup a=some {cls:=.type "dict",data:=.dict (zr w.params l) ep})/\(l.map (·.1)).Nodup/\(a == sysModules)=false
def Kb(l:List (Str×Tok×Addr)):List (Key×Value):=l.map λe=>(Zyd e.1,Value.ref e.2.2)
def Ey(l:List (Str×Tok×Addr))(x:Str):V:=match l.find? (λe=>decide (e.1=x)) with
 |some e=>.ref e.2.2
 |none=>.non
theorem Tn:∀l:List (Str×Tok×Addr),Pairs (B3 P w) (l.map λe=>{hash:=PyData.keyHash w.params e.1,key:=.str e.1 e.2.1,val:=.ref e.2.2}) (Kb l)
 |[]=>.nil
 |e::r=>.cons (Fd P w e.1 e.2.1) rfl (Tn r)
theorem DQ.dict(T:DQ w K a l)(X:K.In h):h.DictOf (B3 P w) a (Kb l):=by
 let⟨⟨ep,lk⟩,nd,_⟩:=T;refine⟨_,_,ep,X a _ lk,⟨rfl,rfl,rfl⟩,rfl,λe he=>?_,?_,?_⟩
 ·unfold zr at he;have he:e∈(l.map λe=>({hash:=PyData.keyHash w.params e.1,key:=.str e.1 e.2.1,val:=.ref e.2.2}:DictEntry)):=by simpa using he
  let⟨q,hq,rfl⟩:=Zzt.mp he;exact⟨.inr q.1,Fd P w q.1 q.2.1,rfl⟩
 ·exact Tn l
 ·unfold Kb;rw[Zyq];have:(Zy6 ((λx=>x.1)∘λe:Str×Tok×Addr=>((Zyd e.1:Key),Value.ref e.2.2)) l)=(l.map (·.1)).map Zyd:=by rw[Zyq];rfl
  rw[this];exact nd.map _ λx y n e=>n (Zwh e)
theorem d9(l:List (Str×Tok×Addr))(x:Str):AE (Ey l x) ((valueAt (Kb l) (.inr x)).getD .none):=by
 unfold Ey valueAt Kb;rw[List.find?_map];have:(λkv:Key×Value=>decide (kv.1=(Zyd x:Key)))∘(λe:Str×Tok×Addr=>((Zyd e.1:Key),Value.ref e.2.2))=λe=>decide (e.1=x):=by
  funext e;simp
 rw[this];cases l.find? (λe=>decide (e.1=x)) with
 |none=>rfl
 |some e=>rfl
def A02(l:List (Str×Tok×Addr))(ty:TE):TE:=λσ H Q=>ty σ H λy H1=>∃x,y=.str x/\Q (Ey l x) H1
theorem ee{o:Expr}{ty:TE}(T:DQ X.w X.K a l)(ho:PE X o (λ_ H Q=>Q (.ref a) H))(he:PE X e ty)(m:M1 X o "get" apos e cpos):PE X (.Call (.Attribute o "get" apos) [e] [] cpos) (A02 l ty):=by
 intro pins s σ H Q I h;refine wpAny_Call_method m.base m.few m.line PySem.F.plainAttrs_dict PySem.F.slot_dict_get PySem.F.type_dict_get (thn (ho pins s σ H (λx H1=>x=.ref a/\H1=H) I ⟨rfl,rfl⟩) λu s1 z0=>?_);let⟨x,H1,I1,rx,ex,eH⟩:=z0;subst ex eH;obtain rfl:u=Value.ref a:=rx;have d1:s1.heap.DictOf (B3 X.prog X.w) a (Kb l):=T.dict I1.kIn;refine⟨d1.typeIs,λb q=>?_,?_⟩
 ·cases q;let⟨ob,_,_,e1,e2,_⟩:=d1;exact⟨ob,e1,e2.2.1⟩
 rw[m.trees];refine Zvi rfl (Zv7 (Zuv (thn (he pins s1 σ H1 _ I1 h) λiv s2 ⟨y,H2,I2,ry,x,ey,q2⟩=>Calls.spliced_nil ?_)));subst ey;have d2:s2.heap.DictOf (B3 X.prog X.w) a (Kb l):=T.dict I2.kIn;let⟨t,rfl⟩:=ry;exact call_meetsIn PySem.F.slot_dict_get d2.typeIs PySem.F.entry_dict_get (PySem.F.args_dict_get_2 _ _) (meets_dict_get (B3 X.prog X.w) a (Fd X.prog X.w x t) T.2.2) ⟨_,d2.mapOf,⟨_,H2,I2.tok _,d9 l x,q2⟩⟩
def ES(K:Zzy)(a:Addr)(l:List (Str×Tok)):Prop:=∃n,K.lookup a=some {cls:=.type "tuple",data:=.seq (l.map λe=>Value.str e.1 e.2).toArray n}
theorem ES.sq{l:List (Str×Tok)}(T:ES K a l)(hl:l.length<=1000)(H:Hp):SqT K H a ((l.map (·.1)).map V.str):=by
 let⟨n,lk⟩:=T;refine .inr ⟨_,_,n,lk,rfl,rfl,by rw[Zzr,Zzz];exact Zzp hl (by decide),?_⟩;have:∀l:List (Str×Tok),AC ((l.map (·.1)).map V.str) (l.map λe=>Value.str e.1 e.2):=λl=>by
  induction l with
  |nil=>exact .nil
  |cons e r ih=>exact .cons ⟨_,rfl⟩ ih
 exact this l
def EV:List V->Hp->VK->Prop:=λxs H Q=>∃x:Str,xs=[.str x]/\Q (.str x) H
theorem jr:AI X (.type "str") EV:=by
 intro pins s σ H xs us Q I r h;let⟨x,rfl,q⟩:=h;let⟨u,rfl,t,rfl⟩:=F9 r;exact P.str_of_str ⟨.str x,H,I,⟨_,rfl⟩,q⟩
def FY:List V->Hp->VK->Prop:=λxs H Q=>EU xs H Q\/EV xs H Q
theorem Uo:AI X (.type "str") FY:=by
 intro pins s σ H xs us Q I r h;rcases h with h | h
 ·exact Nq pins s σ H xs us Q I r h
 ·exact jr pins s σ H xs us Q I r h
def A2p(P:Program)(w:World)(K:Zzy)(mg:Str->Option Value)(base:Heap)(f:Addr)(k:Nat)(ps:List Str)(sp:Sp):Prop:=∃fd,BF K fd ps []/\Aq P w K mg base CX0 k f fd ps sp
section
variable {k:Nat}{m:Str}{p:Pos}{o:Expr}
theorem A1p(h:A2p X.prog X.w X.K X.mg X.base f k ps sp)(M:Mk X.K C f)(hr:AM (k+1) X.A)(hg:Gl X x)(hm:X.mg x=some (.ref C))(hdb:(x == ("__debug__" : Str))=false:=by decide):PE X (.Call (.Name x p) [] [] pos) (lq C sp [] E0 ER):=by
 let⟨fd,hb,F⟩:=h;exact o0 M F hr hg hm hb .nil A0d hdb
end
def A1f(a:Addr)(l:List (Str×Tok×Addr)):R2:=λx y H Q=>x=.ref a/\∃k fa,y=.str k/\Ey l k=.ref fa/\Q (.ref fa) H
theorem A21(T:DQ X.w X.K a l):IxR X (A1f a l):=by
 intro value slice pins s σ H x y v u Q I rx ry h hs;let⟨rfl,k,fa,rfl,hl,q⟩:=h;cases rx;let⟨t,rfl⟩:=ry;have d:s.heap.DictOf (B3 X.prog X.w) a (Kb l):=T.dict I.kIn;have hv:valueAt (Kb l) (.inr k)=some (.ref fa):=by
  have r:=d9 l k;rw[hl] at r;cases e:valueAt (Kb l) (.inr k) with
  |none=>rw[e] at r;cases r
  |some z=>rw[e] at r;exact congrArg some r
 exact tail_any d.typeIs PySem.F.slot_dict_getitem.lookup (wpAny_getItem_of (Fd X.prog X.w k t) d.mapOf hv ⟨.ref fa,H,I.tok _,rfl,q⟩) hs
theorem A1n{o b:Expr}{tb:TE}(T:DQ X.w X.K a l)(ho:PE X o (λ_ H Q=>Q (.ref a) H))(hb:PE X b tb)(hs:Pn b):PE X (.Subscript o b pos) (tOp (A1f a l) (λ_ H Q=>Q (.ref a) H) tb):=ef (A21 T) ho hb hs
def FB:V->List V->Hp->VK->Prop:=λx vs H Q=>∃y z,x=.str y/\vs=[.str z]/\Q (.bl (Txt.startswith y z)) H
theorem iz:MtM X "str.startswith" FB:=by
 intro pins s σ H x vs v us Q I rx rv h;let⟨y,z,rfl,rfl,q⟩:=h;let⟨t,rfl⟩:=rx;let⟨u,rfl,ru⟩:=rv.one;let⟨t2,rfl⟩:=ru;exact SC.startswith ⟨.bl _,H,I,rfl,q⟩
abbrev TFx:=Str->St->Hp->VK->Prop
def PFx(X:Cx)(es:List Expr)(t:TFx):Prop:=∀(pins:List (Addr×Obj)) (s:Shared) (σ:St) (H:Hp) (acc:Str) (Q:VK),Inv X pins σ H s->t acc σ H Q->wpAny (model X.prog X.w) X.A (joinParts acc (evalEach es X.env)) (EP X pins σ Q) X.xe s
def FZ:TFx:=λacc _ H Q=>acc.length<=1000000/\Q (.str acc) H
def A04(x:Str)(t:TFx):TFx:=λacc σ H Q=>(acc++x).length<=1000000/\t (acc++x) σ H Q
def A03(te:TE)(t:TFx):TFx:=λacc σ H Q=>te σ H λv H1=>∃i:Int,v=.int i/\i.natAbs<10^577/\(acc++Str.ofString (toString i)).length<=1000000/\t (acc++Str.ofString (toString i)) σ H1 Q
section
variable {t:TFx}{p q:Pos}
theorem Pa:PFx X [] FZ:=λpins s σ H acc Q I h=>joinParts_nil ⟨.str acc,H,I.tok _,⟨_,rfl⟩,h.2⟩ (F0 h.1)
theorem Lp(ht:PFx X es t):PFx X (.Constant (.str x) j p::es) (A04 x t):=λpins s σ H acc Q I h=>joinParts_cons (Zuw ⟨F0 h.1,ht pins _ σ H (acc++x) Q (I.tok _) h.2⟩)
theorem Lo(he:PE X e te)(ht:PFx X es t):PFx X (.FormattedValue e (-1) none p::es) (A03 te t):=λpins s σ H acc Q I h=>by
 refine joinParts_cons (FormattedValue_plain (thn (he pins s σ H _ I h) λu s1 z0=>?_));let⟨v,H1,I1,r,i,hv,hi,hl,hq⟩:=z0;subst hv;let⟨tk,rfl⟩:=r;exact formatField_int_small (qt hi) ⟨F0 hl,ht pins _ σ H1 _ Q (I1.tok _) hq⟩
theorem Vc(h:PFx X (e::e2::es) t):PE X (.JoinedStr (e::e2::es) p) (λσ H Q=>t Str.empty σ H Q):=λpins s σ H Q I hq=>JoinedStr_many (h pins s σ H Str.empty Q I hq)
end
theorem cx_K{E:XK}:(No CX P w K mg base N q sc f cd A outer s H E).K=K:=rfl
theorem xm{x:Value}{env':Env}(h:env'.frame=env.frame):noteFrame x env'=noteFrame x env:=by
 unfold noteFrame PySem.frameOf;rw[h]
theorem yr{l:List Env}{e:Addr}{a0 fl:Value}{fr:Option Addr}{Q:Unit->Shared->Prop}(kb:B.StaysIn s.heap)(kf:s.heap.FunFrames B l)(tr:s.heap.TracedAtW B e cls a0 fl)
  (hq:∀h',B.StaysIn h'->h'.FunFrames B l->h'.TracedAtW B e cls a0 (fr.elim Value.none λf=>rawInt f)->s.heap.UpToSlots h'->Q () {s with heap:=h'}):wpAny M A (setFlight (.ref e) fr) Q E s:=by
 let⟨oe,vs,T,oT,ts,q1,q2,q3,q4,q5,q6,q7,q8,q9⟩:=tr;have z3:=(Zw5.mp q9).1;have ot:∀b,b≠T->(s.heap.update T (Obj.mapFields (·.setIfInBounds 3 (fr.elim Value.none λf=>rawInt f)))).get? b=s.heap.get? b:=λb n=>Zyo _ _ (Zza n);have nr:∀b o,s.heap.get? b=some o->(∀us,o.data≠.fields us)->b≠T:=λb o g n z=>by
  rw[z,q7] at g;cases g;exact n ts q8
 unfold setFlight;refine GF (wpAny_field q1 q3 q4 ?_);rw[GE (by simp:(Value.ref T != Value.none)=true)];have md:=Obj.data_mapFields q8 (·.setIfInBounds 3 (fr.elim Value.none λf=>rawInt f));refine wpAny_setField q7 q8 z3 (hq _ (λb o g=>?_) (kf.of_keeps λb o g n=>⟨o,(ot b (nr b o g n)).trans g,rfl⟩) ?_ λb o g n=>⟨o.slots,(ot b (nr b o g n)).trans g⟩)
 ·exact(ot b λz=>by rw[z,q5] at g;cases g).trans (kb b o g)
 ·exact⟨oe,vs,T,_,_,(ot e (Zza q6)).trans q1,q2,q3,q4,q5,q6,Zxv _ q7 (Obj.isFreed_of_fields md),md,by simp[z3]⟩
theorem jg{e:Addr}{a0 fl:Value}{Q:Unit->Shared->Prop}(fr:A.frames=some (env::outer))(hf:env.frame=some L)(kb:B.StaysIn s.heap)(be:B.get? e=none)(kf:s.heap.FunFrames B (env::outer))(tr:s.heap.TracedAtW B e cls a0 fl)
  (hq:∀h',Zwp B outer e cls a0 h'->s.heap.UpToSlots h'->Q () {s with heap:=h'}):wpAny M A (leaving env (.ref e)) Q E s:=by
 have AO:∀s1:Shared,Heap.HeldW B (env::outer) e cls a0 L s1.heap->s.heap.UpToSlots s1.heap->(∀h',{s1 with heap:=h'}={s with heap:=h'})->wpAny M A (setFlight (.ref e) none) Q E s1:=λs1 hh up eq=>by
  refine wpAny_landsW hh λh' f u=>?_;rw[eq];let⟨k1,k2,⟨_,_,k3⟩,k4⟩:=f;exact hq h' ⟨k1,k2,k3,k4⟩ (up.trans u)
 unfold leaving;by_cases c:(fl == rawInt L)=true
 ·rw[eq_of_beq c] at tr;exact GF (wpAny_noteFrame_againW hf tr (AO s ⟨kb,be,kf,tr⟩ (Heap.UpToSlots.refl _) λ_=>rfl))
 ·let⟨oe,vs,T,oT,ts,q1,⟨q2,q0⟩,q3,q4,q5,q6,q7,q8,q9⟩:=tr;subst q2;have ot:∀b,b≠T->(s.heap.update T (Obj.mapFields (·.setIfInBounds 3 Value.none))).get? b=s.heap.get? b:=λb n=>Zyo _ _ (Zza n);have nr:∀b o,s.heap.get? b=some o->(∀us,o.data≠.fields us)->b≠T:=λb o g n z=>by
   rw[z,q7] at g;cases g;exact n ts q8
  refine GF ?_;unfold noteFrame;simp only[hf];refine GF (wpAny_field q1 q3 q4 ?_);rw[GE (by simp:(Value.ref T != Value.none)=true)];refine GF (wpAny_field q7 q8 q9 ?_);rw[GD c];refine GF (wpAny_setField q7 q8 (Zw5.mp q9).1 ?_);refine wpAny_entryW fr (kf.of_keeps λb o g n=>⟨o,(ot b (nr b o g n)).trans g,rfl⟩) hf ((ot e (Zza q6)).trans q1) (λb o g=>?_) be q3 (Zw5.mp q4).1 q0 λh' ⟨x1,x2,x3,x4⟩=>?_
  ·exact(ot b λz=>by rw[z,q5] at g;cases g).trans (kb b o g)
  ·exact AO _ ⟨x1,be,x2,x3⟩ (λb o g n=>x4 b o ((ot b (nr b o g n)).trans g) n) λ_=>rfl
section
variable {e:Addr}{a0 fl:Value}
theorem Mb{o:Obj}(g:(hideAll B [C]).get? b=some o):b≠C/\B.get? b=some o:=⟨(λz=>by rw[z,hideAll_none [C] (by simp)] at g;cases g),of_hideAll _ g⟩
theorem On(sb:Zxs C h h'):∀{l:List Env},C∉frs l->h.FunFrames B l->h'.FunFrames (hideAll B [C]) l
 |[],_,_=>trivial
 |env::r,n,⟨hk,⟨L,o,hf,hn,ho,hd⟩,hr⟩=>by
  have e:frs (env::r)=L::frs r:=by
   unfold frs;rw[Zwo,hf]
  rw[e] at n;have n1:L≠C:=λz=>n (by rw[z];exact Zzq);refine⟨hk,⟨L,o,hf,?_,(sb.2 L n1).trans ho,hd⟩,On sb (λz=>n (Zzs _ z)) hr⟩;cases g:(hideAll B [C]).get? L with
  |none=>rfl
  |some o'=>rw[(Mb g).2] at hn;cases hn
theorem Ys(sb:Zxs C h h')(n:∀o,h.get? C=some o->∀us,o.data≠.fields us)(t:h.TracedAtW B e cls a0 fl):h'.TracedAtW (hideAll B [C]) e cls a0 fl:=by
 let⟨oe,vs,T,oT,ts,q1,q2,q3,q4,q5,q6,q7,q8,q9⟩:=t;have ne:e≠C:=λz=>n oe (by rw[<- z];exact q1) vs q3;have nT:T≠C:=λz=>n oT (by rw[<- z];exact q7) ts q8;refine⟨oe,vs,T,oT,ts,(sb.2 e ne).trans q1,q2,q3,q4,?_,q6,(sb.2 T nT).trans q7,q8,q9⟩;cases g:(hideAll B [C]).get? T with
 |none=>rfl
 |some o=>rw[(Mb g).2] at q5;cases q5
theorem Fl.hide{fs:List Addr}{h0:Heap}(F:Fl P w fs H h0 a H' B h)(sb:Zxs C h h')(n0:h0.objs.size<=C)(nC:H' C=none):Fl P w fs H h0 a H' (hideAll B [C]) h' where
 un:={
  keep:=λb o e n hb hx=>(sb.2 b (B9 (Zzo e) n0)).trans (F.un.keep b o e n hb hx)
  slot:=λb o e n hb hx=>by
   let⟨sl,q⟩:=F.un.slot b o e n hb hx
   exact⟨sl,(sb.2 b (B9 (Zzo e) n0)).trans q⟩
  free:=F.un.free
  there:=λb o e hx=>by
   let⟨o',q⟩:=F.un.there b o e hx
   exact⟨o',(sb.2 b (B9 (Zzo e) n0)).trans q⟩
  tups:=F.un.tups
  frzs:=F.un.frzs
  tbls:=F.un.tbls}
 hok:=λb u e=>(F.hok b u e).stay (λc o hc q=>(sb.2 c (by
  rcases hc with rfl | hc
  ·exact λz=>by rw[z,nC] at e;cases e
  ·exact λz=>by rw[z,nC] at hc;cases hc)).trans q) (λ_ q=>q) λ_ _ q=>q
 new:=F.new;free:=F.free;k1:=λb o e n hb=>hideAll_get _ (F.k1 b o e n hb) (by simpa using B9 (Zzo e) n0);k2:=λb o u e q=>by
  have nb:b≠C:=λz=>by rw[z,nC] at e;cases e
  rw[sb.2 b nb] at q;exact hideAll_get _ (F.k2 b o u e q) (by simpa using nb)
 k3:=λb o e hb=>by
  let⟨o',q⟩:=F.k3 b o e hb;exact⟨o',hideAll_get _ q (by simpa using B9 (Zzo e) n0)⟩
 fr:=F.fr
end
theorem Jq{target:Expr}{it acc:Value}(I:Nat->Shared->Prop)
  (turn:∀n s,I n s->wpAny (model prog w) A (pyNext it) (λr s₁=>match r with
   |none=>R (.ok .next) s₁
   |some v=>wpAny (model prog w) A (letOwnedTupleGo target it v) (λ_ s₁'=>wpAny (model prog w) A (assign target env v) (λ_ s₂ =>
     wpAny (model prog w) A (forIn ifs true λc r=>if r=true then do let ok <- isTrue c env (eval c env);pure (ForInStep.yield ok) else pure (ForInStep.yield r)) (λok s₃ =>
      if ok=true then wpAny (model prog w) A (eval elt env) (λx s₄ =>
       wpAny (model prog w) A (call (.builtin "list.append") [acc,x]) (λ_ s₅=>∃m,m<n/\I m s₅) (λ_ _=>False) s₄) (notedBy (model prog w) A env λx s'=>R (.error x) s') s₃
      else ∃m,m<n/\I m s₃) (notedBy (model prog w) A env λx s'=>R (.error x) s') s₂) (notedBy (model prog w) A env λx s'=>R (.error x) s') s₁') (λ_ _=>False) s₁) (λ_ _=>False) s)
  (n:Nat) (h:I n s) :
  codeAny (model prog w) A (.compLoop (.ListComp elt [⟨target,iter,ifs,0⟩] scope pos) 0 it acc env) R s:=by
 refine codeAny_loop rfl I (λn s hI=>?_) n h;show wpAny _ A ((compTurn (.ListComp elt [⟨target,iter,ifs,0⟩] scope pos) 0 it acc env).onRaise (λx=>do noteFrame x env;theTreesLotGoes x)) _ _ s;refine wpAny_noted ?_;rw[compTurn_list];refine GF (wpAny_standAt (GF (wpAny_mono (turn n s hI) (λr s₁ h₁=>?_) λ_ _ h'=>h'.elim)));cases r with
 |none=>exact GG h₁
 |some v =>
  refine GF (wpAny_mono h₁ (λ_ s₁' h₁'=>?_) λ_ _ h'=>h'.elim);refine GF (wpAny_mono h₁' (λ_ s₂ h₂=>GF (wpAny_mono h₂ (λok s₃ h₃=>?_) λ_ _ h'=>h')) λ_ _ h'=>h');cases ok with
  |false=>exact GG ⟨rfl,h₃⟩
  |true =>
   exact GF (GF (wpAny_mono h₃ (λx s₄ h₄=>GF (wpAny_mono h₄ (λ_ s₅ h₅=>GG (GG ⟨rfl,h₅⟩)) λ_ _ h'=>h'.elim)) λ_ _ h'=>h'))
def ui(X:Cx)(C:Addr)(x:Value)(s':Shared):Prop:=∃m,s'.heap.Ns C m/\∀h',Zxs C s'.heap h'->∀cenv:Env,cenv.locals=C->wpAny (model X.prog X.w) X.A (PySem.passOn "comprehension.variables-let-go" x cenv:Sem Value) (λ_ _=>False) X.xe {s' with heap:=h'}
def X2(X:Cx)(G:Value->Hp->Prop):Prop:=∀(pins:List (Addr×Obj)) (σ:St) (H:Hp) (s:Shared) (C:Addr) (e:Value) (s':Shared),Inv X pins σ H s->X.s₀.heap.objs.size<=C->C∉frs X.stack->H C=none->(∃m,s.heap.Ns C m)->CXE X.prog X.w X.stack H s (λcls _ H'=>G cls H') e s'->notedBy (model X.prog X.w) X.A X.env (ui X C) e s'
section
variable {E:XK}
theorem ww:X2 (No (CXE P w) P w K mg base N qual scope f cd A outer s H E) λcls H'=>E cls none H':=by
 rintro pins σ H1 s1 C e s2 I hC nst nH ⟨m,hns⟩ ⟨a,cls,H2,B,t,he,os,bare,F,fl,hE⟩;subst he;have hns':=hns;let⟨oC,es,ep,gC,dC,rC⟩:=hns';show wpAny _ _ (noteFrame (.ref a) _) _ _ _;refine(Kn.noteFrame (.ref a) _).with fl.2 (C:=λh'=>Heap.HeldW B (envOfC qual scope s.heap.objs.size f cd::outer) a cls (.ref t) s.heap.objs.size h'/\s2.heap.UpToSlots h') (λQ' hq=>wpAny_looks_onW (outer:=outer) I.ok.frames rfl fl.1 λh' x y=>hq h' ⟨x,y⟩) λh' z n1=>?_;let⟨held,up⟩:=z;have F1:Fl P w (s.heap.objs.size::frs outer) H1 s1.heap a H2 B h':=F.on held.1 up;have F2:=F1.out I.base (Zzu _) (tu I);have gC':h'.get? C=some oC:=F1.un.keep C oC gC nH nst (by simp);have nC:H2 C=none:=F1.un.free C oC gC nH (by simp);refine⟨m,⟨oC,es,ep,gC',dC,rC⟩,λh2 sb cenv _=>?_⟩;have F3:=F2.hide sb hC nC;have tr:=Ys sb (λo g us z=>by rw[gC'] at g;cases g;rw[dC] at z;cases z) held.2.2.2;have kf:=On (B:=B) sb nst held.2.2.1;have kb:(hideAll B [C]).StaysIn h2:=λb o g=>(sb.2 b (Mb g).1).trans (held.1 b o (Mb g).2);have be:(hideAll B [C]).get? a=none:=by
  cases g:(hideAll B [C]).get? a with
  |none=>rfl
  |some o=>have:=(Mb g).2;rw[held.2.1] at this;cases this
 have tr':=tr;let⟨oe,vs,T,oT,ts,q1,q2,q3,q4,_⟩:=tr';unfold PySem.passOn;refine GF (wpAny_field q1 q3 q4 ?_);rw[GD (by simp:¬ (Value.ref T == Value.none)=true)];have n2:N2 a h2:=by
  let⟨o,us,e1,e2,e3⟩:=n1;refine⟨o,us,(sb.2 a λz=>?_).trans e1,e2,e3⟩;rw[z,gC'] at e1;cases e1;rw[dC] at e2;cases e2
 refine GF ((Kn.setFlight (.ref a) _).with (s:={s2 with heap:=h2}) n2 (C:=λh3=>((hideAll B [C]).StaysIn h3/\h3.FunFrames (hideAll B [C]) _/\h3.TracedAtW (hideAll B [C]) a cls (.ref t) _)/\h2.UpToSlots h3) (λQ' hq=>yr kb kf tr λh3 k1 k2 k3 up3=>hq h3 ⟨⟨k1,k2,k3⟩,up3⟩) λh3 z n3=>?_);let⟨⟨k1,k2,k3⟩,up3⟩:=z;refine wpAny_throw ?_;refine(Kn.leaving (.ref a) _).with (s:={s2 with heap:=h3}) n3 (C:=λh4=>Zwp (hideAll B [C]) outer a cls (.ref t) h4/\h3.UpToSlots h4) (λQ' hq=>jg I.ok.frames rfl k1 be k2 k3 λh4 f4 up4=>hq h4 ⟨f4,up4⟩) λh4 z n4=>?_;let⟨f4,up4⟩:=z;exact⟨a,cls,H2,hideAll B [C],t,rfl,os.trans I.os,bare,(F3.on k1 up3).on f4.1 up4,⟨f4,n4⟩,hE⟩
end
def Dh(X:Cx)(sc:Scope)(own:List Str)(cap:List Nat)(cl:List (Str×Addr))(C:Addr)(s:Shared)(H:Hp)(fp:List Addr)(pins:List (Addr×Obj))(xe:Value->Shared->Prop):Cx:={AH X sc own cap cl C s H fp pins with xe:=xe}
section
variable {xe:Value->Shared->Prop}
theorem A29(o:(AH X sc own cap cl C s H fp pins).Ok):(Dh X sc own cap cl C s H fp pins xe).Ok:=⟨o.mod,o.kind,o.glob,o.blt,o.above,o.inj,o.has,o.cab,o.hd,o.frames,o.stk,o.exf,o.bs,o.bsz,o.noex,o.exfs,o.funs,o.frf⟩
theorem A2a(o:(Dh X sc own cap cl C s H fp pins xe).Ok):(AH X sc own cap cl C s H fp pins).Ok:=⟨o.mod,o.kind,o.glob,o.blt,o.above,o.inj,o.has,o.cab,o.hd,o.frames,o.stk,o.exf,o.bs,o.bsz,o.noex,o.exfs,o.funs,o.frf⟩
theorem Inv.toX(I:Inv (AH X sc own cap cl C s H fp pins) pl σ H' s'):Inv (Dh X sc own cap cl C s H fp pins xe) pl σ H' s':=⟨A29 I.ok,I.os,I.bare,I.base,I.loc,I.cell,I.free,I.freeC,I.pin,I.hok,I.len⟩
theorem Inv.ofX(I:Inv (Dh X sc own cap cl C s H fp pins xe) pl σ H' s'):Inv (AH X sc own cap cl C s H fp pins) pl σ H' s':=⟨A2a I.ok,I.os,I.bare,I.base,I.loc,I.cell,I.free,I.freeC,I.pin,I.hok,I.len⟩
end
theorem Z1
  {it:Addr} {tn:Nat->Heap->Prop} {J:It} {Q:VK} {RR:Value->Addr->Result->Shared->Prop}
  (hc:X.calm=true) (S:Gs X.N X.env.scope sc own cap) (hown:cq own.length g)
  (cl1:∀x c,cl.lookup x=some c->X.env.cells.lookup x=some c) (cl2:∀x,(x,Zyx)∈sc.names->∃c,cl.lookup x=some c)
  {G:Value->Hp->Prop} (hG:X2 X G) (hb:∀cl C s H fp pins xe,Ij (Dh X sc own cap cl C s H fp pins xe) (λcls _ H'=>G cls H')->PG (Dh X sc own cap cl C s H fp pins xe) tg g/\PTs (Dh X sc own cap cl C s H fp pins xe) ifs tt/\PE (Dh X sc own cap cl C s H fp pins xe) elt te)
  (I:Inv X pins σ H s) (T:Nt X.prog X.w X.K tg J fp it tn) (st:tn 0 s.heap) (f:∀b∈fp,Ik X pins H b)
  (W:Nat->Nat->List V->Hp->Prop) (w0:∃m,W 0 m [] H)
  (turn:∀i m acc H,W i m acc H->acc.length<=sizeLine/\((J.stop i H/\∀p,H p=none->Q (.ref p) (upd H p (.lst acc)))\/(J.go i H/\acc.length<sizeLine/\∃N:List V->Hp->Prop,(∀acc' H',N acc' H'->∃m',m'<m/\W (i+1) m' acc' H')/\∀x H',J.yld i H x H'->g x (Gh own cap σ) H' λσ2 H2=>tt σ2 H2 λb H3=>if b=true then te σ2 H3 λy H4=>N (acc++[y]) H4 else N acc H3)))
  (hRE:∀D C x s',ui X C x s'->RR D C (.error x) s') (hRR:∀D C H' s',Inv X pins σ H' s'->(∃m,s'.heap.Ns C m)->Ik X pins H' C->Q (.ref D) H'->RR (.ref D) C (.ok .next) s') :
  wpAny (model X.prog X.w) X.A (newList []) (λacc s₃=>wpAny (model X.prog X.w) X.A (newFunctionEnv sc X.env.globals cl [] X.env.qual none .none (some X.env)) (λcenv s₄ =>
   codeAny (model X.prog X.w) X.A (.compStart (.ListComp elt [⟨tg,iter,ifs,0⟩] sc pos) 0 (.ref it) acc {cenv with scope:=relabel sc X.env}) (RR acc cenv.locals) s₄) E s₃) E s:=by
 refine wpAny_newObj_type (wpAny_newFunctionEnv S.nocell (by intro y hy;simp at hy) (λh₁ hns₁ hsb₁=>?_) S.kind);dsimp only at hns₁ hsb₁ ⊢;generalize hH2:s.heap.push {cls:=.type "list",dict:=none,data:=.seq ([]:List Value).toArray}=H2 at hns₁ hsb₁ ⊢;have hCs:H2.objs.size=s.heap.objs.size+1:=by rw[<- hH2,Zy0]
 have hDC:s.heap.objs.size≠H2.objs.size:=by lia
 have hCle:s.heap.objs.size<=H2.objs.size:=by lia
 have old:∀b o,s.heap.get? b=some o->h₁.get? b=some o:=λb o e=>by
  exact hsb₁.extBut b o (B9 (Zzo e) hCle) (Zzv _ (hH2▸Zzv _ e))
 have hacc:h₁.get? s.heap.objs.size=some {cls:=.type "list",data:=.seq ([]:List Value).toArray 0}:=hsb₁.extBut _ _ hDC (Zzv _ (hH2▸Zzj _ rfl));have live:∀b∈fp,b<s.heap.objs.size:=λb hb=>by
  let⟨o,e,_⟩:=T.obj _ _ st b hb;exact Zzo e
 have ok:=A0p (C:=H2.objs.size) S cl1 cl2 I f live hCle;let Y:Cx:=Dh X sc own cap cl H2.objs.size s H fp pins (notedBy (model X.prog X.w) X.A (compEnvC sc cl H2.objs.size X.env) λx s'=>RR (.ref s.heap.objs.size) H2.objs.size (.error x) s')
 have hDst:s.heap.objs.size∉frs X.stack:=λz=>by
  rcases Zzw.mp (I.stkSub _ z) with q | q
  ·exact B9 I.lt (Zzu _) q.symm
  ·exact I.nofs (Zzu _) q
 have fpX:∀(H':Hp) (pl:List (Addr×Obj)),(∀b∈fp,H' b=none)->(∀p∈pl,∀b∈fp,p.1≠b)->∀b∈fp,Ik (Y) pl H' b:=λH' pl hn hp b hb=>by
  let⟨f0,f1,f2,f3,f4,f5⟩:=f b hb;refine⟨hn b hb,λz=>?_,λz=>?_,.inl hb,λx c e=>f4 x c (cl1 x c e),λp hpp=>?_⟩
  ·exact B9 (live b hb) hCle z
  ·rcases Zzw.mp (I.stkSub b z) with q | q
   ·exact f1 q
   ·exact f2 q
  ·rcases Zz3.mp hpp with q | q
   ·exact f5 p q
   ·exact hp p q b hb
 have hpass:Ij Y λcls _ H'=>G cls H':=by
  intro pl σ' H7 s7 e s8 J ex;show wpAny _ _ (noteFrame e (compEnvC sc cl H2.objs.size X.env)) _ _ _;rw[xm (env:=X.env) (env':=compEnvC sc cl H2.objs.size X.env) rfl];have u:Un (frs X.stack) fp H H7 s.heap s7.heap:=J.base;have IX:Inv X pins σ H7 s7:=I.call' (ch:=fp) J.os u J.hok J.bare λb hb=>by
   let⟨f0,f1,f2,f3,f4,f5⟩:=f b hb;exact⟨f3,f1,f4,f5⟩
  have nst:H2.objs.size∉frs X.stack:=λz=>by
   rcases Zzw.mp (I.stkSub _ z) with q | q
   ·exact B9 I.lt hCle q.symm
   ·exact I.nofs hCle q
  let⟨m,hn,_⟩:=J.loc;refine wpAny_mono (hG pins σ H7 s7 H2.objs.size e s8 IX (Zzp I.sz hCle) nst J.free ⟨m,hn⟩ ex) (λ_ s' q=>hRE _ _ _ _ q) λ_ s' q=>hRE _ _ _ _ q
 have loop:∀s₃:Shared,s₃={s with heap:=h₁,toks:=s.toks+([]:List (Str×Value)).length} ->
   codeAny (model X.prog X.w) X.A (.compLoop (.ListComp elt [⟨tg,iter,ifs,0⟩] sc pos) 0 (.ref it) (.ref s.heap.objs.size) (compEnvC sc cl H2.objs.size X.env))
    (RR (.ref s.heap.objs.size) H2.objs.size) s₃:=by
  rintro s₃ rfl;let⟨m0,w0⟩:=w0;let⟨hg,ht,he⟩:=hb cl H2.objs.size s H fp pins _ hpass;have I0:Inv (Y) [] (Gh own cap σ) H {s with heap:=h₁,toks:=s.toks+([]:List (Str×Value)).length}:=(tj S cl1 cl2 I ok hCle hns₁ old).toX;refine Jq (λn s'=>∃i acc its nn H',Inv (Y) [] (Gh own cap σ) H' s'/\tn i s'.heap/\(∀b∈fp,H' b=none) /\
   s'.heap.get? s.heap.objs.size=some {cls:=.type "list",data:=.seq its.toArray nn}/\AC acc its/\H' s.heap.objs.size=none/\W i n acc H') ?_ m0
   ⟨0,[],[],0,H,I0,T.keep _ _ _ st (λb _ o e=>old b o e),λb hb=>(f b hb).1,hacc,.nil,I.hok.fresh (Zzu _),w0⟩
  rintro n s3 ⟨i,acc,its,nn,H3,I3,st3,fr3,hD3,rv3,hDn,w3⟩;let⟨hz,hcase⟩:=turn i n acc H3 w3;have hpl:∀p∈[((s.heap.objs.size:Addr),({cls:=.type "list",data:=.seq its.toArray nn}:Obj))],∀b∈fp,p.1≠b:=λp hp b hb z=>by
   have e:p=_:=Zzh.mp hp;rw[e] at z;exact B9 (live b hb) (Zzu _) z.symm
  have I3':Inv (Y) [((s.heap.objs.size:Addr),({cls:=.type "list",data:=.seq its.toArray nn}:Obj))] (Gh own cap σ) H3 s3:=I3.pins_of λp hp=>by
   have e:p=_:=Zzh.mp hp;subst e;exact⟨hD3,hDn,hDC,hDst,λv z=>by cases z⟩
  rcases hcase with ⟨stop,fin⟩ | ⟨go,hlt,N,hN,step⟩
  ·refine thn (T.done (Y) rfl rfl rfl hc i _ s3 _ H3 _ I3' (fpX H3 _ fr3 hpl) st3 stop) λr s4 z0=>?_;let⟨hr,I4⟩:=z0;subst hr;have hD4:=(I4.pin (_,_) (Zze _ (Zzh.mpr rfl))).1;let⟨J1,J2,J3⟩:=gk I f hCle (Zzu _) hDC I4.ofX hDn hD4 rv3 hz;exact hRR _ _ _ _ J1 J2 J3 (fin _ hDn)
  ·refine thn (T.item (Y) rfl rfl rfl hc i _ s3 _ H3 _ I3' (fpX H3 _ fr3 hpl) st3 go) λr s4 z0=>?_;let⟨u,hr,h4⟩:=z0;subst hr;refine thn h4 λ_ s5 z0=>?_;let⟨x,H5,I5,r5,y5,st5,fr5⟩:=z0;have I5':=I5.pinned (fpX H5 _ fr5 hpl) (T.obj _ _ st5);refine thn (hg _ s5 _ H5 x u _ I5' r5 (hown _ _ _ _ (step x H5 y5))) λ_ s6 z0=>?_;let⟨σ6,H6,I6,⟨hx1,hx2⟩,q6⟩:=z0;refine thn (ht _ s6 σ6 H6 _ I6 q6) λb s7 z0=>?_;let⟨H7,I7,q7⟩:=z0;have wk:∀{H7:Hp} {s7:Shared} {pl:List (Addr×Obj)},Inv (Y) pl σ6 H7 s7->Inv (Y) pl (Gh own cap σ) H7 s7:=λI=>I.weak hx1.symm λj v e=>by
    rw[hx2 j (Np e).1];exact e
   have stay:∀{H7:Hp} {s7:Shared} {σ7:St},Inv (Y) ([((s.heap.objs.size:Addr),({cls:=.type "list",data:=.seq its.toArray nn}:Obj))]++Jd fp s5.heap) σ7 H7 s7 ->
     tn (i+1) s7.heap/\(∀b∈fp,H7 b=none)/\s7.heap.get? s.heap.objs.size=some {cls:=.type "list",data:=.seq its.toArray nn}/\H7 s.heap.objs.size=none:=λ{H7 s7 σ7} I7=>by
    refine⟨T.keep _ _ _ st5 λb hb o e=>(I7.pin (b,o) (Zze _ (Zze _ (Eu hb e)))).1,λb hb=>?_,?_,?_⟩
    ·let⟨o,e,d⟩:=T.obj _ _ st5 b hb;exact(I7.pin (b,o) (Zze _ (Zze _ (Eu hb e)))).2.1
    ·exact(I7.pin (_,_) (Zze _ (Zyi _ (Zzh.mpr rfl)))).1
    ·exact(I7.pin (_,_) (Zze _ (Zyi _ (Zzh.mpr rfl)))).2.1
   cases b with
   |false =>
    rw[GD Zzi] at q7 ⊢;let⟨m',hm,w7⟩:=hN _ _ q7;let⟨a1,a2,a3,a4⟩:=stay I7;exact⟨m',hm,i+1,acc,its,nn,H7,(wk I7).pins_of (λp hp=>absurd hp (by simp)),a1,a2,a3,rv3,a4,w7⟩
   |true =>
    rw[GE rfl] at q7 ⊢;refine thn (he _ s7 σ6 H7 _ I7 q7) λy s8 z0=>?_;let⟨v,H8,I8,r8,n8⟩:=z0;let⟨m',hm,w8⟩:=hN _ _ n8;let⟨a1,a2,a3,a4⟩:=stay I8;have hlen:=rv3.length;refine call_meets F.slot_list_append ⟨_,a3,rfl⟩ F.entry_list_append (F.args_list_append_2 _ _) (PySem.list_append s.heap.objs.size its.toArray nn y (by rw[Zzr];lia)) ⟨a3,?_⟩;obtain⟨n',q⟩:∃n',(s8.heap.update s.heap.objs.size (Obj.mapSeq (·.push y))).get? s.heap.objs.size=some {cls:=.type "list",data:=.seq (its++[y]).toArray n'}:=by
     have q:=PySem.IsL.update a3 (·.push y);have e:(its.toArray.push y)=(its++[y]).toArray:=by simp
     rw[<- e];exact⟨_,q⟩
    have I9:=(wk I8).pins_of (pins':=Jd fp s5.heap) λp hp=>(wk I8).pin p (Zze _ (Zze _ hp));have kk:∀b o,b≠s.heap.objs.size->s8.heap.get? b=some o->(s8.heap.update s.heap.objs.size (Obj.mapSeq (·.push y))).get? b=some o:=λb o hb e=>(Zyo s8.heap (Obj.mapSeq (·.push y)) (Zza hb)).trans e;refine⟨m',hm,i+1,acc++[v],its++[y],n',H8,(I9.pins_of (pins':=[]) λp hp=>absurd hp (by simp)).turned (it:=s.heap.objs.size) kk a4 hDC (.inr (Zzu _)) (λx c e z=>?_) (λp hp z=>?_),T.keep _ _ _ a1 λb hb o e=>kk b o (λz=>?_) e,a2,q,rv3.append (.cons r8 .nil),a4,w8⟩
    ·have e:=cl1 x c e
     let⟨w',o,ho,_⟩:=I.cell x c e;exact B9 (Zzo ho) (Zzu _) z
    ·have hp:p∈(X.pn++pins)++[]:=hp
     rw[Zyt] at hp;exact B9 (Zzo (I.pin p hp).1) (Zzu _) z
    ·exact B9 (live b hb) (Zzu _) z
 exact codeAny_compStart_list (loop _ rfl) (T.self _ 0 _ _ _ (T.keep _ _ _ st λb _ o e=>old b o e) (loop _ rfl))
theorem Xq{spos:Pos}{wi:TI}(hc:X.calm=true)(S:Gs X.N X.env.scope sc own cap)(hown:cq own.length g)(hN:X.N.Nodup)(hx:X.N[i]?=some x)(hl:X.env.scope.names.lookup x=some .local)(hi:PI X tg iter wi)
  {G:Value->Hp->Prop} (hG:X2 X G) (hb:∀cl C s H fp pins xe,Ij (Dh X sc own cap cl C s H fp pins xe) (λcls _ H'=>G cls H')->PG (Dh X sc own cap cl C s H fp pins xe) tg g/\PTs (Dh X sc own cap cl C s H fp pins xe) ifs tt/\PE (Dh X sc own cap cl C s H fp pins xe) elt te)
  (hsw:swapsWith (.ListComp elt [⟨tg,iter,ifs,0⟩] sc pos) (some (.Name x pos')) spos.line X.env=pure true:=by rfl)
  (hs:∀x,foldedSetIterable iter X.env x=pure x:=by intro _;rfl):PS X (.Assign [.Name x pos'] (.ListComp elt [⟨tg,iter,ifs,0⟩] sc pos) spos) (i4 (da own cap wi g tt te) (E3 i)):=by
 intro pins s σ H D I h;let⟨cl,hcl,cl1,cl2⟩:=Ft (env:=X.env) (scope:=sc) λy hy hf=>I.ok.has y.1 (S.free y hy hf);rw[exec_Assign_Name_used _ _ _ _ hsw];refine GF (wpAny_standAt (GF ?_));show wpAny _ _ (do let _ <- comprehension (.ListComp elt [⟨tg,iter,ifs,0⟩] sc pos) sc X.env _ (newList []) false (eval iter X.env) (some (assign (.Name x pos') X.env))) _ _ s;refine GF (wpAny_mono (wpAny_comprehension_free (use:=some (assign (.Name x pos') X.env)) (Q:=λ_ s'=>SP X pins D .next s') rfl hs hcl S.kind S.names (thn (hi pins s σ H _ I h) λxv s1 h1=>thn h1 λitv s2 h2=>?_)) (λ_ s' hq=>GG (GG hq)) λ_ _ e=>e);let⟨it,fp,tn,J,H2,e,I2,T,st2,f2,W,w0,turn⟩:=h2;subst e;refine Z1 (Q:=λx H1=>E3 i x σ H1 D.nx) (RR:=λacc C=>compPost (model X.prog X.w) X.A X.xe (some (assign (.Name x pos') X.env)) (λ_ s'=>SP X pins D .next s') acc C) hc S hown cl1 cl2 hG hb I2 T st2 f2 W w0 turn (λ_ _ _ _ q=>q) ?_;intro L C H' s' J1 ⟨m,J2⟩ ⟨c0,c1,c2,c3,c4,c5⟩ q;show wpAny _ _ (assign (.Name x pos') X.env (.ref L)) _ _ s';refine wpAny_assign_Name (Mt (v:=.ref L) J1 hN hx (.inl hl) rfl (λs'' J3 ⟨a,sb,ha⟩=>?_) (.inr hl));have hCa:C≠a:=by
  rcases ha with z | z
  ·rw[z];exact c1
  ·exact Zza (c4 _ _ z)
 refine⟨m,J2.sameBut sb hCa,λh' sb'=>⟨_,H',J3.turned (t':=s''.toks) (λb o hb e=>(sb'.2 b hb).trans e) c0 c1 c3 c4 c5,q⟩⟩
def S2(P:Program)(w:World)(K:Zzy)(mg:Str->Option Value)(base:Heap)(f:Addr)(k:Nat)(ps:List Str)(sp:Sp):Prop:=∃fd,BF K fd ps []/\Aq P w K mg base (CXE P w) k f fd ps sp
def lm(C:Addr)(m:Str)(sp:Sp)(G:XG)(ta:TE)(t:TA):TE:=λσ H Q=>ta σ H λx H1=>∃a dx fs,x=.ref a/\H1 a=some (.ins C dx fs)/\fs.lookup m=none/\t σ H1 λvs H2=>sp (x::vs) H2 Q λcls _ H'=>G cls σ H'
theorem Ce{k:Nat}{G:XG}{m:Str}{o:Expr}{pl:Sem Bool}(h:S2 X.prog X.w X.K X.mg X.base f k ps sp)(hp:Ij X G)(he:PE X o ta)(c:Cls X.K C)(hm:A2l X.K C m f)(hr:AM k X.A)(ha:PA X (e::es) t)(hn:Bw (e::es)=true:=by rfl)
  (ht:eval (.Call (.Attribute o m apos) (e::es) [] pos) X.env=(do
   let ov <- eval o X.env
   standAt apos.atName
   let (f,first) <- holding [ov] (getMethod ov m pl)
   callWith pos f first (backTo pos (starEach (e::es) X.env)) (backToKw pos (keywordEach [] X.env))):=by rfl):PE X (.Call (.Attribute o m apos) (e::es) [] pos) (lm C m sp G ta t):=by
 let⟨fd,hb,F⟩:=h;intro pins s σ H Q I h;refine PySem.W.methodCall_KW (pl:=pl) (thn (he pins s σ H _ I h) λu s1 ⟨x,H1,I1,rx,a,dx,fs,ex,ea,l,q⟩=>?_) ht;subst ex;obtain rfl:u=Value.ref a:=rx;refine bg I1 ea c hm l ?_;refine Zuu (first:=[.ref a]) (h₀:=X.base) I.ok.mod.kin hm.kp (thn (ha pos pins s1 σ H1 _ I1 q) λus s2 ⟨vs,H2,I2,r,q2⟩=>⟨I2.kIn,?_⟩) (B6 (B2 hn).1) (C7 (B2 hn).2);exact dq (us:=.ref a::us) (vs:=.ref a::vs) F hr hb hp I2 (.cons rfl r) q2
section
variable {Q:VK}{C:Int->Int->Prop}{g:Int->Int->V}{g1:Int->V}{α β:Sort u}
theorem A3t{a b:Prop}:(if true=true then a else b)=a:=rfl
theorem A3v{a b:Prop}:(if false=true then a else b)=b:=rfl
theorem A3b{i j:Int}:rI C g (.int i) (.int j) H Q=(C i j/\Q (g i j) H):=propext ⟨λ⟨_,_,e,f,h⟩=>by cases e;cases f;exact h,λh=>⟨_,_,rfl,rfl,h⟩⟩
theorem A1h{i j:Int}:rI0 g (.int i) (.int j) H Q=Q (g i j) H:=propext ⟨λ⟨_,_,e,f,h⟩=>by cases e;cases f;exact h,λh=>⟨_,_,rfl,rfl,h⟩⟩
theorem rU_i{i:Int}:rU g1 (.int i) H Q=Q (g1 i) H:=propext ⟨λ⟨_,e,h⟩=>by cases e;exact h,λh=>⟨_,rfl,h⟩⟩
theorem ex_i{p:Int->Prop}{a:Int}:(∃i,V.int a=.int i/\p i)=p a:=propext ⟨λ⟨_,e,h⟩=>by cases e;exact h,λh=>⟨_,rfl,h⟩⟩
theorem ex_b{p:Bool->Prop}{a:Bool}:(∃i,V.bl a=.bl i/\p i)=p a:=propext ⟨λ⟨_,e,h⟩=>by cases e;exact h,λh=>⟨_,rfl,h⟩⟩
theorem ex_s{p:Str->Prop}{a:Str}:(∃i,V.str a=.str i/\p i)=p a:=propext ⟨λ⟨_,e,h⟩=>by cases e;exact h,λh=>⟨_,rfl,h⟩⟩
theorem ex_r{p:Addr->Prop}:(∃i,V.ref a=.ref i/\p i)=p a:=propext ⟨λ⟨_,e,h⟩=>by cases e;exact h,λh=>⟨_,rfl,h⟩⟩
theorem A46{p:Addr->α->Prop}:(∃i x,V.ref a=.ref i/\p i x)=∃x,p a x:=propext ⟨λ⟨_,x,e,h⟩=>by cases e;exact⟨x,h⟩,λz0=>by let⟨x,h⟩:=z0;exact ⟨_,x,rfl,h⟩⟩
theorem A45{p:Str->Str->Prop}{a b:Str}:(∃i j,V.str a=.str i/\V.str b=.str j/\p i j)=p a b:=propext ⟨λ⟨_,_,e,f,h⟩=>by cases e;cases f;exact h,λh=>⟨_,_,rfl,rfl,h⟩⟩
theorem el_i{p:Int->Prop}{a:Int}:(∃i,[V.int a]=[.int i]/\p i)=p a:=propext ⟨λ⟨_,e,h⟩=>by cases e;exact h,λh=>⟨_,rfl,h⟩⟩
theorem el_s{p:Str->Prop}{a:Str}:(∃i,[V.str a]=[.str i]/\p i)=p a:=propext ⟨λ⟨_,e,h⟩=>by cases e;exact h,λh=>⟨_,rfl,h⟩⟩
theorem A48{p:Addr->α->Prop}:(∃i x,[V.ref a]=[.ref i]/\p i x)=∃x,p a x:=propext ⟨λ⟨_,x,e,h⟩=>by cases e;exact⟨x,h⟩,λz0=>by let⟨x,h⟩:=z0;exact ⟨_,x,rfl,h⟩⟩
theorem A47{p:Addr->Addr->α->β->Prop}:(∃i j x y,[V.ref a,V.ref b]=[.ref i,.ref j]/\p i j x y)=∃x y,p a b x y:=propext ⟨λ⟨_,_,x,y,e,h⟩=>by cases e;exact⟨x,y,h⟩,λz0=>by let⟨x,y,h⟩:=z0;exact ⟨_,_,x,y,rfl,h⟩⟩
theorem A49{p:Int->Int->Prop}{a b:Int}:(∃i j,[V.int a,V.int b]=[.int i,.int j]/\p i j)=p a b:=propext ⟨λ⟨_,_,e,h⟩=>by cases e;exact h,λh=>⟨_,_,rfl,h⟩⟩
theorem el_t{p:V->String->β->Prop}:(∃x t r,[v,V.ty T]=[x,.ty t]/\p x t r)=∃r,p v T r:=propext ⟨λ⟨_,_,r,e,h⟩=>by cases e;exact⟨r,h⟩,λz0=>by let⟨r,h⟩:=z0;exact ⟨_,_,r,rfl,h⟩⟩
theorem er_a{p:Addr->α->V->Prop}:(∃l x y,V.ref a=.ref l/\[v]=[y]/\p l x y)=∃x,p a x v:=propext ⟨λ⟨_,x,_,e,f,h⟩=>by cases e;cases f;exact⟨x,h⟩,λz0=>by let⟨x,h⟩:=z0;exact ⟨_,x,_,rfl,rfl,h⟩⟩
end
section
variable {α:Type u}{a b c d e:α}
theorem app1:[a]++[]=[a]:=rfl
theorem app2:[a,b]++[]=[a,b]:=rfl
theorem app3:[a,b,c]++[]=[a,b,c]:=rfl
theorem app4:[a,b,c,d]++[]=[a,b,c,d]:=rfl
theorem app5:[a,b,c,d,e]++[]=[a,b,c,d,e]:=rfl
end
theorem Ac{a b:Expr}{tb:TE}(hu:X.A.units+1<cLine)(ha:PE X a ta)(hb:PE X b tb)(hs:Pn b:=by exact λ_ _=>rfl):PE X (.Subscript a b pos) (tOp EN ta tb):=wo hu ha hb hs
theorem Cj(i:Nat)(hN:X.N.Nodup)(hi:X.N[i]?=some x:=by rfl)(hx:Loc X.env.scope x:=by exact Zyr rfl)(hf:X.fn x=true\/X.env.scope.names.lookup x=some .local:=by first | exact .inl rfl | exact .inr rfl | assumption):PG X (.Name x pos) (E3 i):=Ax hN hi hx hf
theorem B4(i:Nat)(hN:X.N.Nodup)(he:PE X e te)(hi:X.N[i]?=some x:=by rfl)(hx:Loc X.env.scope x:=by exact Zyr rfl)(hs:swapsWith e (some (.Name x pos')) pos.line X.env=pure false:=by rfl)(hf:X.fn x=true\/X.env.scope.names.lookup x=some .local:=by first | exact .inl rfl | exact .inr rfl | assumption) :
  PS X (.Assign [.Name x pos'] e pos) (i4 te (E3 i)):=N0 hN hi hx he hs hf
theorem Fun.go{st:Stmt}{k:Nat}(F:Fun K x qual st f fd)(N:List Str)(S:Bu N ps (Ap st))(len:∀vs H Q E,sp vs H Q E->vs.length=ps.length)
  (hbody:N.Nodup->∀(cdv:Value) (A:Around) (outer:List Env) (s:Shared) (H:Hp) (vs:List V) (Q:VK) (E:XK),AM k (A.deeper (envOfC qual (Ap st) s.heap.objs.size f cdv))->sp vs H Q E ->
   ∃t,PSs (No CX0 P w K mg base N qual (Ap st) f cdv A outer s H E).nox (Dg st) t/\t {nx:=λ_ H'=>Q .non H',rt:=Q} (Io N vs) H):Aq P w K mg base CX0 (k+1) f fd ps sp:=F.ok S len (hbody S.nd)
end L2
namespace K72
open PySem L2 NP PySem.W
seal PE PA PT PS PSs PI PO PC PW
set_option hygiene false in
local macro_rules | `(tactic| walk_at "f")=>`(tactic| ((focus (constructor<;>first|rfl|decide +kernel));(focus (intro vs H Q E h;first|(let⟨_,rfl,_⟩:=h;rfl;done)|(let⟨_,_,rfl,_⟩:=h;rfl;done)|(let⟨_,_,_,rfl,_⟩:=h;rfl;done)|(let⟨_,_,_,_,rfl,_⟩:=h;rfl;done)|(let⟨_,_,_,_,_,rfl,_⟩:=h;rfl;done)|(let⟨_,_,_,_,_,_,rfl,_⟩:=h;rfl;done)|(let⟨_,_,_,_,_,_,_,rfl,_⟩:=h;rfl;done)|(let⟨_,_,_,_,_,_,_,_,rfl,_⟩:=h;rfl;done)|exact h.elim|(rcases h with⟨x,rfl,_⟩|⟨rfl,_⟩<;>rfl)));intro Nd cdv A outer s H vs Q E hr h))
def Zrd:="A4e Kl FL A2y i4 A32 A08 A36 E3 A44 A15 tC tCB lu ER db tOp tUn lg tB A37 tOr A30 A0a A2z zz tIf A2w A31 tSl zy EW tBA FE Zo tYes rI rI0 rU rEq rNe rIsA EZ EN lenA FO FI lenQ DZ FP FQ A3y A3w rCat FH rn A3z zu zw tIf A0n A3x A0l A0k rEqD lh Pm rSum A00 FS A09 rRep FR FG FA EX FD FN ET L2.Io Gh m4 vo ym A2x li m5 A33 FT A07 A05 A06 A1g EU FU AX.lose FJ zx FV A01 lm zt FC cx_K FY FZ A04 A03 A35 A38 lq A1f FB FX EU FU EV FK FW A02 A0j M0 Nc Nb Ly Ku Lz T4 Wh Wg Sy Ri Sz Wd Yq Yp Wb Su Wc W8 Yo Yn W6 So W7 Ss Wa W9 Sq Rg Sr Rf Sn Sm Rb P1 Rc Sx Wf We Sv Rh Sw xu qg xt qe j1 qf Nat.reduceAdd Nat.reduceSub List.replicate_zero Zx8 List.getD_cons_zero List.getD_cons_succ Zzk Zy1 Zw1 Zwa Zyz Zwi List.set_cons_zero List.set_cons_succ List.set_nil List.getElem?_cons_zero List.getElem?_cons_succ Option.some.injEq exists_eq_left' exists_eq_left V.int.injEq V.bl.injEq V.str.injEq V.ref.injEq V.ty.injEq List.cons.injEq and_true true_and and_assoc exists_and_left exists_eq_right reduceCtorEq false_and and_false exists_false or_false false_or"
local macro_rules | `(tactic| walk_at "rd")=>do let xs:=(Zrd.splitOn " ").toArray.map λs=>Lean.mkIdent s.toName;`(tactic| simp only[$[$xs:ident],*,↓A3t,↓A3v,↓A3b,↓A1h,↓rU_i,↓ex_i,↓ex_b,↓ex_s,↓ex_r,↓A46,↓A45,↓el_i,↓el_s,↓A48,↓A47,↓A49,↓el_t,↓er_a,↓app1,↓app2,↓app3,↓app4,↓app5,↓reduceIte])
local macro_rules | `(tactic| walk_at "sc")=>`(tactic| (constructor<;>first | rfl | decide +kernel))
def top(i:Nat):Stmt:=PySem.Challenge.pw_needplan_k72_desk_refused.main.body.getD i (.Pass ⟨0,0,0,0⟩)
abbrev U0:Stmt:=top 29
abbrev Q6:Stmt:=top 30
abbrev U1:Stmt:=top 31
abbrev Lj:Stmt:=top 32
abbrev Q7:Stmt:=top 33
abbrev Lm:Stmt:=top 34
abbrev Lk:Stmt:=top 35
abbrev Jb:Stmt:=top 36
abbrev Tz:Stmt:=top 37
abbrev Od:Stmt:=top 38
abbrev Tw:Stmt:=top 39
abbrev Ob:Stmt:=top 40
abbrev Tx:Stmt:=top 41
abbrev Oc:Stmt:=top 42
abbrev Ty:Stmt:=top 43
abbrev Pz:Stmt:=top 44
abbrev Lh:Stmt:=top 45
abbrev J9:Stmt:=top 46
abbrev Mu:Stmt:=top 47
abbrev J6:Stmt:=top 49
abbrev Iq:Stmt:=top 50
abbrev mo:Stmt:=top 51
abbrev Gx:Stmt:=top 52
abbrev Xk:Stmt:=top 53
abbrev Ld:Stmt:=top 54
abbrev dj:Stmt:=top 55
abbrev Xi:Stmt:=top 57
abbrev Q0:Stmt:=top 58
abbrev Li:Stmt:=top 59
abbrev U2:Stmt:=top 61
abbrev Xh:Stmt:=top 62
abbrev Tu:Stmt:=top 63
abbrev Mv:Stmt:=top 64
abbrev Ll:Stmt:=top 65
abbrev Oa:Stmt:=top 66
abbrev O3:Stmt:=top 67
abbrev O1:Stmt:=top 68
abbrev Ja:Stmt:=top 69
abbrev Lf:Stmt:=top 70
abbrev Kh:Stmt:=top 71
abbrev Q8:Stmt:=top 76
abbrev dm:Stmt:=top 77
abbrev Hl:Stmt:=top 78
abbrev O2:Stmt:=top 79
abbrev Q9:Stmt:=top 80
abbrev Le:Stmt:=top 81
abbrev Xj:Stmt:=top 84
abbrev Tt:Stmt:=top 92
abbrev O0:Stmt:=top 93
abbrev O4:Stmt:=top 94
abbrev mr:Stmt:=top 95
abbrev mq:Stmt:=top 96
abbrev O8:Stmt:=top 102
abbrev Gw:Stmt:=top 103
abbrev J8:Stmt:=top 104
abbrev Hv:Stmt:=top 105
abbrev Ko:Stmt:=top 106
abbrev J7:Stmt:=top 107
abbrev J4:Stmt:=top 108
abbrev Ts:Stmt:=top 109
abbrev E7:Stmt:=fz (top 113) 0
abbrev E2:Stmt:=fz (top 113) 1
abbrev Fp:Stmt:=top 114
abbrev Hw:Stmt:=top 115
abbrev J5:Stmt:=top 116
abbrev Qa:Stmt:=top 117
abbrev Lg:Stmt:=top 118
abbrev G8:Stmt:=top 119
abbrev O9:Stmt:=top 120
abbrev Kf:Stmt:=top 121
abbrev Q5:Stmt:=top 123
abbrev O7:Stmt:=top 124
abbrev O6:Stmt:=top 125
abbrev Kg:Stmt:=top 126
abbrev Q1:Stmt:=top 127
abbrev Q3:Stmt:=top 128
abbrev Q2:Stmt:=top 129
abbrev O5:Stmt:=top 130
abbrev Q4:Stmt:=top 131
abbrev Tv:Stmt:=top 132
structure Txt(mg:Str->Option Value):Prop where
 Zu7:mg "len" = none
 Zuo:mg "isinstance" = none
 Zt1:mg "str" = none
 Zt7:mg "all" = none
 Zr1:mg "bool" = none
 Zrf:mg "int" = none
 Ztw:mg "tuple" = none
 Zt0:mg "range" = none
 Zre:mg "list" = none
 Zrl:mg "max" = none
 Zr2:mg "sorted" = none
 Zr4:mg "reversed" = none
 Zrw:mg "zip" = none
 Zr0:mg "min" = none
 Zt6:mg "enumerate" = none
 Zqz:mg "sum" = none
 Zrd:mg "ValueError" = none
 Ztg:∃t,mg "COMING" = some (.int 5 t)
 Zt4:∃t,mg "FIGURES" = some (.str "0123456789" t)
 Zsz:∃t,mg "FLOOR" = some (.int 3 t)
 Ztn:∃t,mg "GIVES" = some (.int 2 t)
 Zsa:∃t,mg "KEEP" = some (.int 2 t)
 Zt5:∃t,mg "LAG" = some (.int 1 t)
 Zu6:∃t,mg "LAST_DAY" = some (.int 400 t)
 Ztm:∃t,mg "LETTERS" = some (.str "abcdefghijklmnopqrstuvwxyz" t)
 Ztl:∃t,mg "MEMBERS" = some (.int 7 t)
 Ztx:∃t,mg "MOST_COMING" = some (.int 12 t)
 Zu2:∃t,mg "MOST_FIGURES" = some (.int 60 t)
 Ztj:∃t,mg "MOST_LAG" = some (.int 30 t)
 Zuc:∃t,mg "MOST_LETTERS" = some (.int 8 t)
 Zts:∃t,mg "MOST_PARTS" = some (.int 6 t)
 Zua:∃t,mg "MOST_WANTS" = some (.int 20 t)
 Ztr:∃t,mg "MOST_WARES" = some (.int 12 t)
 Zu5:∃t,mg "NAME" = some (.int 0 t)
 Ztk:∃t,mg "PARTS" = some (.int 6 t)
 Zsy:∃t,mg "PRICE" = some (.int 1 t)
 Ztf:∃t,mg "SETUP" = some (.int 0 t)
 Ztp:∃t,mg "SHOP_ROW" = some (.str "shop\n" t)
 Zsx:∃t,mg "STOCK" = some (.int 4 t)
 Zu9:∃t,mg "WANT_AMOUNT" = some (.int 2 t)
 Ztz:∃t,mg "WANT_DAY" = some (.int 1 t)
 Ztv:∃t,mg "WANT_NAME" = some (.int 0 t)
structure Dk where
 (C fi ft:Addr)
structure Dsk(K:Zzy)(mg:Str->Option Value)(d:Dk):Prop where
 c:Cls K d.C
 nk:BX K d.C "kept"
 mt:A2l K d.C "tell" d.ft
 me:Mk K d.C d.fi
 md:mg "Desk" = some (.ref d.C)
structure Cl where
 NeedError:Addr
 NoText:Addr
 NoShop:Addr
 Ring:Addr
 NoName:Addr
 NoDay:Addr
 NoBuy:Addr
 NoPlan:Addr
inductive Ek
 |text | shop | ring | name | day | buy | plan
def Cl.ek(c:Cl):Ek->Addr
 |.text=>c.NoText
 |.shop=>c.NoShop
 |.ring=>c.Ring
 |.name=>c.NoName
 |.day=>c.NoDay
 |.buy=>c.NoBuy
 |.plan=>c.NoPlan
def Ek.ix:Ek->Nat
 |.text=>0
 |.shop=>1
 |.ring=>2
 |.name=>3
 |.day=>4
 |.buy=>5
 |.plan=>6
def Xf(K:Zzy)(c:Cl):Prop:=∀e:Ek,yx K (c.ek e)=true/\S4 K (c.ek e)/\exmOne K (.ref (c.ek e)) (.ref c.NeedError)=some true/\kitOne K (.ref (c.ek e)) (.type "ValueError")=some true/\∀f:Ek,kitOne K (.ref (c.ek e)) (.ref (c.ek f))=some (decide (e.ix=f.ix))
structure Exc(K:Zzy)(mg:Str->Option Value)(c:Cl):Prop where
 Zr6:mg "NeedError" = some (.ref c.NeedError)
 Zte:mg "NoText" = some (.ref c.NoText)
 Zs9:mg "NoShop" = some (.ref c.NoShop)
 Zr3:mg "Ring" = some (.ref c.Ring)
 Zrc:mg "NoName" = some (.ref c.NoName)
 Zrk:mg "NoDay" = some (.ref c.NoDay)
 Zr5:mg "NoBuy" = some (.ref c.NoBuy)
 Zrb:mg "NoPlan" = some (.ref c.NoPlan)
 ex:Xf K c
def lamP:Pos:=⟨141,38,141,65⟩
noncomputable def lamQ:Str:=("worked" : Str) ++ ".<locals>." ++ "<lambda>"
def Tb(H:L2.Hp)(Pt:Addr):Prop:=L2.BR H Pt lamP lamQ
inductive D9 (K:Zzy) (l:List (Str×Tok×Addr)) (x:Str) (fs:List Str):Prop | mk (a:Addr) (tl:List (Str×Tok)) (_:Ey l x=.ref a) (_:ES K a tl) (_:tl.map (·.1)=fs)
inductive Rws (w:World) (K:Zzy) (mg:Str->Option Value):Prop | mk (a:Addr) (l:List (Str×Tok×Addr)) (_:mg "ROWS" = some (.ref a)) (_:DQ w K a l) (_:D9 K l "ware" ["name", "number", "number", "number", "number"]) (_:D9 K l "coming" ["name", "number", "number"]) (_:D9 K l "part" ["name", "name", "number"]) (_:D9 K l "want" ["name", "number", "number"]) (_:l.map (·.1)=(["ware", "coming", "part", "want"]:List Str))
inductive Fms (w:World) (K:Zzy) (mg:Str->Option Value):Prop | mk (a:Addr) (l:List (Str×Tok×Addr)) (_:mg "FORMS" = some (.ref a)) (_:DQ w K a l) (_:D9 K l "want" ["name", "day", "number"]) (_:D9 K l "drop" ["place"]) (_:D9 K l "plan" []) (_:D9 K l "late" []) (_:D9 K l "most" ["name", "day"]) (_:D9 K l "stock" ["name"]) (_:D9 K l "serves" ["name", "day"]) (_:D9 K l "buy" ["name", "number", "number", "number"]) (_:l.map (·.1)=(["want", "drop", "plan", "late", "most", "stock", "serves", "buy"]:List Str))
noncomputable def AU:List Nat:=("abcdefghijklmnopqrstuvwxyz" : Str).cps.toList
def Al(x:Str):Bool:=decide (1<=x.length)&&decide (x.length<=8)&&x.cps.toList.all λc=>decide (c∈AU)
noncomputable def A2g(w:Wr):Prop:=(0<=w.lag/\w.lag<=30)/\(1<=w.gives/\w.gives<=100)/\(0<=w.floor/\w.floor<=100)/\(0<=w.stock/\w.stock<=10^42)/\w.parts.length<=6/\(∀p∈w.parts,1<=p.2/\p.2<=100)/\(w.parts.map (·.1)).Nodup/\w.coming.length<=12/\∀c∈w.coming,(0<=c.1/\c.1<11)/\0<=c.2/\c.2<10^41
structure SD(S:Sh):Prop where
 n:1<=S.wares.length/\S.wares.length<=12
 nm:∀w∈S.wares,Al w.name=true
 nd:(S.wares.map (·.name)).Nodup
 wb:∀w∈S.wares,A2g w
 own:∀w∈S.wares,∀p∈w.parts,p.1∈S.wares.map (·.name)
 un:S.wants.length<=20
 us:∀u∈S.wants,u.1∈S.wares.map (·.name)/\(0<=u.2.1/\u.2.1<=400)/\0<=u.2.2/\u.2.2<10^41
structure SD0(S:Sh):Prop where
 n:1<=S.wares.length/\S.wares.length<=12
 wv:∀w∈S.wares,Al w.name=true/\A2g w/\∀p∈w.parts,Al p.1=true
 un:S.wants.length<=20
 us:∀u∈S.wants,Al u.1=true/\(0<=u.2.1/\u.2.1<=400)/\0<=u.2.2/\u.2.2<10^41
theorem SD.named(sd:SD S)(h:x∈S.wares.map (·.name)):Al x=true:=by
 let⟨w,hw,rfl⟩:=Zzt.mp h;exact sd.nm w hw
theorem SD.weak(sd:SD S):SD0 S:=⟨sd.n,λw hw=>⟨sd.nm w hw,sd.wb w hw,λp hp=>sd.named (sd.own w hw p hp)⟩,sd.un,λu hu=>⟨sd.named (sd.us u hu).1,(sd.us u hu).2.1,(sd.us u hu).2.2⟩⟩
section
variable {dk:Dk}{c:Cl}
inductive DJ (vs:List V) (H:Hp) (Q:VK) (E:XK):Prop | mk (i:_) (_:vs=[.int i]) (_:Q (.bl true) H)
theorem Y5(F:Fun K "is_whole" "is_whole" Q6 f fd)(T:Txt mg)(C:Exc K mg c):Aq P w K mg base CX0 1 f fd ["found"] DJ:=by
 refine F.go ["found"] ?_ ?_ ?_;walk_at "f";let⟨i,rfl,k⟩:=h;refine⟨_,(A3 (Ad (D3 (Ah Cu rfl T.Zuo Aw (A2 (pv 0) (A2 (Fy (v:=.ty "int") rfl T.Zrf Wv rfl) A0))) (E9 (A1o (Ah Cu rfl T.Zuo Aw (A2 (pv 0) (A2 (Fy (v:=.ty "bool") rfl T.Zr1 ze rfl) A0)))))))),?_⟩;walk_at "rd";refine⟨_,rfl,?_⟩;rw[GE (by decide)];exact⟨_,rfl,k⟩
inductive BC (vs:List V) (H:Hp) (Q:VK) (E:XK):Prop | mk (i n:_) (_:vs=[.int i,.int n]) (_:n<=i) (_:Q (.bl true) H)
theorem ao(F:Fun K "is_from" "is_from" U1 f fd)(T:Txt mg)(C:Exc K mg c)(Zs8:Has P w K mg base "is_whole" 1 ["found"] DJ):Aq P w K mg base CX0 2 f fd ["found", "least"] BC:=by
 refine F.go ["found", "least"] ?_ ?_ ?_;walk_at "f";let⟨i,n,rfl,h1,k⟩:=h;refine⟨_,(A3 (Ad (D3 (A9 Zs8 hr.z rfl (A2 (pv 0) A0)) (E9 (Bt Xv (pv 0) (pv 1) (Ak _)))))),?_⟩;walk_at "rd";refine⟨i,rfl,?_⟩;walk_at "rd";rw[GB h1];exact k
inductive BG (vs:List V) (H:Hp) (Q:VK) (E:XK):Prop | mk (i n m:_) (_:vs=[.int i,.int n,.int m]) (_:n<=i) (_:i<=m) (_:Q (.bl true) H)
theorem Sd(F:Fun K "is_between" "is_between" Lj f fd)(T:Txt mg)(C:Exc K mg c)(Zum:Has P w K mg base "is_from" 2 ["found", "least"] BC):Aq P w K mg base CX0 3 f fd ["found", "least", "most"] BG:=by
 refine F.go ["found", "least", "most"] ?_ ?_ ?_;walk_at "f";let⟨i,n,m,rfl,h1,h2,k⟩:=h;refine⟨_,(A3 (Ad (D3 (A9 Zum hr.z rfl (A2 (pv 0) (A2 (pv 1) A0))) (E9 (Bt Lr (pv 0) (pv 2) (Ak _)))))),?_⟩;walk_at "rd";refine⟨i,n,rfl,h1,?_⟩;walk_at "rd";rw[GB h2];exact k
inductive AR (vs:List V) (H:Hp) (Q:VK) (E:XK):Prop | mk (a xs n m:_) (_:vs=[.ref a,.int n,.int m]) (_:H a=some (.tup xs)) (_:n<=(xs.length:Nat)) (_:((xs.length:Nat):Int)<=m) (_:Q (.bl true) H)
theorem Y6(F:Fun K "is_tuple" "is_tuple" Q7 f fd)(T:Txt mg)(C:Exc K mg c):Aq P w K mg base CX0 1 f fd ["found", "least", "most"] AR:=by
 refine F.go ["found", "least", "most"] ?_ ?_ ?_;walk_at "f";let⟨a,xs,n,m,rfl,ha,h1,h2,k⟩:=h;refine⟨_,(A3 (Ad (D3 (Ah Cu rfl T.Zuo Aw (A2 (pv 0) (A2 (Fy (v:=.ty "tuple") rfl T.Ztw Ds rfl) A0))) (E9 (oh Lr Lr (pv 1) (Ah BL rfl T.Zu7 D8 (A2 (pv 0) A0)) (pv 2)))))),?_⟩;walk_at "rd";refine⟨_,A0w ha,?_⟩;rw[GE (by decide)];refine .inl ⟨_,.inr ha,?_⟩;rw[GE (GB h1),GB h2];exact k
def BM:Sp:=λvs H Q _=>(∃x,vs=[.str x]/\Al x=true/\∀H',AB H H'->Q (.bl true) H')\/(vs=[.str "A"]/\∀H',AB H H'->Q (.bl false) H')
theorem fg(h:Al x=true):1<=x.length/\x.length<=8/\∀c∈x.cps.toList,c∈AU:=by
 unfold Al at h;simp only[Zz1,decide_eq_true_eq,Zyv] at h;exact⟨h.1.1,h.1.2,h.2⟩
theorem Hq{α:Type}(xs:List α):(xs.map λ_=>true).all id=true:=by
 rw[Zyv];intro x hx;let⟨y,_,rfl⟩:=Zzt.mp hx;rfl
theorem am(F:Fun K "is_name" "is_name" U0 f fd)(T:Txt mg)(C:Exc K mg c):Aq P w K mg base CX0 1 f fd ["found"] BM:=by
 refine F.go ["found"] ?_ ?_ ?_;walk_at "f";have hu:=Ao hr;rcases h with ⟨x,rfl,hx,k⟩ | ⟨rfl,k⟩
 rotate_left
 ·refine⟨_,(A1 (As (PW.pt (E8 (B1 (B5 (Ah Cu rfl T.Zuo Aw (A2 (pv 0) (A2 (Fy (v:=.ty "str") rfl T.Zt1 Ii rfl) A0))))) (D1 (B1 (Qi Lr Lr A5 (Ah BL rfl T.Zu7 D8 (A2 (pv 0) A0)) (Af rfl T.Zuc)))))) (A3 (Ad Di)) Ai)
 (A3 (Ad (Ah (Dr rfl) rfl T.Zt7 He (A2 (Bs (own:=["sign"]) (cap:=[]) rfl (Cf rfl) (Av (by decide)) (G9 (pv 0))
 (λ_ _ _ _ _ _=>⟨(Ax (i:=0) (GA rfl) rfl (Zyr rfl) (.inr rfl)),Bi,(Bt (Kt hu) (pv 0) (Jf rfl T.Ztm) rfl)⟩)) A0))))),?_⟩
  walk_at "rd";refine⟨_,rfl,?_⟩;rw[GD (by decide)];refine⟨by decide,?_⟩;rw[GE (by decide),GD (by decide)];refine By (sh "A") (by decide) (λ_ _=>trivial) [.bl false] (by decide) (λi y H' hi hy s' N M hN=>?_) (λH' s' p hp=>?_)
  ·let⟨c,hc,rfl⟩:=hy;have hi:i<1:=hi;obtain rfl:i=0:=by lia
   cases hc;walk_at "rd";refine⟨_,.inr (.inl ⟨_,_,rfl,rfl,rfl⟩),?_⟩;rw[StrLaws.found_one];exact hN _ _ s' (by decide +kernel)
  ·exact⟨p,rfl,[false],AA,k _ (s'.trans (A7 hp))⟩
 let⟨h1,h2,h3⟩:=fg hx;refine⟨_,(A1 (As (PW.pt (E8 (B1 (B5 (Ah Cu rfl T.Zuo Aw (A2 (pv 0) (A2 (Fy (v:=.ty "str") rfl T.Zt1 Ii rfl) A0))))) (D1 (B1 (Qi Lr Lr A5 (Ah BL rfl T.Zu7 D8 (A2 (pv 0) A0)) (Af rfl T.Zuc)))))) (A3 (Ad Di)) Ai)
 (A3 (Ad (Ah (Dr rfl) rfl T.Zt7 He (A2 (Bs (own:=["sign"]) (cap:=[]) rfl (Cf rfl) (Av (by decide)) (G9 (pv 0))
 (λ_ _ _ _ _ _=>⟨(Ax (i:=0) (GA rfl) rfl (Zyr rfl) (.inr rfl)),Bi,(Bt (Kt hu) (pv 0) (Jf rfl T.Ztm) rfl)⟩)) A0))))),?_⟩
 walk_at "rd";refine⟨_,rfl,?_⟩;rw[GD (by decide)];refine⟨Am (by lia),?_⟩;rw[GE (GB (by lia)),GD (by rw[GB (by lia)];decide)];refine By (sh x) (Am (Zzp h2 (by decide))) (λ_ _=>trivial) ((x.cps.toList.map λ_=>true).map V.bl) (by simp) (λi y H' hi hy s' N M hN=>?_) (λH' s' p hp=>?_)
 ·let⟨c,hc,rfl⟩:=hy;rw[<- Zwe] at hc;walk_at "rd";refine⟨_,.inr (.inl ⟨_,_,rfl,rfl,rfl⟩),?_⟩;rw[StrLaws.found_one,show decide (c∈(Str.ofString "abcdefghijklmnopqrstuvwxyz").cps.toList)=true from GB (h3 c (Zzn hc))];exact hN _ _ s' (by rw[Zzx,Zzx,hc];rfl)
 ·refine⟨p,rfl,_,AA,?_⟩;rw[Hq];exact k _ (s'.trans (A7 hp))
inductive BU (vs:List V) (H:Hp) (Q:VK) (E:XK):Prop | mk (a:Addr) (xs:List Str) (_:vs=[.ref a]) (_:H a=some (.lst (xs.map V.str))) (_:xs.length<=1000) (_:∀H',AB H H'->Q (.bl (decide xs.Nodup)) H')
theorem ox(xs:List Str):(xs.map λz=>decide (((xs.count z:Nat):Int)=1)).all id=decide xs.Nodup:=by
 rw[Zvw,Zw3,Zyv,decide_eq_true_eq,List.nodup_iff_count];refine⟨λh z=>?_,λh z hz=>GB ?_⟩
 ·by_cases hz:z∈xs
  ·have:=GA (h z hz)
   lia
  ·rw[List.count_eq_zero_of_not_mem hz];decide
 ·have h1:=h z
  have h2:=List.count_pos_iff.mpr hz;lia
theorem Si(F:Fun K "are_unlike" "are_unlike" Lm f fd)(T:Txt mg)(C:Exc K mg c):Aq P w K mg base CX0 1 f fd ["names"] BU:=by
 refine F.go ["names"] ?_ ?_ ?_;walk_at "f";let⟨a,xs,rfl,ha,hx,k⟩:=h;have hu:=Ao hr;refine⟨_,(A3 (Ad (Ah (Dr rfl) rfl T.Zt7 He (A2 (Bs (own:=["name"]) (cap:=[0]) rfl (Cf rfl) (Av (by decide)) (Dl (pv 0))
 (λ_ _ _ _ _ _=>⟨(Ax (i:=0) (GA rfl) rfl (Zyr rfl) (.inr rfl)),Bi,(Bt (Bd hu) (D2 Zyw PySem.F.slot_list_count PySem.F.type_list_count qd (pv 1) (A2 (pv 0) A0)) A5 (Ak _))⟩)) A0)))),?_⟩
 walk_at "rd";refine⟨_,ha,?_⟩;refine By (Ec a _) (by rw[Zzz];exact Am hx) (λH' s'=>s' _ _ ha) ((xs.map λz=>decide (((xs.count z:Nat):Int)=1)).map V.bl) (by simp) (λi y H' hi hy s' N M hN=>?_) (λH' s' p hp=>?_)
 ·rw[Zzx] at hy;cases e:xs[i]? with
  |none=>rw[e] at hy;cases hy
  |some z =>
   rw[e] at hy;cases hy;walk_at "rd";have ha':=s' _ _ ha;refine⟨by unfold Ps;simp only[ha'],_,ha',rfl,by simp[Gf],rfl,hN _ _ s' ?_⟩;rw[Zzx,Zzx,e];show some (V.bl _)=some (V.bl _);congr 2;rw[List.countP_map];rfl
 ·refine⟨p,rfl,_,AA,?_⟩;rw[ox];exact k _ (s'.trans (A7 hp))
theorem Wz{Q:VK}(ha:H a=some (.tup xs))(hz:xs.length<=1000)
  (hs:∀(i:Nat) x H',xs[i]?=some x->AB H H'->∀N:V->Hp->Prop,(∀H4,AB H' H4->N (.bl true) H4)->te ((Gh own cap σ).set 0 (some x)) H' N)
  (hd:∀a' H',AB H H'->H' a'=some (.lst ((xs.map λ_=>true).map V.bl))->Q (.ref a') H'):Ze (ItT a xs) own cap (E3 0) tYes te σ H Q:=by
 refine By (Fv a xs) (Am hz) (λH' s'=>s' _ _ ha) ((xs.map λ_=>true).map V.bl) (by simp) (λi y H' hi hy s' N M hN=>?_) (λH' s' q hq=>?_)
 ·show if true=true then te _ H' N else M H'
  rw[GE rfl];refine hs i y H' hy s' N λH4 s4=>hN _ _ (s'.trans s4) ?_;rw[Zzx,Zzx,hy];rfl
 ·exact hd q _ (s'.trans (A7 hq)) AA
inductive CQ (vs:List V) (H:Hp) (Q:VK) (E:XK):Prop | mk (a:Addr) (c:Int×Int) (_:vs=[.ref a]) (_:H a=some (.tup [.int c.1,.int c.2])) (_:(0<=c.1/\c.1<=400)) (_:0<=c.2) (_:Q (.bl true) H)
theorem Se(F:Fun K "is_arrival" "is_arrival" Lk f fd)(T:Txt mg)(C:Exc K mg c)(Zum:Has P w K mg base "is_from" 2 ["found", "least"] BC)(Zuh:Has P w K mg base "is_between" 3 ["found", "least", "most"] BG)(Zup:Has P w K mg base "is_tuple" 1 ["found", "least", "most"] AR):Aq P w K mg base CX0 4 f fd ["found"] CQ:=by
 refine F.go ["found"] ?_ ?_ ?_;walk_at "f";let⟨a,c,rfl,ha,h1,h2,k⟩:=h;have hu:=Ao hr;refine⟨_,(A3 (Ad (D3 (A9 Zup hr.z rfl (A2 (pv 0) (A2 A5 (A2 A5 A0)))) (D3 (A9 Zuh hr.z rfl (A2 (Ac hu (pv 0) A5) (A2 A5 (A2 (Af rfl T.Zu6) A0)))) (E9 (A9 Zum hr.z rfl (A2 (Ac hu (pv 0) A5) (A2 A5 A0)))))))),?_⟩;walk_at "rd";refine⟨a,_,2,2,rfl,ha,Zz5 _,Zz5 _,_,rfl,?_⟩;rw[GE rfl];refine⟨_,Ag (j:=0) ha rfl,c.1,0,400,rfl,h1.1,h1.2,_,rfl,?_⟩;rw[GE rfl];exact⟨_,Ag (j:=1) ha rfl,c.2,0,rfl,h2,k⟩
inductive CF (vs:List V) (H:Hp) (Q:VK) (E:XK):Prop | mk (v:V) (cs:List (Int×Int)) (_:vs=[v]) (_:RD H (.tuple (cs.map Z9)) v) (_:cs.length<=12) (_:(∀c∈cs,(0<=c.1/\c.1<=400)/\0<=c.2)) (_:∀H',AB H H'->Q (.bl true) H')
theorem P0(F:Fun K "are_arrivals" "are_arrivals" Jb f fd)(T:Txt mg)(C:Exc K mg c)(Zsw:Has P w K mg base "is_arrival" 4 ["found"] CQ)(Zup:Has P w K mg base "is_tuple" 1 ["found", "least", "most"] AR):Aq P w K mg base CX0 5 f fd ["found"] CF:=by
 refine F.go ["found"] ?_ ?_ ?_;walk_at "f";let⟨v,cs,rfl,rv,hl,ok,k⟩:=h;have hu:=Ao hr;let⟨a,xs,rfl,ha,rx⟩:=RD.tup_of rv;have hx:=B8 rx;refine⟨_,(A3 (Ad (D3 (A9 Zup hr.z rfl (A2 (pv 0) (A2 A5 (A2 (Af rfl T.Ztx) A0)))) (E9 (Ah (Dr rfl) rfl T.Zt7 He (A2 (Bs (own:=["arrival"]) (cap:=[]) rfl (Cf rfl) (Av (by decide)) (G9 (pv 0))
 (λ_ _ _ _ _ _=>⟨(Ax (i:=0) (GA rfl) rfl (Zyr rfl) (.inr rfl)),Bi,(A9 Zsw hr.z rfl (A2 (pv 0) A0))⟩)) A0)))))),?_⟩
 walk_at "rd";refine⟨a,_,0,12,rfl,ha,by lia,by lia,_,rfl,?_⟩;rw[GE rfl];refine .inr ⟨xs,ha,Wz ha (by lia) (λi x H' hx s' N hN=>?_) λa' H' s' ha'=>⟨a',rfl,_,ha',?_⟩⟩
 ·let⟨c,ec,rc⟩:=Bl rx hx;let⟨ca,rfl,hca⟩:=ur rc;have o:=ok c (Zzn ec);walk_at "rd";exact⟨ca,c,rfl,s' _ _ hca,o.1,o.2,hN _ (AB.refl _)⟩
 ·rw[Hq];exact k _ s'
inductive DR (vs:List V) (H:Hp) (Q:VK) (E:XK):Prop | mk (a:Addr) (c:Str×Int) (_:vs=[.ref a]) (_:H a=some (.tup [.str c.1,.int c.2])) (_:Al c.1=true) (_:1<=c.2) (_:∀H',AB H H'->Q (.bl true) H')
theorem ak(F:Fun K "is_part" "is_part" Tz f fd)(T:Txt mg)(C:Exc K mg c)(Zum:Has P w K mg base "is_from" 2 ["found", "least"] BC)(Zuf:Has P w K mg base "is_name" 1 ["found"] BM)(Zup:Has P w K mg base "is_tuple" 1 ["found", "least", "most"] AR):Aq P w K mg base CX0 3 f fd ["found"] DR:=by
 refine F.go ["found"] ?_ ?_ ?_;walk_at "f";let⟨a,c,rfl,ha,h1,h2,k⟩:=h;have hu:=Ao hr;refine⟨_,(A3 (Ad (D3 (A9 Zup hr.z rfl (A2 (pv 0) (A2 A5 (A2 A5 A0)))) (D3 (A9 Zuf hr.z rfl (A2 (Ac hu (pv 0) A5) A0)) (E9 (A9 Zum hr.z rfl (A2 (Ac hu (pv 0) A5) (A2 A5 A0)))))))),?_⟩;walk_at "rd";refine⟨a,_,2,2,rfl,ha,Zz5 _,Zz5 _,_,rfl,?_⟩;rw[GE rfl];refine⟨_,Ag (j:=0) ha rfl,.inl ⟨c.1,rfl,h1,λH1 s1=>⟨_,rfl,?_⟩⟩⟩;rw[GE rfl];exact⟨_,Ag (j:=1) (s1 _ _ ha) rfl,c.2,1,rfl,h2,k H1 s1⟩
inductive CW (vs:List V) (H:Hp) (Q:VK) (E:XK):Prop | mk (v:V) (cs:List (Str×Int)) (_:vs=[v]) (_:RD H (.tuple (cs.map Of)) v) (_:cs.length<=6) (_:(∀c∈cs,Al c.1=true/\1<=c.2)) (_:(cs.map (·.1)).Nodup) (_:∀H',AB H H'->Q (.bl true) H')
theorem Vw(F:Fun K "are_parts" "are_parts" Od f fd)(T:Txt mg)(C:Exc K mg c)(Zs2:Has P w K mg base "is_part" 3 ["found"] DR)(Zup:Has P w K mg base "is_tuple" 1 ["found", "least", "most"] AR)(Zu1:Has P w K mg base "are_unlike" 1 ["names"] BU):Aq P w K mg base CX0 4 f fd ["found"] CW:=by
 refine F.go ["found"] ?_ ?_ ?_;walk_at "f";let⟨v,cs,rfl,rv,hl,ok,nd,k⟩:=h;have hu:=Ao hr;let⟨a,xs,rfl,ha,rx⟩:=RD.tup_of rv;have hx:=B8 rx;refine⟨_,(A1 (As (PW.pt (E8 (B1 (B5 (A9 Zup hr.z rfl (A2 (pv 0) (A2 A5 (A2 (Af rfl T.Zts) A0)))))) (D1 (B1 (B5 (Ah (Dr rfl) rfl T.Zt7 He (A2 (Bs (own:=["part"]) (cap:=[]) rfl (Cf rfl) (Av (by decide)) (G9 (pv 0))
 (λ_ _ _ _ _ _=>⟨(Ax (i:=0) (GA rfl) rfl (Zyr rfl) (.inr rfl)),Bi,(A9 Zs2 hr.z rfl (A2 (pv 0) A0))⟩)) A0))))))) (A3 (Ad Di)) Ai)
 (A3 (Ad (A9 Zu1 hr.z rfl (A2 (Bs (own:=["part"]) (cap:=[]) rfl (Cf rfl) (Av (by decide)) (G9 (pv 0))
 (λ_ _ _ _ _ _=>⟨(Ax (i:=0) (GA rfl) rfl (Zyr rfl) (.inr rfl)),Bi,(Ac hu (pv 0) A5)⟩)) A0))))),?_⟩
 walk_at "rd";refine⟨a,_,0,6,rfl,ha,by lia,by lia,_,rfl,?_⟩;rw[GD (by decide)];refine .inr ⟨xs,ha,Wz ha (by lia) (λi x H' hx s' N hN=>?_) λa' H2 s2 ha'=>⟨a',rfl,_,ha',?_⟩⟩
 ·let⟨c,ec,rc⟩:=Bl rx hx;let⟨ca,rfl,hca⟩:=Pb rc;have o:=ok c (Zzn ec);walk_at "rd";exact⟨ca,c,rfl,s' _ _ hca,o.1,o.2,hN⟩
 ·rw[Hq,GD (by decide)];have ha2:=s2 _ _ ha;refine .inr ⟨xs,ha2,?_⟩;refine By (Fv a xs) (Am (by lia)) (λH' s'=>s' _ _ ha2) ((cs.map (·.1)).map V.str) (by simp[hx]) (λi y H' hi hy s' N M hN=>?_) (λH' s' q hq=>?_)
  ·let⟨c,ec,rc⟩:=Bl rx hy;let⟨ca,rfl,hca⟩:=Pb rc;walk_at "rd";exact⟨_,Ag (j:=0) (s' _ _ (s2 _ _ hca)) rfl,hN _ _ s' (by rw[Zzx,Zzx,ec];rfl)⟩
  ·exact⟨q,_,rfl,AA,by rw[Zzz];lia,λH5 s5=>by rw[GB nd];exact k H5 (s2.trans (s'.trans ((A7 hq).trans s5)))⟩
def WV(w:Wr):Prop:=Al w.name=true/\A2g w/\∀p∈w.parts,Al p.1=true
inductive DS (vs:List V) (H:Hp) (Q:VK) (E:XK):Prop | mk (v:V) (w:Wr) (_:vs=[v]) (_:RD H w.d v) (_:WV w) (_:∀H',AB H H'->Q (.bl true) H')
theorem ah(F:Fun K "is_ware" "is_ware" Tw f fd)(T:Txt mg)(C:Exc K mg c)(Zup:Has P w K mg base "is_tuple" 1 ["found", "least", "most"] AR)(Zum:Has P w K mg base "is_from" 2 ["found", "least"] BC)(Zuh:Has P w K mg base "is_between" 3 ["found", "least", "most"] BG)(Zuf:Has P w K mg base "is_name" 1 ["found"] BM)(Zso:Has P w K mg base "are_parts" 4 ["found"] CW)(Ztd:Has P w K mg base "are_arrivals" 5 ["found"] CF):Aq P w K mg base CX0 6 f fd ["found"] DS:=by
 refine F.go ["found"] ?_ ?_ ?_;walk_at "f";let⟨v,wr,rfl,rv,⟨hn,⟨h1,h2,h3,h4,h5,h6,h7,h8,h9⟩,hp⟩,k⟩:=h;have hu:=Ao hr;let⟨a,c,p,rfl,ha,rc,rp⟩:=Ck rv;refine⟨_,(A1 (As (B1 (B5 (A9 Zup hr.z rfl (A2 (pv 0) (A2 (Af rfl T.Ztl) (A2 (Af rfl T.Ztl) A0)))))) (A3 (Ad Di)) Ai)
 (A1 (As (PW.pt (E8 (B1 (B5 (A9 Zuf hr.z rfl (A2 (Ac hu (pv 0) (Af rfl T.Zu5)) A0)))) (E8 (B1 (B5 (A9 Zuh hr.z rfl (A2 (Ac hu (pv 0) (Af rfl T.Zt5)) (A2 A5 (A2 (Af rfl T.Ztj) A0)))))) (D1 (B1 (B5 (A9 Zum hr.z rfl (A2 (Ac hu (pv 0) (Af rfl T.Ztn)) (A2 A5 A0))))))))) (A3 (Ad Di)) Ai)
 (A1 (As (PW.pt (E8 (B1 (B5 (A9 Zum hr.z rfl (A2 (Ac hu (pv 0) (Af rfl T.Zsz)) (A2 A5 A0))))) (D1 (B1 (B5 (A9 Zum hr.z rfl (A2 (Ac hu (pv 0) (Af rfl T.Zsx)) (A2 A5 A0)))))))) (A3 (Ad Di)) Ai)
 (A3 (Ad (D3 (A9 Ztd hr.z rfl (A2 (Ac hu (pv 0) (Af rfl T.Ztg)) A0)) (E9 (A9 Zso hr.z rfl (A2 (Ac hu (pv 0) (Af rfl T.Ztk)) A0))))))))),?_⟩
 walk_at "rd";refine⟨a,_,7,7,rfl,ha,Zz5 _,Zz5 _,_,rfl,?_⟩;rw[GD (by decide)];refine⟨_,Ag (j:=0) ha rfl,.inl ⟨_,rfl,hn,λH1 s1=>⟨_,rfl,?_⟩⟩⟩;have ha:=s1 _ _ ha;rw[GD (by decide)];refine⟨_,Ag (j:=1) ha rfl,_,0,30,rfl,h1.1,h1.2,_,rfl,?_⟩;rw[GD (by decide)];refine⟨_,Ag (j:=2) ha rfl,_,1,rfl,h2.1,_,rfl,?_⟩;rw[GD (by decide)];refine⟨_,Ag (j:=3) ha rfl,_,0,rfl,h3.1,_,rfl,?_⟩;rw[GD (by decide)];refine⟨_,Ag (j:=4) ha rfl,_,0,rfl,h4.1,_,rfl,?_⟩;rw[GD (by decide)];refine⟨_,Ag (j:=5) ha rfl,_,_,rfl,RD.same s1 _ _ rc,h8,λc hc=>⟨⟨(h9 c hc).1.1,by have:=(h9 c hc).1.2;lia⟩,(h9 c hc).2.1⟩,λH2 s2=>⟨_,rfl,?_⟩⟩;rw[GE rfl];exact⟨_,Ag (j:=6) (s2 _ _ ha) rfl,_,_,rfl,RD.same (s1.trans s2) _ _ rp,h5,λc hc=>⟨hp c hc,(h6 c hc).1⟩,h7,λH3 s3=>k H3 ((s1.trans s2).trans s3)⟩
inductive CY (vs:List V) (H:Hp) (Q:VK) (E:XK):Prop | mk (v:V) (cs:List Wr) (_:vs=[v]) (_:RD H (.tuple (cs.map Wr.d)) v) (_:(1<=cs.length/\cs.length<=12)) (_:(∀c∈cs,WV c)) (_:∀H',AB H H'->Q (.bl (decide (cs.map (·.name)).Nodup)) H')
theorem Vu(F:Fun K "are_wares" "are_wares" Ob f fd)(T:Txt mg)(C:Exc K mg c)(Zs1:Has P w K mg base "is_ware" 6 ["found"] DS)(Zup:Has P w K mg base "is_tuple" 1 ["found", "least", "most"] AR)(Zu1:Has P w K mg base "are_unlike" 1 ["names"] BU):Aq P w K mg base CX0 7 f fd ["found"] CY:=by
 refine F.go ["found"] ?_ ?_ ?_;walk_at "f";let⟨v,cs,rfl,rv,hl,ok,k⟩:=h;have hu:=Ao hr;let⟨a,xs,rfl,ha,rx⟩:=RD.tup_of rv;have hx:=B8 rx;refine⟨_,(A1 (As (PW.pt (E8 (B1 (B5 (A9 Zup hr.z rfl (A2 (pv 0) (A2 A5 (A2 (Af rfl T.Ztr) A0)))))) (D1 (B1 (B5 (Ah (Dr rfl) rfl T.Zt7 He (A2 (Bs (own:=["ware"]) (cap:=[]) rfl (Cf rfl) (Av (by decide)) (G9 (pv 0))
 (λ_ _ _ _ _ _=>⟨(Ax (i:=0) (GA rfl) rfl (Zyr rfl) (.inr rfl)),Bi,(A9 Zs1 hr.z rfl (A2 (pv 0) A0))⟩)) A0))))))) (A3 (Ad Di)) Ai)
 (A3 (Ad (A9 Zu1 hr.z rfl (A2 (Bs (own:=["ware"]) (cap:=[]) rfl (Cf rfl) (Av (by decide)) (G9 (pv 0))
 (λ_ _ _ _ _ _=>⟨(Ax (i:=0) (GA rfl) rfl (Zyr rfl) (.inr rfl)),Bi,(Ac hu (pv 0) (Af rfl T.Zu5))⟩)) A0))))),?_⟩
 walk_at "rd";refine⟨a,_,1,12,rfl,ha,by lia,by lia,_,rfl,?_⟩;rw[GD (by decide)];refine .inr ⟨xs,ha,Wz ha (by lia) (λi x H' hx s' N hN=>?_) λa' H2 s2 ha'=>⟨a',rfl,_,ha',?_⟩⟩
 ·let⟨c,ec,rc⟩:=Bl rx hx;walk_at "rd";exact⟨x,c,rfl,RD.same s' _ _ rc,ok c (Zzn ec),hN⟩
 ·rw[Hq,GD (by decide)];have ha2:=s2 _ _ ha;refine .inr ⟨xs,ha2,?_⟩;refine By (Fv a xs) (Am (by lia)) (λH' s'=>s' _ _ ha2) ((cs.map (·.name)).map V.str) (by simp[hx]) (λi y H' hi hy s' N M hN=>?_) (λH' s' q hq=>?_)
  ·let⟨c,ec,rc⟩:=Bl rx hy;let⟨ca,_,_,rfl,hca,_⟩:=Ck rc;walk_at "rd";exact⟨_,Ag (j:=0) (s' _ _ (s2 _ _ hca)) rfl,hN _ _ s' (by rw[Zzx,Zzx,ec];rfl)⟩
  ·exact⟨q,_,rfl,AA,by rw[Zzz];lia,λH5 s5=>k H5 (s2.trans (s'.trans ((A7 hq).trans s5)))⟩
inductive DT (vs:List V) (H:Hp) (Q:VK) (E:XK):Prop | mk (a:Addr) (u:Wt) (_:vs=[.ref a]) (_:H a=some (.tup [.str u.1,.int u.2.1,.int u.2.2])) (_:Al u.1=true) (_:(0<=u.2.1/\u.2.1<=400)) (_:0<=u.2.2) (_:∀H',AB H H'->Q (.bl true) H')
theorem ai(F:Fun K "is_want" "is_want" Tx f fd)(T:Txt mg)(C:Exc K mg c)(Zup:Has P w K mg base "is_tuple" 1 ["found", "least", "most"] AR)(Zum:Has P w K mg base "is_from" 2 ["found", "least"] BC)(Zuh:Has P w K mg base "is_between" 3 ["found", "least", "most"] BG)(Zuf:Has P w K mg base "is_name" 1 ["found"] BM):Aq P w K mg base CX0 4 f fd ["found"] DT:=by
 refine F.go ["found"] ?_ ?_ ?_;walk_at "f";let⟨a,c,rfl,ha,h1,h2,h3,k⟩:=h;have hu:=Ao hr;refine⟨_,(A1 (As (B1 (B5 (A9 Zup hr.z rfl (A2 (pv 0) (A2 A5 (A2 A5 A0)))))) (A3 (Ad Di)) Ai)
 (A3 (Ad (D3 (A9 Zuf hr.z rfl (A2 (Ac hu (pv 0) A5) A0)) (D3 (A9 Zuh hr.z rfl (A2 (Ac hu (pv 0) A5) (A2 A5 (A2 (Af rfl T.Zu6) A0)))) (E9 (A9 Zum hr.z rfl (A2 (Ac hu (pv 0) A5) (A2 A5 A0))))))))),?_⟩
 walk_at "rd";refine⟨a,_,3,3,rfl,ha,Zz5 _,Zz5 _,_,rfl,?_⟩;rw[GD (by decide)];refine⟨_,Ag (j:=0) ha rfl,.inl ⟨c.1,rfl,h1,λH1 s1=>⟨_,rfl,?_⟩⟩⟩;rw[GE rfl];refine⟨_,Ag (j:=1) (s1 _ _ ha) rfl,_,0,400,rfl,h2.1,h2.2,_,rfl,?_⟩;rw[GE rfl];exact⟨_,Ag (j:=2) (s1 _ _ ha) rfl,_,0,rfl,h3,k H1 s1⟩
inductive CZ (vs:List V) (H:Hp) (Q:VK) (E:XK):Prop | mk (v:V) (cs:List Wt) (_:vs=[v]) (_:RD H (.tuple (cs.map Ka)) v) (_:cs.length<=20) (_:(∀u∈cs,Al u.1=true/\(0<=u.2.1/\u.2.1<=400)/\0<=u.2.2)) (_:∀H',AB H H'->Q (.bl true) H')
theorem Vv(F:Fun K "are_wants" "are_wants" Oc f fd)(T:Txt mg)(C:Exc K mg c)(Zs0:Has P w K mg base "is_want" 4 ["found"] DT)(Zup:Has P w K mg base "is_tuple" 1 ["found", "least", "most"] AR):Aq P w K mg base CX0 5 f fd ["found"] CZ:=by
 refine F.go ["found"] ?_ ?_ ?_;walk_at "f";let⟨v,cs,rfl,rv,hl,ok,k⟩:=h;have hu:=Ao hr;let⟨a,xs,rfl,ha,rx⟩:=RD.tup_of rv;have hx:=B8 rx;refine⟨_,(A3 (Ad (D3 (A9 Zup hr.z rfl (A2 (pv 0) (A2 A5 (A2 (Af rfl T.Zua) A0)))) (E9 (Ah (Dr rfl) rfl T.Zt7 He (A2 (Bs (own:=["want"]) (cap:=[]) rfl (Cf rfl) (Av (by decide)) (G9 (pv 0))
 (λ_ _ _ _ _ _=>⟨(Ax (i:=0) (GA rfl) rfl (Zyr rfl) (.inr rfl)),Bi,(A9 Zs0 hr.z rfl (A2 (pv 0) A0))⟩)) A0)))))),?_⟩
 walk_at "rd";refine⟨a,_,0,20,rfl,ha,by lia,by lia,_,rfl,?_⟩;rw[GE rfl];refine .inr ⟨xs,ha,Wz ha (by lia) (λi x H' hx s' N hN=>?_) λa' H' s' ha'=>⟨a',rfl,_,ha',?_⟩⟩
 ·let⟨c,ec,rc⟩:=Bl rx hx;let⟨ca,rfl,hca⟩:=L6 rc;have o:=ok c (Zzn ec);walk_at "rd";exact⟨ca,c,rfl,s' _ _ hca,o.1,o.2.1,o.2.2,hN⟩
 ·rw[Hq];exact k _ s'
end
section
variable {dk:Dk}{c:Cl}
def A4i(w:Wr):Prop:=w.parts.length<=1000/\w.coming.length<=1000
structure Ta(S:Sh):Prop where
 names:(S.wares.map (·.name)).Nodup
 len:S.wares.length<=1000
 wares:∀w∈S.wares,A4i w
inductive AW (vs:List V) (H:Hp) (Q:VK) (E:XK):Prop | mk (v:V) (w:Wr) (_:vs=[v]) (_:RD H w.d v) (_:A4i w) (_:∀p H',H p=none->H' p=some (.lst ((w.parts.map (·.1)).map V.str))->AB H H'->Q (.ref p) H')
theorem Sb(F:Fun K "part_names" "part_names" Lh f fd)(T:Txt mg)(C:Exc K mg c):Aq P w K mg base CX0 1 f fd ["ware"] AW:=by
 refine F.go ["ware"] ?_ ?_ ?_;walk_at "f";let⟨v,w,rfl,rw',ok,k⟩:=h;have hu:=Ao hr;refine⟨_,(A3 (Ad (Bs (own:=["part"]) (cap:=[]) rfl (Cf rfl) (Av (by decide)) (Er (Ac hu (pv 0) (Af rfl T.Ztk)))
 (λ_ _ _ _ _ _=>⟨(Ax (i:=0) (GA rfl) rfl (Zyr rfl) (.inr rfl)),Bi,(Ac hu (pv 0) A5)⟩)))),?_⟩
 let⟨a,c,p,rfl,ha,rc,rp⟩:=Ck rw';let⟨b,ps,rfl,hb,rps⟩:=RD.tup_of rp;have hl:=B8 rps;walk_at "rd";refine⟨_,Ag (j:=6) ha rfl,b,rfl,_,hb,?_⟩;refine By (Fv b _) (Am (by rw[hl];exact ok.1)) (λH' s'=>s' _ _ hb) ((w.parts.map (·.1)).map V.str) (by rw[Zzz,Zzz,hl]) (λi x H' hi hx s' N M hN=>?_) (λH' s' p hp=>?_)
 ·let⟨y,hy,ry⟩:=Bl rps hx;let⟨e,rfl,he⟩:=Pb ry;walk_at "rd";exact⟨_,Ag (j:=0) (s' _ _ he) rfl,hN _ _ s' (by rw[Zzx,Zzx,hy];rfl)⟩
 ·exact k p _ (AB.free s' hp) AA (s'.trans (A7 hp))
def Dw(c:Cl):Sp:=λvs H Q E=>∃(v:V) (S:Sh) (n:Str),vs=[v,.str n]/\RD H S.d v/\Ta S/\((n∈S.wares.map (·.name)/\∀x w,w∈S.wares->w.name=n->RD H w.d x->Q x H)\/(n∉S.wares.map (·.name)/\n.length<=1000/\(∀c∈n.cps.toList,c<1114112)/\E (.ref c.NoName) none H))
inductive zh (b:V) (n:Str) (ws:List Wr) (H:Hp) (i:Nat) (σ:St) (H':Hp):Prop | mk (c:Option V) (_:σ=[some b,some (.str n),c]) (_:H'=H) (_:∀w∈ws.take i,w.name≠n)
theorem DU:Bu ["shop", "name", "ware"] ["shop", "name"] (Ap Mu):=by walk_at "sc"
theorem a9(F:Fun K "ware_of" "ware_of" Mu f fd)(T:Txt mg)(C:Exc K mg c):Aq P w K mg base (CXE P w) 1 f fd ["shop", "name"] (Dw c):=by
 refine F.okX DU (λvs H Q E h=>?_) (λcdv A outer s H vs Q E hr h=>?_)
 ·let⟨v,S,n,rfl,_⟩:=h;rfl
 ·let⟨v,S,n,rfl,rs,ok,k⟩:=h;have hu:=Ao hr;refine⟨_,(A1 (Bj PassesOwn.leaving rfl (Er (Ac hu (pv 0) A5)) (Cj 2 DU.nd)
 (A3 (As (Aj (Bd hu) (Ac hu (pv 2) (Af rfl T.Zu5)) (pv 1) (Ak _)) (A3 (Ad (pv 2))) Ai)))
 (A3 (Cb Gn rfl rfl C.Zrc (C.ex .name).1 (A2 (Vb (Va (A1l (pv 1) V9))) A0)))),?_⟩
  let⟨a,b,d,ws,us,rfl,ha,hb,hc,rws,rus⟩:=Cy rs;have hl:=B8 rws;walk_at "rd";refine⟨_,Ag (j:=0) ha rfl,b,rfl,_,hb,?_⟩;refine D7 (Fv b _) (zh (.ref a) n S.wares H) ⟨_,rfl,rfl,by simp⟩ (λi σ H' _ h=>by let⟨_,_,rfl,_⟩:=h;exact hb) (λi x σ H' hi hx h=>?_) (λσ H' h=>?_)
  ·let⟨d,rfl,rfl,hno⟩:=h;let⟨w,hw,rw'⟩:=Bl rws hx;let⟨e,c1,c2,rfl,he,_⟩:=Ck rw';walk_at "rd";have hm:=Zzn hw;refine⟨_,Ag (j:=0) he rfl,rfl,Do (λh=>?_) (λh=>?_)⟩
   ·have en:w.name=n:=by have:=GA h;cases this;rfl
    rcases k with ⟨_,k⟩ | ⟨hn,_⟩
    ·exact k _ w hm en rw'
    ·exact absurd (Zzt.mpr ⟨w,hm,en⟩) hn
   ·refine⟨_,rfl,rfl,λw' hw'=>?_⟩;rw[Zz6,hw] at hw';rcases Zz3.mp hw' with z | z
    ·exact hno w' z
    ·have e:w'=w:=by simpa using z
     subst e;intro e;exact h (GB (by rw[e]))
  ·let⟨d,rfl,rfl,hno⟩:=h;rw[hl,Zz7] at hno;rcases k with ⟨hn,_⟩ | ⟨_,hx,htx,ke⟩
   ·let⟨w,hw,e⟩:=Zzt.mp hn;exact absurd e (hno w hw)
   ·walk_at "rd";have l18:(Str.ofString "no ware is called ").length=18:=by decide +kernel
    exact⟨by lia,htx,by lia,by lia,λ_=>⟨by decide,ke⟩⟩
inductive CG (vs:List V) (H:Hp) (Q:VK) (E:XK):Prop | mk (a:Addr) (kvs:List (Key×V)) (G:Gr) (_:vs=[.ref a]) (_:H a=some (.dK kvs)) (_:PDk H kvs G) (_:(Ay G).Nodup) (_:G.length<=1000) (_:(∀e∈G,e.2.length<=1000)) (_:∀p kvs' H',H p=none->H' p=some (.dK kvs')->PDk H' kvs' (br G)->But a H H'->Q (.ref p) H')
def zq(a p:Addr)(o:Obj)(kvs:List (Key×V))(G:Gr)(H:Hp)(i:Nat)(σ:St)(H':Hp):Prop:=∃(n g:Option V) (kvs':List (Key×V)),σ=[some (.ref a),some (.ref p),n,g]/\H' a=some (.frz o (.dK kvs))/\H' p=some (.dK kvs')/\PDk H' kvs' ((G.take i).filterMap (Cp (Ay G)))/\But a H H'
def A4q(a p:Addr)(o:Obj)(kvs kvs':List (Key×V))(G G':Gr)(ps:List Str)(H:Hp)(i:Nat)(acc:List V)(H':Hp):Prop:=acc=(P3 (Ay G) (ps.take i)).map V.str/\H' a=some (.frz o (.dK kvs))/\H' p=some (.dK kvs')/\PDk H' kvs' G'/\But a H H'/\PDk H' kvs G
theorem Uf{ks:List Str}(h:ps[i]?=some x):P3 ks (ps.take (i+1))=P3 ks (ps.take i)++if decide (x∈ks)=true then [x] else []:=by
 unfold P3;rw[Zz6,h,Zxi];by_cases hx:x∈ks
 ·simp[hx]
 ·simp[hx]
theorem Ow(F:Fun K "without_ends" "without_ends" J6 f fd)(T:Txt mg)(C:Exc K mg c):Aq P w K mg base CX0 1 f fd ["parts"] CG:=by
 refine F.go ["parts", "left", "name", "going_on"] ?_ ?_ ?_;walk_at "f";let⟨a,kvs,G,rfl,ha,pd,nd,hG,hps,k⟩:=h;have hu:=Ao hr;have hkl:=pd.len;have ndk:(kvs.map (·.1)).Nodup:=by rw[pd.keys];exact jd nd
 refine⟨_,(A1 (B4 1 Nd Ga)
 (A1 (Bj PassesOwn.never rfl (ny (pv 0)) (Cj 2 Nd)
 (A1 (Dy (own:=["part"]) (cap:=[0]) (i:=3) rfl (Cf rfl) (Av (by decide)) Nd rfl rfl (Dl (Ac hu (pv 0) (pv 2)))
 (λ_ _ _ _ _ _=>⟨(Ax (i:=0) (GA rfl) rfl (Zyr rfl) (.inr rfl)),(P7 (Aj (Kt hu) (pv 0) (pv 1) rfl)),(pv 0)⟩))
 (A3 (As (dz (pv 3)) (A3 (Ep (pv 3) (Fq (pv 1) (pv 2) (Dp hu)))) Ai))))
 (A3 (Ad (pv 1))))),?_⟩
 walk_at "rd";refine λp hp=>⟨_,by rw[A6 (A8 ha hp)];exact ha,λo=>?_⟩;have nap:a≠p:=A8 ha hp;have b0:But a H (upd (upd H p (.dK [])) a (.frz o (.dK kvs))):=(Pk hp).trans DI;have pl:∀{H':Hp},But a H H'->PDk H' kvs G:=λ{H'} bt=>pd.mono λl xs h=>bt l _ (λz=>by rw[z,ha] at h;cases h) h;refine D7 (A0o a o kvs) (zq a p o kvs G H) ⟨_,_,[],rfl,AA,by rw[A6 (Zza nap),AA],.nil,b0⟩ (λi σ H' _ h=>by let⟨_,_,_,_,h,_⟩:=h;exact h) (λi x σ H' hi hx h=>?_) (λσ H' h=>?_)
 ·let⟨n,g,kvs',rfl,h1,h2,h3,bt⟩:=h;let⟨key,val,hk,rfl⟩:=hx;let⟨e,l,he,rfl,rfl,hl⟩:=PDk.get' (pl bt) hk;have hv:=Pr ndk hk;have hmem:=Zzn he;refine Iv (λσ' H''=>∃q:Addr,σ'=[some (.ref a),some (.ref p),some (.str e.1),some (.ref q)]/\H'' q=some (.lst ((P3 (Ay G) e.2).map V.str))/\H'' a=some (.frz o (.dK kvs))/\H'' p=some (.dK kvs')/\PDk H'' kvs' ((G.take i).filterMap (Cp (Ay G)))/\But a H H'') ?_ (λKK hK=>?_)
  ·rintro σ' H'' ⟨q,rfl,hq,g1,g2,g3,gb⟩;walk_at "rd";refine⟨_,hq,?_⟩;have et:(G.take (i+1)).filterMap (Cp (Ay G))=(G.take i).filterMap (Cp (Ay G))++(Cp (Ay G) e).toList:=by
    rw[Zz6,he,List.filterMap_append];cases hc:Cp (Ay G) e<;>simp[hc]
   refine Do (λhz=>?_) (λhz=>?_)
   ·have hne:P3 (Ay G) e.2≠[]:=λz=>by rw[z] at hz;exact absurd hz (by decide)
    have hc:Cp (Ay G) e=some (e.1,P3 (Ay G) e.2):=by unfold Cp;rw[GD hne]
    have nin:e.1∉Ay ((G.take i).filterMap (Cp (Ay G))):=λm=>by
     have m':e.1∈Ay (G.take i):=(BQ (ks:=Ay G) (G:=G.take i)).subset m;have nd':(Ay (G.take i)++Ay (G.drop i)).Nodup:=by
      have:Ay (G.take i)++Ay (G.drop i)=Ay G:=by unfold Ay;rw[<- Zzd,List.take_append_drop]
      rw[this];exact nd
     have hlt:i<G.length:=(Zzf.mp he).1;have md:e.1∈Ay (G.drop i):=by
      unfold Ay;rw[List.drop_eq_getElem_cons hlt];have:G[i]=e:=(Zzf.mp he).2;rw[this,Zzk];exact Zzq
     exact(List.nodup_append.mp nd').2.2 _ m' _ md rfl
    have hlen':kvs'.length<sizeLine:=by
     have:=g3.len;have h5:((G.take i).filterMap (Cp (Ay G))).length<=(G.take i).length:=List.length_filterMap_le _ _;rw[Zyy] at h5;exact Zyh (m:=1000) (by lia) (by decide)
    refine⟨kvs',.inr e.1,rfl,g2,hlen',?_⟩;have ku:∀l xs,H'' l=some (.lst xs)->upd H'' p (.dK (Dx kvs' (.inr e.1) (.ref q))) l=some (.lst xs):=λl xs h=>by rw[A6 (λz=>by rw[z,g2] at h;cases h)];exact h
    refine⟨_,_,_,rfl,by rw[A6 nap];exact g1,AA,?_,?_⟩
    ·rw[et,hc];exact(g3.mono ku).snoc nin (ku _ _ hq)
    ·exact λb o' nb hb=>by rw[A6 (A8 hb hp)];exact gb b o' nb hb
   ·have hne:P3 (Ay G) e.2=[]:=by
     cases hx:P3 (Ay G) e.2 with
     |nil=>rfl
     |cons y r=>rw[hx] at hz;exact absurd rfl hz
    have hc:Cp (Ay G) e=none:=by unfold Cp;rw[GE hne]
    exact⟨_,_,_,rfl,g1,g2,by rw[et,hc];simpa using g3,gb⟩
  ·walk_at "rd";refine⟨_,Hc (.inr ⟨o,h1⟩) hv,l,rfl,_,hl,?_⟩;refine Ky (Ec l _) (Am (by rw[Zzz];exact hps e hmem)) (A4q a p o kvs kvs' G ((G.take i).filterMap (Cp (Ay G))) e.2 H) ⟨rfl,h1,h2,h3,bt,pl bt⟩ (λj acc H2 _ h=>?_) (λj acc H2 h=>?_) (λj x acc H2 hj hx h=>?_) (λacc H2 h q hq=>?_)
   ·let⟨_,_,_,_,hb,hpd⟩:=h;let⟨l2,hl2,hl3⟩:=PDk.get hpd he;rw[hk] at hl2;cases hl2;exact hl3
   ·rw[h.1,Zzz];refine Zzp (Zxt _ _) ?_;rw[Zyy];exact Nat.min_le_left _ _
   ·let⟨rfl,w1,w2,w3,w4,w5⟩:=h;rw[Zzx] at hx;cases ex:e.2[j]? with
    |none=>rw[ex] at hx;cases hx
    |some y =>
    rw[ex] at hx;cases hx;walk_at "rd";refine⟨_,.inr (.inr ⟨a,kvs,.inr y,rfl,rfl,.inr ⟨o,w1⟩,rfl⟩),?_⟩;rw[w5.has y];refine Do (λhy=>?_) (λhy=>?_)
    ·exact⟨by rw[Uf ex,GE hy,Zzd];rfl,w1,w2,w3,w4,w5⟩
    ·exact⟨by rw[Uf ex,GD hy,Zyt],w1,w2,w3,w4,w5⟩
   ·let⟨rfl,w1,w2,w3,w4,w5⟩:=h;rw[Zzz,Zz7];have nq:∀{b:Addr} {o':HO} (o'':HO),H2 b=some o'->upd H2 q o'' b=some o':=λ{b o'} o'' hb=>by rw[A6 (A8 hb hq)];exact hb
    exact hK _ _ ⟨q,rfl,AA,nq _ w1,nq _ w2,w3.mono λl xs h=>nq _ h,w4.trans (Pk hq)⟩
 ·let⟨n,g,kvs',rfl,h1,h2,h3,bt⟩:=h;walk_at "rd";rw[hkl,Zz7] at h3;exact k p kvs' H' hp h2 h3 bt
inductive BY (vs:List V) (H:Hp) (Q:VK) (E:XK):Prop | mk (v:V) (S:Sh) (_:vs=[v]) (_:RD H S.d v) (_:Ta S) (_:∀p kvs' H',H p=none->H' p=some (.dK kvs')->PDk H' kvs' (Mj S.wares.length (G0 S))->AB H H'->Q (.ref p) H')
inductive A2v (v:V) (p:Addr) (S:Sh) (H:Hp) (i:Nat) (σ:St) (H':Hp):Prop | mk (n g:Option V) (kvs':List (Key×V)) (_:σ=[some v,some (.ref p),n,g]) (_:H' p=some (.dK kvs')) (_:PDk H' kvs' ((G0 S).take i)) (_:AB H H')
inductive A2s (v:V) (S:Sh) (H:Hp) (i:Nat) (σ:St) (H':Hp):Prop | mk (q:Addr) (n g:Option V) (kvs':List (Key×V)) (_:σ=[some v,some (.ref q),n,g]) (_:H q=none) (_:H' q=some (.dK kvs')) (_:PDk H' kvs' (Mj i (G0 S))) (_:AB H H')
theorem yc(S:Sh):Ay (G0 S)=S.wares.map (·.name):=by unfold Ay G0;rw[Zyq];rfl
theorem bb(S:Sh):(G0 S).length=S.wares.length:=by unfold G0;rw[Zzz]
theorem sf(ok:Ta S):∀e∈G0 S,e.2.length<=1000:=λe he=>by
 let⟨w,hw,rfl⟩:=Zzt.mp he;show (w.parts.map (·.1)).length<=1000;rw[Zzz];exact(ok.wares w hw).1
theorem N6(F:Fun K "endless_parts" "endless_parts" Iq f fd)(T:Txt mg)(C:Exc K mg c)(Zul:Has P w K mg base "part_names" 1 ["ware"] AW)(Ztc:Has P w K mg base "without_ends" 1 ["parts"] CG):Aq P w K mg base CX0 2 f fd ["shop"] BY:=by
 refine F.go ["shop", "parts", "ware", "turn"] ?_ ?_ ?_;walk_at "f";let⟨v,S,rfl,rs,ok,k⟩:=h;have hu:=Ao hr;have nd:(Ay (G0 S)).Nodup:=by rw[yc];exact ok.names
 refine⟨_,(A1 (B4 1 Nd Ga)
 (A1 (Bj PassesOwn.never rfl (Er (Ac hu (pv 0) A5)) (Cj 2 Nd)
 (A3 (Ep (A9 Zul hr.z rfl (A2 (pv 2) A0)) (Fq (pv 1) (Ac hu (pv 2) (Af rfl T.Zu5)) (Dp hu)))))
 (A1 (Bj PassesOwn.never rfl (Es rfl T.Zt0 (A2 (Ah Ch rfl T.Zu7 D8 (A2 (Ac hu (pv 0) A5) A0)) A0)) (Cj 3 Nd)
 (A3 (B4 1 Nd (A9 Ztc hr.z rfl (A2 (pv 1) A0)))))
 (A3 (Ad (pv 1)))))),?_⟩
 let⟨a,b,c,ws,us,rfl,ha,hb,hc,rws,rus⟩:=Cy rs;have hl:=B8 rws;refine u9 (λσ' H'=>∃(p:Addr) (n g:Option V) (kvs':List (Key×V)),σ'=[some (.ref a),some (.ref p),n,g]/\H p=none/\H' p=some (.dK kvs')/\PDk H' kvs' (G0 S)/\AB H H') ?_ (λKK hK=>?_)
 ·rintro σ' H1 ⟨p,n,g,kvs',rfl,hp,hp1,pd,sm⟩;walk_at "rd";refine⟨_,Ag (j:=0) (sm _ _ ha) rfl,b,rfl,_,.inr (sm _ _ hb),by lia,by have:=ok.len;lia,?_⟩;have en:((ws.length:Nat):Int).toNat=S.wares.length:=by lia
  rw[en];refine D7 (Ud 0 _) (A2s (.ref a) S H) ⟨p,_,_,_,rfl,hp,hp1,pd,sm⟩ (λ_ _ _ _ _=>trivial) (λi x σ H2 hi hx h=>?_) (λσ H2 h=>?_)
  ·let⟨q,n,g,kvs',rfl,hq,hq1,pd,sm⟩:=h;walk_at "rd";refine⟨q,kvs',_,rfl,hq1,pd,Rr nd i,by have:=Z0 (G0 S) i;rw[bb] at this;have:=ok.len;lia,λe he=>?_,λp2 kvs2 H3 hp2 hp3 pd3 bt=>?_⟩
   ·let⟨ps,h1,_,h3⟩:=Ig i he;have:=sf ok _ h1;have:ps.length<=1000:=this;lia
   ·exact⟨p2,_,_,kvs2,rfl,AB.free sm hp2,hp3,pd3,λb' o hb'=>bt b' o (A8 hb' hq) (sm b' o hb')⟩
  ·let⟨q,n,g,kvs',rfl,hq,hq1,pd,sm⟩:=h;walk_at "rd";exact k q kvs' H2 hq hq1 pd sm
 ·walk_at "rd";refine λp hp=>?_;refine⟨_,Ag (j:=0) (by rw[A6 (A8 ha hp)];exact ha) rfl,b,rfl,_,by rw[A6 (A8 hb hp)];exact hb,?_⟩;refine D7 (Fv b _) (A2v (.ref a) p S H) ⟨_,_,[],rfl,AA,.nil,A7 hp⟩ (λi σ H' _ h=>by let⟨_,_,_,_,_,_,s⟩:=h;exact s _ _ hb) (λi x σ H' hi hx h=>?_) (λσ H' h=>?_)
  ·let⟨n,g,kvs',rfl,h1,h2,sm⟩:=h;let⟨w,hw,rw'⟩:=Bl rws hx;have hg:(G0 S)[i]?=some (w.name,w.parts.map (·.1)):=by unfold G0;rw[Zzx,hw];rfl
   walk_at "rd";refine⟨x,w,rfl,RD.same sm _ _ rw',ok.wares w (Zzn hw),λq H2 hq hq2 sm2=>?_⟩;let⟨e,c1,c2,rfl,he,_⟩:=Ck rw';have sm02:=sm.trans sm2;have nin:w.name∉Ay ((G0 S).take i):=λm=>by
    have nd':(Ay ((G0 S).take i)++Ay ((G0 S).drop i)).Nodup:=by
     have:Ay ((G0 S).take i)++Ay ((G0 S).drop i)=Ay (G0 S):=by unfold Ay;rw[<- Zzd,List.take_append_drop]
     rw[this];exact nd
    have hlt:i<(G0 S).length:=(Zzf.mp hg).1;have md:w.name∈Ay ((G0 S).drop i):=by
     unfold Ay;rw[List.drop_eq_getElem_cons hlt];have:(G0 S)[i]=(w.name,w.parts.map (·.1)):=(Zzf.mp hg).2;rw[this,Zzk];exact Zzq
    exact(List.nodup_append.mp nd').2.2 _ m _ md rfl
   have hp2:=sm2 p _ h1;refine⟨_,Ag (j:=0) (sm02 _ _ he) rfl,kvs',.inr w.name,rfl,hp2,?_,?_⟩
   ·have:=h2.len
    rw[Zyy,bb] at this;have:=ok.len;exact Zyh (m:=1000) (by lia) (by decide)
   ·have ku:∀l xs,H2 l=some (.lst xs)->upd H2 p (.dK (Dx kvs' (.inr w.name) (.ref q))) l=some (.lst xs):=λl xs h=>by rw[A6 (λz=>by rw[z,hp2] at h;cases h)];exact h
    refine⟨_,_,_,rfl,AA,?_,λb' o hb'=>by rw[A6 (A8 hb' hp)];exact sm02 b' o hb'⟩;rw[Zz6,hg];exact((h2.mono λl xs h=>sm2 l _ h).mono ku).snoc nin (ku _ _ hq2)
  ·let⟨n,g,kvs',rfl,h1,h2,sm⟩:=h;rw[hl,<- bb,Zz7] at h2;exact hK _ _ ⟨p,_,_,kvs',rfl,hp,h1,h2,sm⟩
def L3(S:Sh):Prop:=Mj S.wares.length (G0 S)=[]
structure va(S:Sh)(x y:Str):Prop where
 ne:x≠y
 lx:x.length<=8
 ly:y.length<=8
 cut:Mj S.wares.length (G0 S)=[(x,[y]),(y,[x])]
theorem A10{α:Type}:∀{l:List α},l.length=2->∃x y,l=[x,y]
 |[x,y],_=>⟨x,y,rfl⟩
inductive EL (vs:List V) (H:Hp) (Q:VK) (E:XK):Prop | mk (v:V) (S:Sh) (_:vs=[v]) (_:RD H S.d v) (_:Ta S) (_:((L3 S/\∀H',AB H H'->Q .non H')\/∃x y,va S x y/\∀p H',H' p=some (.lst [.str x,.str y])->AB H H'->Q (.ref p) H'))
inductive A4f (v:V) (p w:Addr) (x y:Str) (kvs:List (Key×V)) (H:Hp) (m:Nat) (σ:St) (H':Hp):Prop | mk (l l2:Addr) (z:Str) (_:σ=[some v,some (.ref p),some (.ref w),some (.str z)]) (_:((m=0/\z=x/\H' w=some (.lst [.str x,.str y]))\/(m=1/\z=y/\H' w=some (.lst [.str x]))\/(m=2/\z=x/\H' w=some (.lst [])))) (_:H' p=some (.dK kvs)) (_:C1 kvs (.inr x)=some (.ref l)) (_:C1 kvs (.inr y)=some (.ref l2)) (_:l≠w) (_:l2≠w) (_:H' l=some (.lst [.str y])) (_:H' l2=some (.lst [.str x])) (_:AB H H')
theorem xf(F:Fun K "ring" "ring" mo f fd)(T:Txt mg)(C:Exc K mg c)(Zti:Has P w K mg base "endless_parts" 2 ["shop"] BY):Aq P w K mg base CX0 3 f fd ["shop"] EL:=by
 refine F.go ["shop", "parts", "way", "name"] ?_ ?_ ?_;walk_at "f";let⟨v,S,rfl,rs,ok,k⟩:=h;have hu:=Ao hr;refine⟨_,(A1 (B4 1 Nd (A9 Zti hr.z rfl (A2 (pv 0) A0)))
 (A1 (As (B1 (wf (pv 1))) (A3 (Ad Dn)) Ai)
 (A1 (B4 2 Nd (B7 A0))
 (A1 (B4 3 Nd (Ac hu (Bf (Rx rfl) rfl T.Zre Wu (A2 (pv 1) A0)) A5))
 (A1 (Qj PassesOwn.never (Aj (ig hu) (pv 3) (pv 2) rfl) (A1 (Bm (D2 Zyw Zyn Zym Co (pv 2) (A2 (pv 3) A0)))
 (A3 (B4 3 Nd (Ac hu (Ac hu (pv 1) (pv 3)) A5)))))
 (A3 (Ad (C5 Ez (pv 2) (Cc (D2 Zyw PySem.F.slot_list_index PySem.F.type_list_index qc (pv 2) (A2 (pv 3) A0))) Db)))))))),?_⟩
 walk_at "rd";refine⟨v,S,rfl,rs,ok,λp kvs H1 hp hp1 pd sm=>⟨p,rfl,kvs,hp1,?_⟩⟩;rcases k with ⟨no,k⟩ | ⟨x,y,r2,k⟩
 ·rw[no] at pd;cases pd;exact iteT (k H1 sm)
 have nxy:=r2.ne;rw[r2.cut] at pd;let⟨l,hk,hl⟩:=pd.get (i:=0) rfl;let⟨l2,hk2,hl2⟩:=pd.get (i:=1) rfl;have hkl:=pd.len;let⟨kk,kk2,rfl⟩:=A10 hkl;obtain rfl:kk=(.inr x,.ref l):=Zzm hk;obtain rfl:kk2=(.inr y,.ref l2):=Zzm hk2;rw[GD (by simp)];refine⟨by decide,λw hw=>?_⟩;have u:=A7 (o:=.lst []) hw;refine⟨p,rfl,_,.inl (u _ _ hp1),(by show 2<=1000;decide),λq hq=>?_⟩;have u2:=A7 (o:=.lst [V.str x,V.str y]) hq;refine⟨.str x,An (j:=0) AA rfl,?_⟩;refine⟨A4f v p w x y _ H1,⟨2,l,l2,x,rfl,.inr (.inr ⟨rfl,rfl,u2 _ _ AA⟩),u2 _ _ (u _ _ hp1),by simp[C1],by simp[C1,nxy],A8 hl hw,A8 hl2 hw,u2 _ _ (u _ _ hl),u2 _ _ (u _ _ hl2),u.trans u2⟩,?_⟩;rintro m σ H2 ⟨l,l2,z,rfl,hz,hp2,hv,hv2,lw,lw2,g1,g2,s2⟩;walk_at "rd";have pw:p≠w:=by rcases hz with ⟨_,_,hw2⟩ | ⟨_,_,hw2⟩ | ⟨_,_,hw2⟩<;>exact Yb hp2 hw2 λz=>by cases z
 rcases hz with ⟨rfl,rfl,hw2⟩ | ⟨rfl,rfl,hw2⟩ | ⟨rfl,rfl,hw2⟩
 ·refine⟨_,.inl ⟨w,_,rfl,.inl hw2,rfl,Ex [z,y],rfl⟩,?_⟩;rw[show inV (V.str z) [V.str z,V.str y]=true from (Jl (x:=z) (xs:=[z,y])).trans (GB (by simp)),GD (by decide)];refine⟨E6 hw2,[z,y],hw2,by simp,_,hw2,λr hr2=>?_⟩;have e:Fk [V.str z,V.str y] (some (([z,y].idxOf z:Nat):Int)) none=[V.str z,V.str y]:=by rw[List.idxOf_cons_self];rfl
  rw[e];exact k r _ AA ((sm.trans s2).trans (A7 hr2))
 ·refine⟨_,.inl ⟨w,_,rfl,.inl hw2,rfl,Ex [x],rfl⟩,?_⟩;rw[show inV (V.str z) [V.str x]=false from (Jl (x:=z) (xs:=[x])).trans (GC (by simp[Zza nxy])),GE (by decide)];exact⟨_,λσ' H' h=>h,E6 hw2,_,hw2,(by show 1<sizeLine;decide),.ref l2,Hc (.inl (by rw[A6 pw];exact hp2)) hv2,.str x,An (j:=0) (xs:=[V.str x]) (by rw[A6 lw2];exact g2) rfl,0,by lia,l,l2,x,rfl,.inl ⟨rfl,rfl,AA⟩,by rw[A6 pw];exact hp2,hv,hv2,lw,lw2,by rw[A6 lw];exact g1,by rw[A6 lw2];exact g2,λb o hb=>by rw[A6 (A8 hb hw)];exact s2 b o hb⟩
 ·refine⟨_,.inl ⟨w,_,rfl,.inl hw2,rfl,Ex [],rfl⟩,?_⟩;rw[show inV (V.str z) []=false from rfl,GE (by decide)];exact⟨_,λσ' H' h=>h,E6 hw2,_,hw2,by decide,.ref l,Hc (.inl (by rw[A6 pw];exact hp2)) hv,.str y,An (j:=0) (xs:=[V.str y]) (by rw[A6 lw];exact g1) rfl,1,by lia,l,l2,y,rfl,.inr (.inl ⟨rfl,rfl,AA⟩),by rw[A6 pw];exact hp2,hv,hv2,lw,lw2,by rw[A6 lw];exact g1,by rw[A6 lw2];exact g2,λb o hb=>by rw[A6 (A8 hb hw)];exact s2 b o hb⟩
def Bv(c:Cl):Sp:=λvs H Q E=>∃(v:V) (S:Sh),vs=[v]/\RD H S.d v/\Ta S/\((L3 S/\∀H',AB H H'->Q .non H')\/∃x y,va S x y/\∀H',AB H H'->E (.ref c.Ring) none H')
theorem BO:Bu ["shop", "found", "names"] ["shop"] (Ap Gx):=by walk_at "sc"
theorem Qw(F:Fun K "check_rings" "check_rings" Gx f fd)(T:Txt mg)(C:Exc K mg c)(Zra:Has P w K mg base "ring" 3 ["shop"] EL):Aq P w K mg base (CXE P w) 4 f fd ["shop"] (Bv c):=by
 refine F.okX BO (λvs H Q E h=>?_) (λcdv A outer s H vs Q E hr h=>?_)
 ·let⟨v,S,rfl,_⟩:=h;rfl
 ·let⟨v,S,rfl,rs,ok,k⟩:=h;have hu:=Ao hr;refine⟨_,(A1 (B4 1 BO.nd (A9 Zra hr.z rfl (A2 (pv 0) A0)))
 (A3 (As (Aj Jx (pv 1) Dn (Ak _)) (A1 (B4 2 BO.nd (D2 Zy9 Zwd Zwc Pc Aa (A2 (pv 1) A0)))
 (A3 (Cb Gn rfl rfl C.Zr3 (C.ex .ring).1 (A2 (Vb (Va (Zx (pv 2) V9))) A0)))) Ai))),?_⟩
  walk_at "rd";refine⟨v,S,rfl,rs,ok,?_⟩;rcases k with ⟨no,k⟩ | ⟨x,y,r2,k⟩
  ·refine .inl ⟨no,λH' sm=>?_⟩;walk_at "rd";exact A3u trivial (k H' sm)
  ·refine .inr ⟨x,y,r2,λp H' hp sm=>?_⟩;walk_at "rd";rw[GE (by rw[GC (λz=>by cases z)];rfl)];have l18:(Str.ofString "a ring of parts: ").length=17:=by decide +kernel
   refine⟨rfl,[x,y],hp,8,λz hz=>?_,(by show 2*8+2*1<=16777216;decide),?_⟩
   ·simp only[Zzw,Zz2,or_false] at hz;rcases hz with rfl | rfl
    ·exact r2.lx
    ·exact r2.ly
   have e:(Str.join (Str.ofString " ") [x,y]).length<=17:=by
    show (x++Str.ofString " " ++ y).length<=17;rw[strLen_append,strLen_append,show (Str.ofString " ").length=1 from rfl];have:=r2.lx;have:=r2.ly;lia
   exact⟨by lia,by lia,by lia,λ_=>⟨by decide,k H' sm⟩⟩
end
section
variable {dk:Dk}{c:Cl}
structure gu(S:Sh):Prop extends Lev S where
 ok:Ta S
 few:S.wares.length<64
theorem ay(h:Lev S):L3 S:=by
 let⟨r,h1,h2⟩:=h.low;unfold L3;refine Yz (r:=r) (λe he x hx=>?_) (λe he=>?_)
 ·let⟨w,hw,rfl⟩:=Zzt.mp he;let⟨p,hp,rfl⟩:=Zzt.mp hx;exact h2 w hw p hp
 ·let⟨w,hw,rfl⟩:=Zzt.mp he;exact h1 w hw
def Bp(S:Sh):List Str:=S.wares.map (·.name)
theorem D6(S:Sh):(Bp S).length=S.wares.length:=by unfold Bp;rw[Zzz]
inductive BE (vs:List V) (H:Hp) (Q:VK) (E:XK):Prop | mk (v:V) (S:Sh) (_:vs=[v]) (_:RD H S.d v) (_:S.wares.length<=1000) (_:∀p H',H p=none->H' p=some (.lst ((Bp S).map V.str))->AB H H'->Q (.ref p) H')
theorem Xy(F:Fun K "names_of" "names_of" Pz f fd)(T:Txt mg)(C:Exc K mg c):Aq P w K mg base CX0 1 f fd ["shop"] BE:=by
 refine F.go ["shop"] ?_ ?_ ?_;walk_at "f";let⟨v,S,rfl,rs,hlen,k⟩:=h;have hu:=Ao hr;refine⟨_,(A3 (Ad (Bs (own:=["ware"]) (cap:=[]) rfl (Cf rfl) (Av (by decide)) (Er (Ac hu (pv 0) A5))
 (λ_ _ _ _ _ _=>⟨(Ax (i:=0) (GA rfl) rfl (Zyr rfl) (.inr rfl)),Bi,(Ac hu (pv 0) (Af rfl T.Zu5))⟩)))),?_⟩
 let⟨a,b,c,ws,us,rfl,ha,hb,hc,rws,rus⟩:=Cy rs;have hl:=B8 rws;walk_at "rd";refine⟨_,Ag (j:=0) ha rfl,b,rfl,_,hb,?_⟩;refine By (Fv b _) (Am (by lia)) (λH' s'=>s' _ _ hb) ((Bp S).map V.str) (by rw[Zzz,D6,hl]) (λi x H' hi hx s' N M hN=>?_) (λH' s' p hp=>?_)
 ·let⟨y,hy,ry⟩:=Bl rws hx;let⟨e,c1,c2,rfl,he,_⟩:=Ck ry;walk_at "rd";refine⟨_,Ag (j:=0) (s' _ _ he) rfl,hN _ _ s' ?_⟩;unfold Bp;rw[Zzx,Zzx,hy];rfl
 ·exact k p _ (AB.free s' hp) AA (s'.trans (A7 hp))
inductive EA (vs:List V) (H:Hp) (Q:VK) (E:XK):Prop | mk (v:V) (S:Sh) (_:vs=[v]) (_:RD H S.d v) (_:gu S) (_:∀p H',H p=none->H' p=some (.dK (fnD (Bp S) (lv S)))->AB H H'->Q (.ref p) H')
inductive zg (v:V) (p:Addr) (S:Sh) (H:Hp) (i:Nat) (σ:St) (H':Hp):Prop | mk (o1 o2 o3 o4:Option V) (_:σ=[some v,some (.ref p),o1,o2,o3,o4]) (_:H' p=some (.dK (fnD ((Bp S).take i) λ_=>0))) (_:AB H H')
def A0s(S:Sh)(k i j:Nat)(g:Str->Int):Prop:=(∀x,0<=g x/\lvF S k x<=g x/\(x∈Bp S->g x<=lv S x))/\(∀w∈S.wares.take i,∀p∈w.parts,1+lvF S k w.name<=g p.1)/\∀w,S.wares[i]?=some w->∀p∈w.parts.take j,1+lvF S k w.name<=g p.1
inductive zi (v:V) (p:Addr) (S:Sh) (H:Hp) (k:Nat) (σ:St) (H':Hp):Prop | mk (o1 o2 o3 o4:Option V) (g:Str->Int) (_:σ=[some v,some (.ref p),o1,o2,o3,o4]) (_:H' p=some (.dK (fnD (Bp S) g))) (_:(∀x,0<=g x/\lvF S k x<=g x/\(x∈Bp S->g x<=lv S x))) (_:AB H H')
inductive zm (v:V) (p:Addr) (S:Sh) (k:Nat) (H:Hp) (i:Nat) (σ:St) (H':Hp):Prop | mk (o1 o2 o3 o4:Option V) (g:Str->Int) (_:σ=[some v,some (.ref p),o1,o2,o3,o4]) (_:H' p=some (.dK (fnD (Bp S) g))) (_:A0s S k i 0 g) (_:AB H H')
inductive vb (v:V) (p:Addr) (t:V) (S:Sh) (k i:Nat) (H:Hp) (j:Nat) (σ:St) (H':Hp):Prop | mk (o1 o2 o4:Option V) (g:Str->Int) (_:σ=[some v,some (.ref p),o1,o2,some t,o4]) (_:H' p=some (.dK (fnD (Bp S) g))) (_:A0s S k i j g) (_:AB H H')
theorem ip(F:Fun K "levels" "levels" Xk f fd)(T:Txt mg)(C:Exc K mg c)(Zuq:Eh P w K mg base "check_rings" 4 ["shop"] (Bv c))(Zui:Has P w K mg base "names_of" 1 ["shop"] BE)(Zul:Has P w K mg base "part_names" 1 ["ware"] AW):Aq P w K mg base CX0 5 f fd ["shop"] EA:=by
 refine F.go ["shop", "told", "name", "turn", "ware", "part"] ?_ ?_ ?_;walk_at "f";let⟨v,S,rfl,rs,L,k⟩:=h;have hu:=Ao hr;refine⟨_,(A1 (Bm (B0 Zuq Cw hr.z rfl (A2 (pv 0) A0)))
 (A1 (B4 1 Nd Ga)
 (A1 (Bj PassesOwn.never rfl (Dl (A9 Zui hr.z rfl (A2 (pv 0) A0))) (Cj 2 Nd)
 (A3 (Ep A5 (Fq (pv 1) (pv 2) (Dp hu)))))
 (A1 (Bj PassesOwn.never rfl (Es rfl T.Zt0 (A2 (Ah Ch rfl T.Zu7 D8 (A2 (Ac hu (pv 0) A5) A0)) A0)) (Cj 3 Nd)
 (A3 (Bj PassesOwn.never rfl (Er (Ac hu (pv 0) A5)) (Cj 4 Nd)
 (A3 (Bj PassesOwn.never rfl (Dl (A9 Zul hr.z rfl (A2 (pv 4) A0))) (Cj 5 Nd)
 (A3 (Ep (Ah (Up rfl) rfl T.Zrl Ws (A2 (Ac hu (pv 1) (pv 5)) (A2 (Ae D4 (Ac hu (pv 1) (Ac hu (pv 4) (Af rfl T.Zu5))) A5) A0))) (Fq (pv 1) (pv 5) (Dp hu)))))))))
 (A3 (Ad (pv 1))))))),?_⟩
 have hfew:=L.few;walk_at "rd";refine⟨v,S,rfl,rs,L.ok,.inl ⟨ay L.toLev,λH1 sm1=>?_⟩⟩;let⟨a,b,c,ws,us,rfl,ha,hb,hc,rws,rus⟩:=Cy rs;have hl:=B8 rws;intro p hp;have u1:=sm1.trans (A7 (o:=.dK []) hp);have fp:H p=none:=AB.free sm1 hp;have hnl:=D6 S;refine⟨.ref a,S,rfl,RD.same u1 _ _ rs,by lia,λq H2 hq hq2 sm2=>⟨q,rfl,_,hq2,?_⟩⟩;have hp2:=sm2 p _ AA;have s2:=u1.trans sm2;have qp:q≠p:=λz=>by rw[z,AA] at hq;cases hq
 refine D7 (Ec q _) (λi σ H'=>zg (.ref a) p S H i σ H'/\H' q=some (.lst ((Bp S).map V.str))) ⟨⟨_,_,_,_,rfl,hp2,s2⟩,hq2⟩ (λi σ H' _ h=>h.2) (λi x σ H3 hi hx h=>?_) (λσ H3 h=>?_)
 ·let⟨⟨o1,o2,o3,o4,rfl,hp3,s3⟩,hq3⟩:=h;rw[Zzz] at hi;rw[Zzx] at hx;cases en:(Bp S)[i]? with
  |none=>rw[en] at hx;cases hx
  |some nm =>
  rw[en] at hx;have hx:V.str nm=x:=Zzm hx;subst hx;walk_at "rd";refine⟨_,.inr nm,rfl,hp3,?_,⟨_,_,_,_,rfl,?_,λb' o' hb'=>by rw[A6 (A8 hb' fp)];exact s3 b' o' hb'⟩,by rw[A6 qp];exact hq3⟩
  ·rw[Wl,Zyy];exact Zyh (m:=1000) (by lia) (by decide)
  ·have nin:nm∉(Bp S).take i:=Hh L.nd en
   rw[AA,g7 nin,Zz6,en];exact congrArg (λz=>some (HO.dK z)) (Ni λx _=>by split<;>rfl)
 ·let⟨⟨o1,o2,o3,o4,rfl,hp3,s3⟩,_⟩:=h;rw[Zzz,Zz7] at hp3;walk_at "rd";refine⟨_,Ag (j:=0) (s3 _ _ ha) rfl,b,rfl,_,.inr (s3 _ _ hb),by lia,by lia,?_⟩;have en:((ws.length:Nat):Int).toNat=S.wares.length:=by lia
  rw[en];refine D7 (Ud 0 _) (zi (.ref a) p S H) ⟨_,_,_,_,λ_=>0,rfl,hp3,λx=>⟨Zz5 _,Zz5 _,λ_=>qk S x⟩,s3⟩ (λ_ _ _ _ _=>trivial) (λk' x σ H4 hi hx h=>?_) (λσ H4 h=>?_)
  ·let⟨o1,o2,o3,o4,g,rfl,hp4,hg,s4⟩:=h;walk_at "rd";refine⟨_,Ag (j:=0) (s4 _ _ ha) rfl,b,rfl,_,s4 _ _ hb,?_⟩;refine D7 (Fv b _) (zm (.ref a) p S k' H) ⟨_,_,_,_,g,rfl,hp4,⟨hg,(λw hw=>by cases hw),λw _ p hp=>by cases hp⟩,s4⟩ (λi σ H' _ h=>by let⟨_,_,_,_,_,_,_,_,s⟩:=h;exact s _ _ hb) (λi y σ H5 hi2 hy h=>?_) (λσ H5 h=>?_)
   ·let⟨o1,o2,o3,o4,g,rfl,hp5,hg,s5⟩:=h;let⟨t,ht,rt⟩:=Bl rws hy;have htm:=Zzn ht;let⟨te,d1,d2,rfl,hte,_⟩:=Ck rt;walk_at "rd";refine⟨.ref te,t,rfl,RD.same s5 _ _ rt,L.ok.wares t htm,λq2 H6 hq6 hq7 sm6=>⟨q2,rfl,_,hq7,?_⟩⟩;have hp6:=sm6 p _ hp5;have s6:=s5.trans sm6;have q2p:q2≠p:=λz=>by rw[z,hp5] at hq6;cases hq6
    refine D7 (Ec q2 _) (λj σ H'=>vb (.ref a) p (.ref te) S k' i H j σ H'/\H' q2=some (.lst ((t.parts.map (·.1)).map V.str))) ⟨⟨_,_,_,g,rfl,hp6,hg,s6⟩,hq7⟩ (λj σ H' _ h=>h.2) (λj z σ H7 hj hz h=>?_) (λσ H7 h=>?_)
    ·let⟨⟨o1,o2,o4,g,rfl,hp7,hg,s7⟩,hq8⟩:=h;rw[Zzz,Zzz] at hj;obtain⟨pp,hpp⟩:∃pp,t.parts[j]?=some pp:=⟨_,Zzl hj⟩;rw[Zzx,Zzx,hpp] at hz;have hz:V.str pp.1=z:=Zzm hz;subst hz;have hpm:=Zzn hpp;have hown:pp.1∈Bp S:=L.own t htm pp hpm;have htn:t.name∈Bp S:=Zzt.mpr ⟨t,htm,rfl⟩;walk_at "rd";have hg1:=(hg.1 pp.1);have hgt:=(hg.1 t.name);have hup:g t.name+1<=lv S pp.1:=by have h1:=hgt.2.2 htn;have h2:=Pg L.toLev htm hpm;lia
     refine⟨.int (g pp.1),Hc (.inl hp7) (Mf hown),_,Ag (j:=0) (s7 _ _ hte) rfl,.int (g t.name),Hc (.inl hp7) (Mf htn),_,rfl,_,rfl,_,.inr pp.1,rfl,hp7,by rw[Wl,hnl];exact Zyh (m:=1000) (by lia) (by decide),?_,by rw[A6 q2p];exact hq8⟩;rw[yq hown];refine⟨_,_,_,λx=>if x=pp.1 then (if g t.name+1 > g pp.1 then g t.name+1 else g pp.1) else g x,rfl,AA,?_,λb' o' hb'=>by rw[A6 (A8 hb' fp)];exact s7 b' o' hb'⟩;have gr:∀x,g x<=(if x=pp.1 then (if g t.name+1 > g pp.1 then g t.name+1 else g pp.1) else g x):=λx=>by
      split
      ·rename_i e;rw[e];split<;>lia
      ·exact Zz5 _
     refine⟨λx=>⟨Zxb (hg.1 x).1 (gr x),Zxb (hg.1 x).2.1 (gr x),λhx=>?_⟩,λw hw p hp=>Zxb (hg.2.1 w hw p hp) (gr p.1),λw hw p hp=>?_⟩
     ·show (if x=pp.1 then (if g t.name+1 > g pp.1 then g t.name+1 else g pp.1) else g x)<=lv S x
      split
      ·rename_i e;rw[e];have:=hg1.2.2 hown;split<;>lia
      ·exact(hg.1 x).2.2 hx
     ·rw[ht] at hw;have e:t=w:=Zzm hw;subst e;rw[Zz6,hpp] at hp;rcases Zz3.mp hp with m | m
      ·exact Zxb (hg.2.2 t ht p m) (gr p.1)
      ·have e:p=pp:=by simpa using m
       subst e;show 1+lvF S k' t.name<=(if p.1=p.1 then (if g t.name+1 > g p.1 then g t.name+1 else g p.1) else g p.1);rw[GE rfl];have:=hgt.2.1;split<;>lia
    ·let⟨⟨o1,o2,o4,g,rfl,hp7,hg,s7⟩,_⟩:=h;rw[Zzz,Zzz] at hg;refine⟨_,_,_,_,g,rfl,hp7,⟨hg.1,λw hw p hp=>?_,λw _ p hp=>by cases hp⟩,s7⟩;rw[Zz6,ht] at hw;rcases Zz3.mp hw with m | m
     ·exact hg.2.1 w m p hp
     ·have e:w=t:=by simpa using m
      subst e;exact hg.2.2 w ht p (by rw[Zz7];exact hp)
   ·let⟨o1,o2,o3,o4,g,rfl,hp5,hg,s5⟩:=h;rw[hl] at hg;exact⟨_,_,_,_,g,rfl,hp5,λx=>⟨(hg.1 x).1,qj (λx=>(hg.1 x).1) (λw hw p hp=>hg.2.1 w (by rw[Zz7];exact hw) p hp) x,(hg.1 x).2.2⟩,s5⟩
  ·let⟨o1,o2,o3,o4,g,rfl,hp4,hg,s4⟩:=h;walk_at "rd";refine k p H4 fp ?_ s4;rw[hp4];exact congrArg (λz=>some (HO.dK z)) (Ni λx hx=>Int.le_antisymm ((hg x).2.2 hx) (hg x).2.1)
inductive Ju (Pt:Addr) (vs:List V) (H:Hp) (Q:VK) (E:XK):Prop | mk (v:V) (S:Sh) (_:vs=[v]) (_:RD H S.d v) (_:gu S) (_:Tb H Pt) (_:∀p ys H',H p=none->H' p=some (.lst (ys.map V.str))->Oq (lv S) (Bp S) ys->Mm (lv S) (Bp S) ys->Tb H' Pt->But Pt H H'->Q (.ref p) H')
theorem EB:Bu ["shop", "level_of"] ["shop"] (Ap Ld):=by walk_at "sc"
theorem ik{ct:Addr}(F:Fun K "worked" "worked" Ld f fd)(T:Txt mg)(C:Exc K mg c)(Zrv:Has P w K mg base "levels" 5 ["shop"] EA)(Zui:Has P w K mg base "names_of" 1 ["shop"] BE)(Cd:vh K f ct Pt)(hB:Kj mg base):Aq P w K mg base CX0 6 f fd ["shop"] (Ju Pt):=by
 refine F.okC Cd EB (λvs H Q E h=>?_) (λA outer s H vs Q E hr h=>?_)
 ·let⟨v,S,rfl,_⟩:=h;rfl
 ·let⟨v,S,rfl,rs,L,tb,k⟩:=h;have hu:=Ao hr;refine⟨_,(A1 (N0 (i:=1) EB.nd rfl (Or.inr rfl) (A9 Zrv hr.z rfl (A2 (pv 0) A0)))
 (A3 (Ad (nz (i:=1) (nm := "name") (lv := "level_of") rfl T.Zr2 (A9 Zui hr.z rfl (A2 (pv 0) A0)) hr rfl Cd.hd hB rfl rfl rfl (λ_ h=>Z3 rfl h) ⟨rfl,rfl,rfl,rfl,rfl,by decide⟩ (λ_ _ _ _ _=>rfl))))),?_⟩
  have hfew:=L.few;walk_at "rd";refine⟨v,S,rfl,rs,L,λp H1 hp hp1 sm1=>?_⟩;refine⟨v,S,rfl,RD.same sm1 _ _ rs,by lia,λq H2 hq hq2 sm2=>?_⟩;have s2:=sm1.trans sm2;unfold Pm;refine⟨q,Bp S,p,fnD (Bp S) (lv S),lv S,rfl,hq2,by rw[D6];exact hfew,rfl,sm2 _ _ hp1,λx hx=>Mf hx,BR.same tb s2,λr ys H3 hr3 hr4 so sb tb3 bt=>?_⟩;exact k r ys H3 (AB.free s2 hr3) hr4 so sb tb3 (λb o nb hb=>bt b o nb (s2 b o hb))
theorem Tb.same(t:Tb H Pt)(s:AB H H'):Tb H' Pt:=BR.same t s
theorem Tb.at(t:Tb H Pt):∃u,H Pt=some (.tbl u):=t.elim (λe=>⟨_,e⟩) (λz0=>by let⟨_,e,_⟩:=z0;exact ⟨_,e⟩)
theorem Nw(t:Tb H Pt)(b:But Pt H H'):AZ H H':=λa xs e=>b a _ (λz=>by let⟨u,hu⟩:=t.at;rw[z,hu] at e;cases e) e
theorem kq{st:Addr}(t:Tb H Pt)(b:But st H H')(s:AT H st):Tb H' Pt:=by
 let⟨ns,_,es⟩:=s;rcases t with e | ⟨c,e,e2⟩
 ·exact .inl (b _ _ (λz=>by rw[z,es] at e;cases e) e)
 ·exact .inr ⟨c,b _ _ (λz=>by rw[z,es] at e;cases e) e,b _ _ (λz=>by rw[z,es] at e2;cases e2) e2⟩
theorem Im{o:HO}(t:Tb H Pt)(h:H p=some o)(hn:∀u,o≠.tbl u):p≠Pt:=λz=>by
 let⟨u,e⟩:=t.at;rw[<- z,h] at e;exact hn u (Zzm e)
theorem A18{st:Addr}(s:AT H st)(t:Tb H Pt)(b:But Pt H H'):AT H' st:=by
 let⟨ms,e1,e2⟩:=s;exact⟨ms,e1,b _ _ (Im t e2 λu z=>by cases z) e2⟩
end
section
variable {dk:Dk}{c:Cl}
section
variable {dk:Dk}{c:Cl}
noncomputable def Ir(ws:List Wr)(us:List Wt):List Str:=us.map (·.1)++(ws.map λw=>w.parts.map (·.1)).flatten
inductive CI (vs:List V) (H:Hp) (Q:VK) (E:XK):Prop | mk (v:V) (S:Sh) (_:vs=[v]) (_:RD H S.d v) (_:SD0 S) (_:∀p H',H' p=some (.lst ((Ir S.wares S.wants).map V.str))->AB H H'->Q (.ref p) H')
inductive A4p (v:V) (p:Addr) (S:Sh) (H:Hp) (i:Nat) (σ:St) (H':Hp):Prop | mk (o2:Option V) (_:σ=[some v,some (.ref p),o2]) (_:H' p=some (.lst ((Ir (S.wares.take i) S.wants).map V.str))) (_:AB H H')
theorem R6{us:List Wt}:∀{ws:List Wr},(∀w∈ws,w.parts.length<=6)->(Ir ws us).length<=us.length+6*ws.length
 |[],_=>by unfold Ir;simp
 |w::r,h=>by
  have ih:=R6 (us:=us) (ws:=r) λx hx=>h x (Zzs _ hx);have:=h w Zzq;unfold Ir at ih ⊢;simp only[Zzk,Zwg,Zz8,Zzz,Zyz] at ih ⊢;lia
theorem Oy(F:Fun K "needed_names" "needed_names" J9 f fd)(T:Txt mg)(C:Exc K mg c)(Zul:Has P w K mg base "part_names" 1 ["ware"] AW):Aq P w K mg base CX0 2 f fd ["shop"] CI:=by
 refine F.go ["shop", "names", "ware"] ?_ ?_ ?_;walk_at "f";let⟨v,S,rfl,rs,sd,k⟩:=h;have hu:=Ao hr;have hn:=sd.n;have un:=sd.un;have p6:∀w∈S.wares,w.parts.length<=6:=λw hw=>(sd.wv w hw).2.1.2.2.2.2.1;refine⟨_,(A1 (Dy (own:=["want"]) (cap:=[]) (i:=1) rfl (Cf rfl) (Av (by decide)) Nd rfl rfl (Er (Ac hu (pv 0) A5))
 (λ_ _ _ _ _ _=>⟨(Ax (i:=0) (GA rfl) rfl (Zyr rfl) (.inr rfl)),Bi,(Ac hu (pv 0) A5)⟩))
 (A1 (Bj PassesOwn.never rfl (Er (Ac hu (pv 0) A5)) (Cj 2 Nd)
 (A3 (Bm (D2 Zyw PySem.F.slot_list_extend PySem.F.type_list_extend j0 (pv 1) (A2 (A9 Zul hr.z rfl (A2 (pv 2) A0)) A0)))))
 (A3 (Ad (pv 1))))),?_⟩
 walk_at "rd";let⟨a,b,c,ws,us,rfl,ha,hb,hc,rws,rus⟩:=Cy rs;have hlw:=B8 rws;have hlu:=B8 rus;refine⟨_,Ag (j:=1) ha rfl,c,rfl,us,hc,?_⟩;refine By (Fv c us) (Am (by lia)) (λH' s'=>s' _ _ hc) ((S.wants.map (·.1)).map V.str) (by simp[hlu]) (λi y H' hi hy s' N M hN=>?_) (λH1 s1 p hp=>?_)
 ·let⟨u,eu,ru⟩:=Bl rus hy;let⟨ua,rfl,hua⟩:=L6 ru;walk_at "rd";exact⟨_,Ag (j:=0) (s' _ _ hua) rfl,hN _ _ s' (by rw[Zzx,Zzx,eu];rfl)⟩
 have u1:=s1.trans (A7 (o:=.lst ((S.wants.map (·.1)).map V.str)) hp);have fp:H p=none:=AB.free s1 hp;refine⟨_,Ag (j:=0) (u1 _ _ ha) rfl,b,rfl,ws,u1 _ _ hb,?_⟩;refine D7 (Fv b ws) (A4p (.ref a) p S H) ⟨_,rfl,by rw[AA];unfold Ir;simp,u1⟩ (λi σ H' _ h=>by let⟨_,_,_,s⟩:=h;exact s _ _ hb) (λi x σ H2 hi hx h=>?_) (λσ H2 h=>?_)
 ·let⟨o2,rfl,hp2,s2⟩:=h;let⟨wr,ew,rw'⟩:=Bl rws hx;have hm:=Zzn ew;have wb:=(sd.wv wr hm).2.1;walk_at "rd";refine⟨E6 hp2,x,wr,rfl,RD.same s2 _ _ rw',⟨by have:=wb.2.2.2.2.1;lia,by have:=wb.2.2.2.2.2.2.2.1;lia⟩,λq H3 hq hq3 s3=>?_⟩;have hnl:=R6 (us:=S.wants) (ws:=S.wares.take i) λx hx=>p6 x (List.mem_of_mem_take hx);rw[Zyy] at hnl;have:=p6 wr hm;refine⟨p,q,_,_,rfl,rfl,s3 _ _ hp2,hq3,Zzp (m:=1000) (by simp only[Zzz];lia) (by decide),_,rfl,?_,λb' o' e=>?_⟩
  ·rw[AA,<- Zzd];congr 3;unfold Ir;rw[Zz6,ew,Zzd,List.flatten_append,List.append_assoc];simp
  ·rw[A6 (A8 e fp)];exact s3 _ _ (s2 _ _ e)
 ·let⟨o2,rfl,hp2,s2⟩:=h;walk_at "rd";rw[hlw,Zz7] at hp2;exact k p H2 hp2 s2
def okS(S:Sh):Bool:=decide (S.wares.map (·.name)).Nodup&&(Ir S.wares S.wants).all λx=>decide (x∈Bp S)
theorem SD.okS(sd:SD S):okS S=true:=by
 unfold K72.okS;rw[GB sd.nd,Zyk,Zyv];intro nm hm;refine GB ?_;unfold Ir at hm;rcases Zz3.mp hm with z | z
 ·let⟨u,hu,rfl⟩:=Zzt.mp z;exact(sd.us u hu).1
 ·let⟨l,hl,hx⟩:=List.mem_flatten.mp z;let⟨w,hw,rfl⟩:=Zzt.mp hl;let⟨p,hp,rfl⟩:=Zzt.mp hx;exact sd.own w hw p hp
inductive DV (vs:List V) (H:Hp) (Q:VK) (E:XK):Prop | mk (v:V) (S:Sh) (_:vs=[v]) (_:RD H S.d v) (_:SD0 S) (_:∀H',AB H H'->Q (.bl (okS S)) H')
theorem aj(F:Fun K "is_shop" "is_shop" Ty f fd)(T:Txt mg)(C:Exc K mg c)(Zsn:Has P w K mg base "are_wants" 5 ["found"] CZ)(Zsm:Has P w K mg base "are_wares" 7 ["found"] CY)(Zup:Has P w K mg base "is_tuple" 1 ["found", "least", "most"] AR)(Zui:Has P w K mg base "names_of" 1 ["shop"] BE)(Ztb:Has P w K mg base "needed_names" 2 ["shop"] CI):Aq P w K mg base CX0 8 f fd ["found"] DV:=by
 refine F.go ["found", "names"] ?_ ?_ ?_;walk_at "f";let⟨v,S,rfl,rs,sd,k⟩:=h;have hu:=Ao hr;have hn:=sd.n;have un:=sd.un;refine⟨_,(A1 (As (PW.pt (E8 (B1 (B5 (A9 Zup hr.z rfl (A2 (pv 0) (A2 A5 (A2 A5 A0)))))) (E8 (B1 (B5 (A9 Zsm hr.z rfl (A2 (Ac hu (pv 0) A5) A0)))) (D1 (B1 (B5 (A9 Zsn hr.z rfl (A2 (Ac hu (pv 0) A5) A0)))))))) (A3 (Ad Di)) Ai)
 (A1 (N0 (i:=1) Nd rfl (Or.inr rfl) (A9 Zui hr.z rfl (A2 (pv 0) A0)))
 (A3 (Ad (Ah (Dr rfl) rfl T.Zt7 He (A2 (Bs (own:=["name"]) (cap:=[1]) rfl (Cf rfl) (Av (by decide)) (Dl (A9 Ztb hr.z rfl (A2 (pv 0) A0)))
 (λ_ _ _ _ _ _=>⟨(Ax (i:=0) (GA rfl) rfl (Zyr rfl) (.inr rfl)),Bi,(Bt (Kt hu) (pv 0) (pv 1) rfl)⟩)) A0)))))),?_⟩
 walk_at "rd";let⟨a,b,c,ws,us,rfl,ha,hb,hc,rws,rus⟩:=Cy rs;refine⟨a,_,2,2,rfl,ha,Zz5 _,Zz5 _,_,rfl,?_⟩;rw[GD (by decide)];refine⟨_,Ag (j:=0) ha rfl,_,S.wares,rfl,RD.tup_mk hb rws,hn,sd.wv,λH1 s1=>⟨_,rfl,?_⟩⟩;by_cases nd:(S.wares.map (·.name)).Nodup;rotate_left
 ·rw[GC nd,GE (by decide)];have k:=k H1 s1;unfold okS at k;rw[GC nd] at k;exact k
 rw[GB nd,GD (by decide)];refine⟨_,Ag (j:=1) (s1 _ _ ha) rfl,_,S.wants,rfl,RD.same s1 _ _ (RD.tup_mk hc rus),un,λu hu=>⟨(sd.us u hu).1,(sd.us u hu).2.1,(sd.us u hu).2.2.1⟩,λH2 s2=>⟨_,rfl,?_⟩⟩;rw[GD (by decide)];have s02:=s1.trans s2;refine⟨_,S,rfl,RD.same s02 _ _ rs,by lia,λp H3 hp hp3 s3=>⟨_,S,rfl,RD.same (s02.trans s3) _ _ rs,sd,λq H4 hq s4=>⟨q,rfl,_,hq,?_⟩⟩⟩;have nl:=R6 (us:=S.wants) (ws:=S.wares) λw hw=>(sd.wv w hw).2.1.2.2.2.2.1;refine By (Ec q _) (Am (by rw[Zzz];lia)) (λH' s'=>s' _ _ hq) (((Ir S.wares S.wants).map λx=>decide (x∈Bp S)).map V.bl) (by simp) (λi z H' hi hz s' N M hN=>?_) (λH6 s6 r hr6=>?_)
 ·rw[Zzx] at hz;cases en:(Ir S.wares S.wants)[i]? with
  |none=>rw[en] at hz;cases hz
  |some nm =>
  rw[en] at hz;have hz:V.str nm=z:=Zzm hz;subst hz;walk_at "rd";refine⟨_,.inl ⟨p,_,rfl,.inl (s' _ _ (s4 _ _ hp3)),rfl,Ex _,rfl⟩,?_⟩;rw[Jl];exact hN _ _ s' (by rw[Zzx,Zzx,en];rfl)
 ·refine⟨r,rfl,_,AA,?_⟩;have k:=k _ ((s02.trans s3).trans (s4.trans (s6.trans (A7 (o:=.lst (((Ir S.wares S.wants).map λx=>decide (x∈Bp S)).map V.bl)) hr6))));unfold okS at k;rw[GB nd,Zyk] at k;rw[Zvw];exact k
end
end
section
variable {dk:Dk}{c:Cl}
noncomputable def DA:List Nat:=("0123456789" : Str).cps.toList
def Gb(x:Str):Bool:=decide (x = "0")||!decide ((⟨#[x.cps.toList.headD 0]⟩:Str) = "0")
def Ew(x:Str):Bool:=decide (1<=x.length)&&decide (x.length<=60)&&(x.cps.toList.all λc=>decide (c∈DA))&&Gb x
theorem xk{bs:List Bool}{Q:VK}{H2:Hp}(hx:x.length<=1000)(h1:1<=x.length)(k:Q (V.bl (bs.all id&&Gb x)) H2) :
  if (!bs.all id)=true then Q (V.bl false) H2 else w6 (V.str x) (V.str (Str.ofString "0"))=true/\if decide (x=Str.ofString "0")=true then Q (V.bl true) H2 else ∃v,Tc H2 (V.str x) (V.int 0) v/\w6 v (V.str (Str.ofString "0"))=true/\Q (V.bl !decide (v=V.str (Str.ofString "0"))) H2:=by
 cases ha:bs.all id with
 |false =>
  rw[ha] at k;exact k
 |true =>
  rw[ha,Zyk] at k;rw[GD (by decide)];refine⟨rfl,Do (λh4=>?_) (λh4=>?_)⟩
  ·have:Gb x=true:=by
    unfold Gb;have h4:decide (x=("0" : Str))=true:=h4;rw[h4];rfl
   rw[this] at k;exact k
  ·have hl:x.cps.toList.length=x.length:=Zy8
   refine⟨_,rf (Am hx) (by decide) (c:=x.cps.toList.headD 0) ?_,rfl,?_⟩
   ·cases e:x.cps.toList with
    |nil=>rw[e] at hl;simp at hl;lia
    |cons a r=>rfl
   ·have:Gb x=!decide (V.str (⟨#[x.cps.toList.headD 0]⟩:Str)=V.str (Str.ofString "0")):=by
     unfold Gb;have h4:decide (x=("0" : Str))=false:=Zvm.mpr h4;rw[h4,Bool.false_or];congr 1;exact decide_eq_decide.mpr ⟨λz=>by rw[z],λz=>V.str.inj z⟩
    rw[this] at k;exact k
inductive DB (vs:List V) (H:Hp) (Q:VK) (E:XK):Prop | mk (x:_) (_:vs=[.str x]) (_:1<=x.length) (_:x.length<=60) (_:∀H',AB H H'->Q (.bl (Ew x)) H')
theorem Vr(F:Fun K "is_number" "is_number" O8 f fd)(T:Txt mg)(C:Exc K mg c):Aq P w K mg base CX0 1 f fd ["word"] DB:=by
 refine F.go ["word"] ?_ ?_ ?_;walk_at "f";let⟨x,rfl,h1,h2,k⟩:=h;have hu:=Ao hr;refine⟨_,(A1 (As (PW.pt (E8 (B1 (B5 (Ah Cu rfl T.Zuo Aw (A2 (pv 0) (A2 (Fy (v:=.ty "str") rfl T.Zt1 Ii rfl) A0))))) (D1 (B1 (Qi Lr Lr A5 (Ah BL rfl T.Zu7 D8 (A2 (pv 0) A0)) (Af rfl T.Zu2)))))) (A3 (Ad Di)) Ai)
 (A1 (As (B1 (B5 (Ah (Dr rfl) rfl T.Zt7 He (A2 (Bs (own:=["sign"]) (cap:=[]) rfl (Cf rfl) (Av (by decide)) (G9 (pv 0))
 (λ_ _ _ _ _ _=>⟨(Ax (i:=0) (GA rfl) rfl (Zyr rfl) (.inr rfl)),Bi,(Bt (Kt hu) (pv 0) (Jf rfl T.Zt4) rfl)⟩)) A0)))) (A3 (Ad Di)) Ai)
 (A3 (Ad (A3g (Bt (Bd hu) (pv 0) Aa (Ak _)) (E9 (Bt (Hy hu) (Ac hu (pv 0) A5) Aa (Ak _)))))))),?_⟩
 walk_at "rd";refine⟨_,rfl,?_⟩;rw[GD (by decide)];refine⟨Am (by lia),?_⟩;rw[GE (GB (by lia)),GD (by rw[GB (by lia)];decide)];refine By (sh x) (Am (Zzp h2 (by decide))) (λ_ _=>trivial) ((x.cps.toList.map λc=>decide (c∈DA)).map V.bl) (by simp) (λi y H' hi hy s' N M hN=>?_) (λH' s' p hp=>?_)
 ·let⟨c,hc,rfl⟩:=hy;rw[<- Zwe] at hc;walk_at "rd";refine⟨_,.inr (.inl ⟨_,_,rfl,rfl,rfl⟩),?_⟩;rw[StrLaws.found_one];exact hN _ _ s' (by rw[Zzx,Zzx,hc];rfl)
 ·refine⟨p,rfl,_,AA,?_⟩;refine xk (by lia) h1 ?_;have e:(x.cps.toList.map λc=>decide (c∈DA)).all id=x.cps.toList.all λc=>decide (c∈DA):=by rw[Zvw];rfl
  have k:=k _ (s'.trans (A7 (o:=.lst ((x.cps.toList.map λc=>decide (c∈DA)).map V.bl)) hp));unfold Ew at k;rw[GB h1,GB h2,Zyk,Zyk] at k;rw[e];exact k
theorem Tl:∀(k m:Nat),m<10^(k+1)->(Zx2 10 m).length<=k+1
 |0,m,h=>by rw[Zwn (by lia)];exact Zzu _
 |k+1,m,h=>by
  by_cases z:m<10
  ·rw[Zwn z];show 1<=k+1+1;lia
  ·have hm:m % 10<10:=Nat.mod_lt m (by decide)
   have t:Zx2 10 (m / 10)++Zx2 10 (m % 10)=Zx2 10 (10*(m / 10)+m % 10):=Nat.toDigits_append_toDigits (by decide) (by lia) hm;rw[Nat.div_add_mod] at t;rw[<- t,Zz8,Zwn hm];have:=Tl k (m / 10) (by rw[Nat.pow_succ] at h;lia);show _+1<=_;lia
theorem Zi:∀(m:Nat),0<m->∃c r,Zx2 10 m=c::r/\c.toNat≠48:=by
 intro m;induction m using Nat.strongRecOn with
 |_ m ih =>
  intro h0;by_cases z:m<10
  ·rw[Zwn z];have k:∀d:Nat,d<10->0<d->(Nat.digitChar d).toNat≠48:=by decide
   exact⟨_,[],rfl,k m z h0⟩
  ·have hm:m % 10<10:=Nat.mod_lt m (by decide)
   have t:Zx2 10 (m / 10)++Zx2 10 (m % 10)=Zx2 10 (10*(m / 10)+m % 10):=Nat.toDigits_append_toDigits (by decide) (by lia) hm;rw[Nat.div_add_mod] at t;let⟨c,r,e,hc⟩:=ih (m / 10) (by lia) (by lia);exact⟨c,r++Zx2 10 (m % 10),by rw[<- t,e];rfl,hc⟩
theorem yv{c:Nat}(h:48<=c/\c<=57):c∈DA:=by
 rw[show DA=List.range' 48 10 by decide +kernel,List.mem_range'_1];exact⟨h.1,Nat.lt_succ_of_le h.2⟩
theorem g9{k:Nat}(hk:k<600){n:Int}(h0:0<=n)(h1:n<10^(k+1)):(∀c∈(Str.ofString (toString n)).cps.toList,48<=c/\c<=57)/\Zxq (Str.ofString (toString n))=some n/\1<=(Str.ofString (toString n)).length/\(Str.ofString (toString n)).length<=k+1:=by
 let⟨m,rfl⟩:=Zx9 h0;have hs:=KIN.signs_num m;have hl:(Str.ofString (toString ((m:Nat):Int))).cps.toList.length=(Str.ofString (toString ((m:Nat):Int))).length:=Zy8;rw[hs,Zzz] at hl;have a1:=Tl k m (by exact_mod_cast h1);have a0:=toDigits_len_ge 10 m;have hd:∀c∈(Str.ofString (toString ((m:Nat):Int))).cps.toList,48<=c/\c<=57:=by
  intro c hc;rw[hs] at hc;let⟨ch,hch,e⟩:=Zzt.mp hc;have r:=PyProof.Rows.digit_range (Nat.isDigit_of_mem_toDigits (by decide) (by decide) hch);rw[<- e];exact r
 have ne:(Str.ofString (toString ((m:Nat):Int))).cps.toList≠[]:=by
  intro e;have:=congrArg Zxn e;rw[hs,Zzz,Zwi] at this;lia
 have e:=intText_digits hd ne (by lia);rw[hs,KIN.val_back] at e;exact⟨hd,e,by lia,by lia⟩
theorem P5{n:Int}(h0:0<=n)(h1:n<10^60):Ew (Str.ofString (toString n))=true/\Zxq (Str.ofString (toString n))=some n/\1<=(Str.ofString (toString n)).length/\(Str.ofString (toString n)).length<=60:=by
 let⟨hd,hi,l1,l2⟩:=g9 (k:=59) (by decide) h0 h1;refine⟨?_,hi,l1,l2⟩;let⟨m,rfl⟩:=Zx9 h0;have hs:=KIN.signs_num m;unfold Ew;rw[GB l1,GB l2,Zyk,Zyk,Zz1];constructor
 ·rw[Zyv];intro c hc;exact GB (yv (hd c hc))
 ·unfold Gb;by_cases z:m=0
  ·subst z;have:(Str.ofString (toString (((0:Nat)):Int)))=("0" : Str):=rfl;rw[GB this];rfl
  ·let⟨c,r,e,hc⟩:=Zi m (by lia);have:¬ ((⟨#[(Str.ofString (toString ((m:Nat):Int))).cps.toList.headD 0]⟩:Str) = "0"):=by
    rw[hs,e];intro q;have q:=congrArg (λz:Str=>z.cps.toList) q;have e2:("0" : Str).cps.toList=[48]:=by decide +kernel
    rw[e2] at q;exact hc (Zy7 q).1
   rw[GC this,Bool.not_false,Bool.or_true]
theorem pj(h:Ew x=true):∃n,Zxq x=some n:=by
 unfold Ew at h;simp only[Zz1,decide_eq_true_eq] at h;let⟨⟨⟨h1,h2⟩,h3⟩,h4⟩:=h;have hl:x.cps.toList.length=x.length:=Zy8;refine⟨_,intText_digits (λc hc=>?_) (λe=>?_) (Zzp h2 (by decide))⟩
 ·have:=GA (Zyv.mp h3 c hc)
  have k:∀c∈DA,48<=c/\c<=57:=by decide +kernel
  exact k c this
 ·rw[e] at hl;simp at hl;lia
def J0(c:Cl):Sp:=λvs H Q E=>∃x,vs=[.str x]/\1<=x.length/\x.length<=60/\(Ew x=true->∀n H',Zxq x=some n->AB H H'->Q (.int n) H')/\(Ew x=false->∀H',AB H H'->E (.ref c.NoText) none H')
theorem Py:Bu ["word"] ["word"] (Ap Gw):=by walk_at "sc"
theorem Qt(F:Fun K "read_number" "read_number" Gw f fd)(T:Txt mg)(C:Exc K mg c)(Zsl:Has P w K mg base "is_number" 1 ["word"] DB):Aq P w K mg base (CXE P w) 2 f fd ["word"] (J0 c):=by
 refine F.okX Py (λvs H Q E h=>?_) (λcdv A outer s H vs Q E hr h=>?_)
 ·let⟨x,rfl,_⟩:=h;rfl
 ·let⟨x,rfl,h1,h2,k,ke⟩:=h;have hu:=Ao hr;refine⟨_,(A1 (As (B1 (B5 (A9 Zsl hr.z rfl (A2 (pv 0) A0)))) (A3 (Cb Gn rfl rfl C.Zte (C.ex .text).1 (A2 Aa A0))) Ai)
 (A3 (Ad (Bf jw rfl T.Zrf Wv (A2 (pv 0) A0))))),?_⟩
  walk_at "rd";refine⟨x,rfl,h1,h2,λH1 sm=>⟨Ew x,rfl,?_⟩⟩;cases hb:Ew x with
  |false=>exact⟨by decide,ke hb H1 sm⟩
  |true =>
   let⟨n,hn⟩:=pj hb;exact⟨n,hn,by lia,k hb n H1 hn sm⟩
noncomputable def La(c:Cl):Sp:=λvs H Q E=>∃(x:Str),vs=[.str x]/\((Al x=true/\∀H',AB H H'->Q (.str x) H')\/(x = "A" /\ ∀H',AB H H'->E (.ref c.NoText) none H'))
theorem V4:Bu ["word"] ["word"] (Ap J8):=by walk_at "sc"
theorem Vk(F:Fun K "read_name" "read_name" J8 f fd)(T:Txt mg)(C:Exc K mg c)(Zuf:Has P w K mg base "is_name" 1 ["found"] BM):Aq P w K mg base (CXE P w) 2 f fd ["word"] (La c):=by
 refine F.okX V4 (λvs H Q E h=>?_) (λcdv A outer s H vs Q E hr h=>?_)
 ·let⟨x,rfl,_⟩:=h;rfl
 ·let⟨x,rfl,h⟩:=h;have hu:=Ao hr;refine⟨_,(A1 (As (B1 (B5 (A9 Zuf hr.z rfl (A2 (pv 0) A0)))) (A3 (Cb Gn rfl rfl C.Zte (C.ex .text).1 (A2 Aa A0))) Ai)
 (A3 (Ad (pv 0)))),?_⟩
  walk_at "rd";rcases h with ⟨hb,k⟩ | ⟨rfl,ke⟩
  ·refine .inl ⟨x,rfl,hb,λH1 sm=>⟨_,rfl,?_⟩⟩;rw[GD (by decide)];exact k H1 sm
  ·refine .inr ⟨rfl,λH1 sm=>⟨_,rfl,?_⟩⟩;rw[GE (by decide)];exact⟨by decide,ke H1 sm⟩
end
section
variable {dk:Dk}{c:Cl}
noncomputable def AJ:Key->Str
 |.inl i=>Str.ofString (toString i)
 |.inr x=>x
def Ef:Key->Str
 |.inl _ => "number"
 |.inr _ => "name"
def Il:Key->Prop
 |.inl i=>0<=i/\i<10^60
 |.inr x=>Al x=true
def Fm(s x:Str):Bool:=if s = "name" then Al x else Ew x
def Ee(s x:Str):Key:=if s = "name" then .inr x else .inl ((Zxq x).getD 0)
def Fi(ws fs:List Str):Bool:=decide (ws.length=fs.length)&&(ws.zip fs).all λz=>Fm z.2 z.1
def Go(ws fs:List Str):List Key:=(ws.zip fs).map λz=>Ee z.2 z.1
theorem Qy:("number" : Str) ≠ "name" := by decide +kernel
theorem Um{k:Key}(h:Il k):Fm (Ef k) (AJ k)=true/\Ee (Ef k) (AJ k)=k:=by
 cases k with
 |inl n =>
  have q:=P5 h.1 h.2;unfold Fm Ee;rw[GD (show ¬ Ef (.inl n) = "name" from Qy),GD (show ¬ Ef (.inl n) = "name" from Qy)];exact⟨q.1,congrArg Zwu (by show (Zxq (Str.ofString (toString n))).getD 0=n;rw[q.2.1];rfl)⟩
 |inr x =>
  unfold Fm Ee;rw[GE (show Ef (.inr x) = "name" from rfl),GE (show Ef (.inr x) = "name" from rfl)];exact⟨h,rfl⟩
theorem n9(h:∀k∈ks,Il k):Fi (ks.map AJ) (ks.map Ef)=true/\Go (ks.map AJ) (ks.map Ef)=ks:=by
 have ez:(ks.map AJ).zip (ks.map Ef)=ks.map λk=>(AJ k,Ef k):=by rw[List.zip_map']
 unfold Fi Go;rw[ez,Zzz,Zzz,GB rfl,Zyk,Zyq];refine⟨?_,?_⟩
 ·rw[Zvw];exact Zyv.mpr λk hk=>(Um (h k hk)).1
 ·have:∀l:List Key,(∀k∈l,Il k)->l.map ((λz:Str×Str=>Ee z.2 z.1)∘λk=>(AJ k,Ef k))=l:=λl=>by
   induction l with
   |nil=>intro _;rfl
   |cons k r ih =>
    intro h;rw[Zzk,ih λx hx=>h x (Zzs _ hx)];exact congrArg (·::r) (Um (h k Zzq)).2
  exact this ks h
theorem Xe(h:SqT K H b xs)(s:AB H H'):SqT K H' b xs:=by
 rcases h with (e | ⟨o,e⟩) | h
 ·exact .inl (.inl (s _ _ e))
 ·exact .inl (.inr ⟨o,s _ _ e⟩)
 ·exact .inr h
def Os(ws fs:List Str):Prop:=∀z∈ws.zip fs,if z.2 = "name" then Al z.1=true\/z.1 = "A" else 1<=z.1.length/\z.1.length<=60
def Gv(K:Zzy)(c:Cl):Sp:=λvs H Q E=>∃(a:Addr) (fv:V) (ws:List Str),vs=[.ref a,fv]/\H a=some (.lst (ws.map V.str))/\ws.length<=100/\((fv=.non/\E (.ref c.NoText) none H)\/∃(b:Addr) (fs:List Str),fv=.ref b/\SqT K H b (fs.map V.str)/\(ws.length=fs.length->Os ws fs)/\(Fi ws fs=true->∀p H',H p=none->H' p=some (.lst ((Go ws fs).map kV))->AB H H'->Q (.ref p) H')/\(Fi ws fs=false->∀H',AB H H'->E (.ref c.NoText) none H'))
inductive A0q (a b p:Addr) (ws fs:List Str) (H:Hp) (i:Nat) (σ:St) (H':Hp):Prop | mk (o1 o2:Option V) (_:σ=[some (.ref a),some (.ref b),some (.ref p),o1,o2]) (_:H' p=some (.lst (((Go ws fs).take i).map kV))) (_:(∀z∈(ws.zip fs).take i,Fm z.2 z.1=true)) (_:AB H H')
theorem BH:Bu ["words", "form", "told", "word", "sort"] ["words", "form"] (Ap Hv):=by walk_at "sc"
theorem Sa(F:Fun K "read_words" "read_words" Hv f fd)(T:Txt mg)(C:Exc K mg c)(Zsk:Eh P w K mg base "read_name" 2 ["word"] (La c))(Zt3:Eh P w K mg base "read_number" 2 ["word"] (J0 c)):Aq P w K mg base (CXE P w) 3 f fd ["words", "form"] (Gv K c):=by
 refine F.okX BH (λvs H Q E h=>?_) (λcdv A outer s H vs Q E hr h=>?_)
 ·let⟨a,fv,ws,rfl,_⟩:=h;rfl
 ·let⟨a,fv,ws,rfl,ha,hl,h⟩:=h;have hu:=Ao hr;refine⟨_,(A1 (As (PW.pt (E8 (Aj Qr (pv 1) Dn (Ak _)) (D1 (Aj (Hy hu) (Ah Ch rfl T.Zu7 D8 (A2 (pv 0) A0)) (Ah Ih rfl T.Zu7 D8 (A2 (pv 1) A0)) (Ak _))))) (A3 (Cb Gn rfl rfl C.Zte (C.ex .text).1 (A2 Aa A0))) Ai)
 (A1 (B4 2 BH.nd (B7 A0))
 (A1 (Bj PassesOwn.leaving rfl (e8 rfl T.Zrw (A2 (pv 0) (A2 (pv 1) A0))) (Et (n:=2) rfl (Az (Cj 3 BH.nd) (Az (Cj 4 BH.nd) Df)))
 (A3 (Bm (D2 Zyw Zyn Zym Co (pv 2) (A2 (Lq (Aj (Bd hu) (pv 4) Aa (Ak _)) (B0 Zsk Fc hr.z rfl (A2 (pv 3) A0)) (B0 Zt3 Fc hr.z rfl (A2 (pv 3) A0))) A0)))))
 (A3 (Ad (pv 2)))))),?_⟩
  rcases h with ⟨rfl,ke⟩ | ⟨b,fs,rfl,hb,fine,k,ke⟩
  ·walk_at "rd";rw[GE (by decide)];exact⟨by decide,ke⟩
  walk_at "rd";rw[GD (by decide)];refine⟨_,.inl ha,_,.inr hb,rfl,?_⟩;by_cases el:ws.length=fs.length;rotate_left
  ·rw[GE (by rw[GC (by simp only[Zzz];lia)];rfl)];refine⟨by decide,ke ?_ H (AB.refl H)⟩;unfold Fi;rw[GC el,Zx6]
  rw[GD (by rw[GB (by simp only[Zzz];lia)];decide)];refine⟨by decide,λp hp=>?_⟩;have u:=A7 (o:=.lst []) hp;have hpa:a≠p:=A8 ha hp;refine⟨_,u _ _ ha,_,Xe hb u,?_⟩;have zl:(ws.zip fs).length=ws.length:=by rw[List.length_zip,el,Nat.min_self]
  have hmin:min (ws.map V.str).length (fs.map V.str).length=(ws.zip fs).length:=by rw[Zzz,Zzz,List.length_zip]
  have kl:(Go ws fs).length=(ws.zip fs).length:=by unfold Go;rw[Zzz]
  refine Rm (sg _ a b _ _) (A0q a b p ws fs H) ⟨_,_,rfl,AA,(λz hz=>nomatch hz),u⟩ (λi σ H' _ h=>?_) (λi ys t σ H' hi hy h ht=>?_) (λσ H' h=>?_)
  ·let⟨_,_,_,_,_,s'⟩:=h;exact⟨s' _ _ ha,Xe hb s'⟩
  ·let⟨o1,o2,rfl,hp1,hg,s1⟩:=h;let⟨y,z,ey,ez,rfl⟩:=hy;rw[hmin] at hi;obtain⟨x,ex⟩:∃x,ws[i]?=some x:=⟨_,Zzl (by lia)⟩;obtain⟨s',es⟩:∃s',fs[i]?=some s':=⟨_,Zzl (by lia)⟩;rw[Zzx] at ey ez;rw[ex] at ey;rw[es] at ez;have ey:V.str x=y:=Zzm ey;have ez:V.str s'=z:=Zzm ez;subst ey ez;have ezz:(ws.zip fs)[i]?=some (x,s'):=by rw[List.getElem?_zip_eq_some];exact⟨ex,es⟩
   have ut:=A7 (o:=.tup [V.str x,V.str s']) ht;have s2:=s1.trans ut;have hp2:=ut _ _ hp1;refine gT2 ?_;generalize upd H' t (.tup [V.str x,V.str s'])=H2 at s2 hp2;walk_at "rd";have hlen:(((Go ws fs).take i).map kV).length<1000:=by rw[Zzz,Zyy];lia
   have fx:=fine el _ (Zzn ezz);have go:Fm s' x=true->∀(vv:V) H3,vv=kV (Ee s' x)->AB H2 H3->∃y,H3 p=some (.lst y)/\y.length<sizeLine/\A0q a b p ws fs H (i+1) [some (.ref a),some (.ref b),some (.ref p),some (.str x),some (.str s')] (upd H3 p (.lst (y++[vv]))):=λhc vv H3 ev s3=>by
    subst ev;refine⟨_,s3 _ _ hp2,Zzb hlen (Am (Zzu _)),_,_,rfl,?_,λz hz=>?_,λc o e=>?_⟩
    ·have:(Go ws fs)[i]?=some (Ee s' x):=by unfold Go;rw[Zzx,ezz];rfl
     rw[AA,Zz6,this,Zzd];rfl
    ·rw[Zz6,ezz] at hz;rcases Zz3.mp hz with q | q
     ·exact hg z q
     ·rw[Zzh.mp q];exact hc
    ·rw[A6 (A8 e hp)];exact s3 _ _ (s2 _ _ e)
   have bad:Fm s' x=false->Fi ws fs=false:=λhc=>by
    unfold Fi;rw[Bool.and_eq_false_iff];refine .inr (Zvm.mpr λha=>?_);have:=Zyv.mp ha _ (Zzn ezz);rw[hc] at this;cases this
   refine⟨E6 hp2,rfl,Do (λcn=>?_) (λcn=>?_)⟩
   ·have en:s' = "name" := GA cn
    have eb:Fm s' x=Al x:=by unfold Fm;rw[GE en]
    rw[GE en] at fx;rcases fx with fx | rfl
    ·exact⟨x,rfl,.inl ⟨fx,λH3 s3=>go (eb.trans fx) _ H3 (by unfold Ee;rw[GE en];rfl) s3⟩⟩
    ·exact⟨_,rfl,.inr ⟨rfl,λH3 s3=>ke (bad (eb.trans (by decide +kernel))) H3 (s2.trans s3)⟩⟩
   ·have en:¬ s' = "name" := λz=>cn (GB z)
    have eb:Fm s' x=Ew x:=by unfold Fm;rw[GD en]
    rw[GD en] at fx;refine⟨x,rfl,fx.1,fx.2,λhc n H3 hn s3=>go (eb.trans hc) _ H3 (by unfold Ee;rw[GD en,hn];rfl) s3,λhc H3 s3=>ke (bad (eb.trans hc)) H3 (s2.trans s3)⟩
  ·let⟨o1,o2,rfl,hp1,hg,s1⟩:=h;rw[hmin] at hp1 hg;rw[Zxl (by rw[kl];exact Zzu _)] at hp1;rw[Zz7] at hg;walk_at "rd";refine k ?_ p H' hp hp1 s1;unfold Fi;rw[GB el,Zyk];exact Zyv.mpr hg
end
section
variable {dk:Dk}{c:Cl}
theorem E4{i:Int}(hi:0<=i):Fk xs (some i) none=xs.drop i.toNat:=by
 unfold Fk;rw[mw hi];have e:HT.sIx xs.length xs.length none=xs.length:=rfl;rw[e];by_cases h:i.toNat<=xs.length
 ·rw[Nat.min_eq_left h,Zxl (by rw[Zy4];exact Zzu _)]
 ·have h:xs.length<=i.toNat:=by lia
  rw[Nat.min_eq_right h,List.drop_length,List.drop_of_length_le h,List.take_nil]
noncomputable def Ge:List (Str×List Str):=[("ware",["name", "number", "number", "number", "number"]),("coming",["name", "number", "number"]),("part",["name", "name", "number"]),("want",["name", "number", "number"])]
structure Fn(r:Str×List Key):Prop where
 form:(r.1,r.2.map Ef)∈Ge
 cells:∀k∈r.2,Il k
def Eo(r:Str×List Key):Str:=Str.join (one 32) (r.1::r.2.map AJ)
def rowV(r:Str×List Key):List V:=.str r.1::r.2.map kV
theorem Gq{k:Key}(h:Il k):(32∉(AJ k).cps.toList/\10∉(AJ k).cps.toList)/\(AJ k).length<=60:=by
 cases k with
 |inl n =>
  let⟨h1,h2,h3,h4⟩:=P5 h.1 h.2;refine⟨?_,h4⟩;unfold Ew at h1;simp only[Zz1] at h1;have all:=Zyv.mp h1.1.2;exact⟨λz=>absurd (GA (all 32 z)) (by decide +kernel),λz=>absurd (GA (all 10 z)) (by decide +kernel)⟩
 |inr x =>
  have h:Al x=true:=h;unfold Al at h;simp only[Zz1,decide_eq_true_eq] at h;have all:=Zyv.mp h.2;exact⟨⟨λz=>absurd (GA (all 32 z)) (by decide +kernel),λz=>absurd (GA (all 10 z)) (by decide +kernel)⟩,Zzp h.1.2 (by decide)⟩
theorem Gg(h:Fn r):(32∉r.1.cps.toList/\10∉r.1.cps.toList)/\r.1.length<=60/\r.2.length<=5:=by
 have hf:=h.form;unfold Ge at hf;simp only[Zzw,Zz2,or_false,Prod.mk.injEq] at hf;have g:∀x:Str,x = "ware" \/ x = "coming" \/ x = "part" \/ x = "want" -> (32∉x.cps.toList/\10∉x.cps.toList)/\x.length<=60:=λx hx=>by
  rcases hx with rfl | rfl | rfl | rfl<;>decide +kernel
 have hl:r.2.length=(r.2.map Ef).length:=by rw[Zzz]
 rcases hf with ⟨e1,e2⟩ | ⟨e1,e2⟩ | ⟨e1,e2⟩ | ⟨e1,e2⟩<;>rw[e2] at hl
 ·exact⟨(g r.1 (.inl e1)).1,(g r.1 (.inl e1)).2,by rw[hl];decide⟩
 ·exact⟨(g r.1 (.inr (.inl e1))).1,(g r.1 (.inr (.inl e1))).2,by rw[hl];decide⟩
 ·exact⟨(g r.1 (.inr (.inr (.inl e1)))).1,(g r.1 (.inr (.inr (.inl e1)))).2,by rw[hl];decide⟩
 ·exact⟨(g r.1 (.inr (.inr (.inr e1)))).1,(g r.1 (.inr (.inr (.inr e1)))).2,by rw[hl];decide⟩
theorem Mn(h:Fn r){P:Str->Prop}(h1:P r.1)(h2:∀k∈r.2,P (AJ k)):∀w∈r.1::r.2.map AJ,P w:=λw hw=>by
 rcases Zzw.mp hw with rfl | hw
 ·exact h1
 ·let⟨k,hk,rfl⟩:=Zzt.mp hw;exact h2 k hk
theorem U5(h:Fn r):Txt.split (Eo r) (one 32)=r.1::r.2.map AJ :=
 En (by decide) (by simp) (Mn h (P:=λw=>32∉w.cps.toList) (Gg h).1.1 λk hk=>(Gq (h.cells k hk)).1.1)
theorem dt(h:Fn r):(Eo r).length<=400:=by
 have:=Gd (sep:=one 32) (B:=60) (Mn h (P:=λw=>w.length<=60) (Gg h).2.1 λk hk=>(Gq (h.cells k hk)).2);have hl:=(Gg h).2.2;simp only[Zyz,Zzz] at this;have l1:(one 32).length=1:=rfl;unfold Eo;rw[l1] at this;lia
theorem kt(h:x∉l.map (·.1)):Ey l x=.non:=by
 unfold Ey;have:l.find? (λe=>decide (e.1=x))=none:=by
  rw[List.find?_eq_none];intro e he c;exact h (Zzt.mpr ⟨e,he,GA c⟩)
 rw[this]
theorem Wk{fs:List Str}(h:D9 K l x fs)(hl:fs.length<=1000):∃fa,Ey l x=.ref fa/\∀H:Hp,SqT K H fa (fs.map V.str):=by
 let⟨fa,tl,q1,q2,q3⟩:=h;refine⟨fa,q1,λH=>?_⟩;rw[<- q3];refine q2.sq ?_ H;rw[<- q3,Zzz] at hl;exact hl
theorem Md{fs:List Str}(h:ws.length≠fs.length):Fi ws fs=false:=by
 unfold Fi;rw[GC h,Zx6]
structure A4y(t:Str)(x:Str)(ws:List Str):Prop where
 sp:Txt.split t (one 32)=x::ws
 len:t.length<=1000
 few:ws.length<=100
 bad:x = "part" /\ ws.length≠3
theorem ng(h:∀k∈ks,Il k):Os (ks.map AJ) (ks.map Ef):=λz hz=>by
 rw[List.zip_map'] at hz;let⟨k,hk,rfl⟩:=Zzt.mp hz;have ok:=h k hk;cases k with
 |inl n =>
  have q:=P5 ok.1 ok.2;show if ("number" : Str) = "name" then _ else _
  rw[GD Qy];exact⟨q.2.2.1,q.2.2.2⟩
 |inr x =>
  show if ("name" : Str) = "name" then _ else _
  rw[GE rfl];exact .inl ok
def Ny(c:Cl):Sp:=λvs H Q E=>∃t:Str,vs=[.str t]/\((∃r:Str×List Key,Fn r/\t=Eo r/\∀p H',H p=none->H' p=some (.lst (rowV r))->AB H H'->Q (.ref p) H')\/∃x ws,A4y t x ws/\∀H',AB H H'->E (.ref c.NoText) none H')
theorem DK:Bu ["row", "words"] ["row"] (Ap Ko):=by walk_at "sc"
theorem Xx(F:Fun K "read_row" "read_row" Ko f fd)(T:Txt mg)(R:Rws w K mg)(C:Exc K mg c)(Zu0:Eh P w K mg base "read_words" 3 ["words", "form"] (Gv K c)):Aq P w K mg base (CXE P w) 4 f fd ["row"] (Ny c):=by
 refine F.okX DK (λvs H Q E h=>?_) (λcdv A outer s H vs Q E hr h=>?_)
 ·let⟨r,rfl,_⟩:=h;rfl
 ·let⟨t,rfl,h⟩:=h;have hu:=Ao hr;let⟨R_a,R_l,R_m,R_t,f1,f2,f3,f4,f5⟩:=R;refine⟨_,(A1 (B4 1 DK.nd (D2 Zy9 Zvf Zve R7 (pv 0) (A2 Aa A0)))
 (A3 (Ad (Ae Hz (B7 (A2 (Ac hu (pv 1) A5) A0)) (B0 Zu0 Fc hr.z rfl (A2 (C5 Ez (pv 1) (Cc A5) Db) (A2 (ee R_t (Du (v:=.ref R_a) rfl R_m rfl) (Ac hu (pv 1) A5) ⟨rfl,rfl,rfl,rfl⟩) A0))))))),?_⟩
  walk_at "rd";have ec:∀(x:Str) (ws:List Str),Fk (V.str x::ws.map V.str) (some 1) none=ws.map V.str:=λx ws=>by
   rw[E4 (by decide)];rfl
  obtain⟨x,ws,hsp,hlen,few⟩:∃x ws,Txt.split t (one 32)=x::ws/\t.length<=1000/\ws.length<=100:=by
   rcases h with ⟨r,ok,rfl,k⟩ | ⟨x,ws,bd,_⟩
   ·exact⟨_,_,U5 ok,Zzp (dt ok) (by decide),by rw[Zzz];have:=(Gg ok).2.2;lia⟩
   ·exact⟨x,ws,bd.sp,bd.len,bd.few⟩
  refine⟨rfl,32,by decide +kernel,Zzp hlen (by decide),λp hp=>?_⟩;rw[hsp,Zzk];have u1:=A7 (o:=.lst (V.str x::ws.map V.str)) hp;refine⟨_,An (j:=0) AA rfl,by decide,λp1 hp1=>?_⟩;have u2:=A7 (o:=.lst [V.str x]) hp1;refine⟨_,u2 _ _ AA,λp2 hp2=>?_⟩;rw[ec];have u3:=A7 (o:=.lst (ws.map V.str)) hp2;refine⟨_,An (j:=0) (u3 _ _ (u2 _ _ AA)) rfl,_,rfl,?_⟩;have uu:=(u1.trans u2).trans u3;have h31:=u3 _ _ (AA (H:=upd H p (.lst (V.str x::ws.map V.str))) (a:=p1) (o:=.lst [V.str x]));have h32:=AA (H:=upd (upd H p (.lst (V.str x::ws.map V.str))) p1 (.lst [V.str x])) (a:=p2) (o:=.lst (ws.map V.str));generalize upd (upd (upd H p (.lst (V.str x::ws.map V.str))) p1 (.lst [V.str x])) p2 (.lst (ws.map V.str))=H3 at uu h31 h32;rcases h with ⟨r,ok,rfl,k⟩ | ⟨x',ws',bd,ke⟩
  ·rw[U5 ok] at hsp;let⟨rfl,rfl⟩:=Zy7 hsp;have fm:D9 K R_l r.1 (r.2.map Ef):=by
    have hf:=ok.form;unfold Ge at hf;simp only[Zzw,Zz2,or_false,Prod.mk.injEq] at hf;rcases hf with ⟨q1,q2⟩ | ⟨q1,q2⟩ | ⟨q1,q2⟩ | ⟨q1,q2⟩<;>rw[q1,q2]<;>assumption
   have hl5:=(Gg ok).2.2;let⟨fa,q1,sq⟩:=Wk fm (by rw[Zzz];lia);rw[q1];let⟨g1,g2⟩:=n9 ok.cells;refine⟨p2,.ref fa,r.2.map AJ,rfl,h32,few,.inr ⟨fa,_,rfl,sq _,λ_=>ng ok.cells,λ_ p3 H4 hp3 hp3' s3=>?_,λz=>by rw[g1] at z;cases z⟩⟩;rw[g2] at hp3';refine⟨p3,rfl,_,s3 _ _ h31,_,hp3',Am (by rw[Zzz];simp;lia),λp4 hp4=>?_⟩;exact k p4 _ (AB.free (uu.trans s3) hp4) AA ((uu.trans s3).trans (A7 hp4))
  ·have hsp:=bd.sp.symm.trans hsp
   let⟨rfl,rfl⟩:=Zy7 hsp;let⟨rfl,nl⟩:=bd.bad;let⟨fa,q1,sq⟩:=Wk f3 (by decide);rw[q1];have gn:=Md (ws:=ws') (fs:=["name", "name", "number"]) nl;exact⟨p2,.ref fa,_,rfl,h32,few,.inr ⟨fa,_,rfl,sq _,(λz=>absurd z nl),(λz=>by rw[gn] at z;cases z),λ_ H' s'=>ke _ (uu.trans s')⟩⟩
end
section
variable {dk:Dk}{c:Cl}
def Lx:Key->PyData
 |.inl i=>.int i
 |.inr x=>.str x
abbrev R3:=Str×Str×List Key
def r3(r:R3):Str×List Key:=(r.1,.inr r.2.1::r.2.2)
def r3D(r:R3):PyData:=.list (.str r.1::.str r.2.1::r.2.2.map Lx)
noncomputable def Nx(r:R3):PyData:=.tuple (r.2.2.map Lx)
def Fx(s n:Str)(r:R3):Bool:=decide (r.1=s)&&decide (r.2.1=n)
theorem A1e{k:Key}(h:RD H (Lx k) v):v=kV k:=by
 cases k with
 |inl i=>rw[Lx,RD] at h;exact h
 |inr x=>rw[Lx,RD] at h;exact h
theorem wa(k:Key):RD H (Lx k) (kV k):=by
 cases k with
 |inl i=>exact RD.int_mk
 |inr x=>exact RD.str_mk
theorem Xo:∀{ks:List Key} {vs:List V},RDs H (ks.map Lx) vs->vs=ks.map kV
 |[],vs,h=>RDs.nil_of h
 |k::r,vs,h=>by
  let⟨x,r',rfl,h1,h2⟩:=RDs.cons_of h;rw[A1e h1,Xo h2];rfl
theorem Hm:∀ks:List Key,RDs H (ks.map Lx) (ks.map kV)
 |[]=>RDs.nil
 |k::r=>RDs.cons (wa k) (Hm r)
theorem P6(h:RD H (.list ds) v):∃a xs,v=.ref a/\H a=some (.lst xs)/\RDs H ds xs:=by rw[RD] at h;exact h
theorem du{r:R3}(h:RD H (r3D r) v):∃a,v=.ref a/\H a=some (.lst (.str r.1::.str r.2.1::r.2.2.map kV)):=by
 let⟨a,xs,rfl,ha,hx⟩:=P6 h;let⟨x,r1,rfl,h1,h2⟩:=RDs.cons_of hx;let⟨y,r2,rfl,h3,h4⟩:=RDs.cons_of h2;rw[RD] at h1 h3;rw[h1,h3,Xo h4] at ha;exact⟨a,rfl,ha⟩
inductive DW (vs:List V) (H:Hp) (Q:VK) (E:XK):Prop | mk (a:Addr) (rs:List R3) (s n:Str) (_:vs=[.ref a,.str s,.str n]) (_:RD H (.list (rs.map r3D)) (.ref a)) (_:rs.length<=1000) (_:(∀r∈rs,r.2.2.length<=5)) (_:∀p xs H',H p=none->H' p=some (.lst xs)->RDs H' ((rs.filter (Fx s n)).map Nx) xs->AB H H'->Q (.ref p) H')
theorem aa(F:Fun K "rows_of" "rows_of" Ts f fd)(T:Txt mg)(C:Exc K mg c):Aq P w K mg base CX0 1 f fd ["rows", "sort", "name"] DW:=by
 refine F.go ["rows", "sort", "name"] ?_ ?_ ?_;walk_at "f";let⟨a,rs,s',n,rfl,hrd,hl,hk,k⟩:=h;have hu:=Ao hr;refine⟨_,(A3 (Ad (Bs (own:=["row"]) (cap:=[1,2]) rfl (Cf rfl) (Av (by decide)) (Dl (pv 0))
 (λ_ _ _ _ _ _=>⟨(Ax (i:=0) (GA rfl) rfl (Zyr rfl) (.inr rfl)),(P7 (PW.pt (Mz (Aj (Bd hu) (Ac hu (pv 0) A5) (pv 1) (Ak _)) (Jv (Aj (Bd hu) (Ac hu (pv 0) A5) (pv 2) (Ak _)))))),(Bf Cg rfl T.Ztw Ds (A2 (C5 Ez (pv 0) (Cc A5) Db) A0))⟩)))),?_⟩
 walk_at "rd";let⟨a',vs,ea,ha,rv⟩:=P6 hrd;cases ea;have hvl:=B8 rv;refine⟨_,ha,?_⟩;refine Ky (Ec a _) (Am (by lia)) (λi acc H'=>RDs H' (((rs.take i).filter (Fx s' n)).map Nx) acc/\AB H H') ⟨RDs.nil,AB.refl _⟩ (λi acc H' _ h=>h.2 _ _ ha) (λi acc H' h=>?_) (λi x acc H' hi hx h=>?_) (λacc H' h p hp=>?_)
 ·have:=B8 h.1
  have h2:((rs.take i).filter (Fx s' n)).length<=i:=Zzp (Zxt _ _) (by rw[Zyy];lia);lia
 ·let⟨racc,s1⟩:=h;let⟨r,er,rr⟩:=Bl rv hx;let⟨ra,rfl,hra⟩:=du rr;have hra1:=s1 _ _ hra;have et:(rs.take (i+1)).filter (Fx s' n)=(rs.take i).filter (Fx s' n)++if Fx s' n r=true then [r] else []:=by
   rw[Zz6,er,Zxi];congr 1;by_cases z:Fx s' n r=true
   ·rw[GE z];simp[z]
   ·rw[GD z];simp[z]
  walk_at "rd";refine⟨_,An (j:=0) hra1 rfl,rfl,?_⟩;have no:Fx s' n r=false->RDs H' (((rs.take (i+1)).filter (Fx s' n)).map Nx) acc/\AB H H':=λz=>by
   rw[et,GD (by rw[z];decide),Zyt];exact⟨racc,s1⟩
  refine Do (λz1=>⟨_,An (j:=1) hra1 rfl,rfl,Do (λz2=>?_) (λz2=>no ?_)⟩) (λz1=>no ?_)
  ·have e1:r.1=s':=V.str.inj (GA z1)
   have e2:r.2.1=n:=V.str.inj (GA z2);have ec:Fk (V.str r.1::V.str r.2.1::r.2.2.map kV) (some 2) none=r.2.2.map kV:=by
    rw[E4 (by decide)];rfl
   refine⟨_,hra1,λp hp=>?_⟩;rw[ec];refine⟨_,.inl ⟨AA,λl hl=>?_⟩⟩;have u:=(A7 (o:=.lst (r.2.2.map kV)) hp).trans (A7 (o:=.tup (r.2.2.map kV)) hl);refine⟨?_,s1.trans u⟩;rw[et,GE (by unfold Fx;rw[GB e1,GB e2];rfl),Zzd];exact RDs.app (RDs.same u _ _ racc) (RDs.one (RD.tup_mk AA (Hm _)))
  ·have h2:decide (r.2.1=n)=false:=GC λz=>z2 (GB (by rw[z]))
   unfold Fx;rw[h2,Zwt]
  ·have h1:decide (r.1=s')=false:=GC λz=>z1 (GB (by rw[z]))
   unfold Fx;rw[h1,Zx6]
 ·let⟨racc,s1⟩:=h;rw[hvl,Zz7] at racc;exact k p acc _ (AB.free s1 hp) AA (RDs.same (A7 hp) _ _ racc) (s1.trans (A7 hp))
end
section
variable {dk:Dk}{c:Cl}
def Gu(rs:List R3)(r:R3):PyData:=.tuple ((.str r.2.1::r.2.2.map Lx)++[.tuple ((rs.filter (Fx "coming" r.2.1)).map Nx),.tuple ((rs.filter (Fx "part" r.2.1)).map Nx)])
def kg(r:R3):PyData:=.tuple (.str r.2.1::r.2.2.map Lx)
def isS(s:Str)(r:R3):Bool:=decide (r.1=s)
def wrD(rs:List R3):PyData:=.tuple [.tuple ((rs.filter (isS "ware")).map (Gu rs)),.tuple ((rs.filter (isS "want")).map kg)]
theorem fe:∀xs ys:List PyData,Cn xs=true->Cn ys=true->Cn (xs++ys)=true
 |[],ys,_,h=>h
 |x::r,ys,h1,h2=>by
  rw[Cn,Zz1] at h1;rw[Zwa,Cn,h1.1,fe r ys h1.2 h2];rfl
theorem px(k:Key):D5 (Lx k)=true:=by cases k<;>rfl
theorem Vz(r:R3):D5 (Nx r)=true:=by
 unfold Nx;rw[D5];exact Fs Lx px _
theorem pq(rs:List R3)(r:R3):D5 (Gu rs r)=true:=by
 unfold Gu;rw[D5];refine fe _ _ ?_ ?_
 ·rw[Cn,Fs Lx px];rfl
 ·simp only[Cn,D5,Fs Nx Vz,Zwz]
theorem M9{rs:List R3}{s:Str}{r:R3}(h:rs[i]?=some r):(rs.take (i+1)).filter (isS s)=(rs.take i).filter (isS s)++if r.1=s then [r] else []:=by
 rw[Zz6,h,Zxi];congr 1;unfold isS;by_cases z:r.1=s
 ·rw[GE z];simp[z]
 ·rw[GD z];simp[z]
theorem ya{l:Addr}{ys:List V}(h:H l=some (.lst xs)):AZ H (upd H l (.lst ys)):=r0 h (λ_ z=>by cases z)
inductive CJ (vs:List V) (H:Hp) (Q:VK) (E:XK):Prop | mk (a:Addr) (rs:List R3) (_:vs=[.ref a]) (_:RD H (.list (rs.map r3D)) (.ref a)) (_:rs.length<=1000) (_:(∀r∈rs,r.2.2.length<=5)) (_:∀t H',RD H' (wrD rs) (.ref t)->AB H H'->Q (.ref t) H')
inductive A4g (a q:Addr) (rs:List R3) (H:Hp) (i:Nat) (σ:St) (H':Hp):Prop | mk (vs:List V) (o1 o2 o3:Option V) (_:σ=[some (.ref a),some (.ref q),o1,o2,o3,none]) (_:H' q=some (.lst vs)) (_:RDs H' (((rs.take i).filter (isS "ware")).map (Gu rs)) vs) (_:AB H H')
theorem Ou(F:Fun K "written_shop" "written_shop" J4 f fd)(T:Txt mg)(C:Exc K mg c)(Zsp:Has P w K mg base "rows_of" 1 ["rows", "sort", "name"] DW):Aq P w K mg base CX0 2 f fd ["rows"] CJ:=by
 refine F.go ["rows", "wares", "row", "coming", "parts", "wants"] ?_ ?_ ?_;walk_at "f";let⟨a,rs,rfl,hrd,hl,hk,k⟩:=h;have hu:=Ao hr;refine⟨_,(A1 (B4 1 Nd (B7 A0))
 (A1 (Bj PassesOwn.never rfl (Dl (pv 0)) (Cj 2 Nd)
 (A3 (As (Aj (Bd hu) (Ac hu (pv 2) A5) Aa (Ak _)) (A1 (B4 3 Nd (Bf Cg rfl T.Ztw Ds (A2 (A9 Zsp hr.z rfl (A2 (pv 0) (A2 Aa (A2 (Ac hu (pv 2) A5) A0)))) A0)))
 (A1 (B4 4 Nd (Bf Cg rfl T.Ztw Ds (A2 (A9 Zsp hr.z rfl (A2 (pv 0) (A2 Aa (A2 (Ac hu (pv 2) A5) A0)))) A0)))
 (A3 (Bm (D2 Zyw Zyn Zym Co (pv 1) (A2 (Ae Xw (Bf Cg rfl T.Ztw Ds (A2 (C5 Ez (pv 2) (Cc A5) Db) A0)) (Bo (A2 (pv 3) (A2 (pv 4) A0)))) A0)))))) Ai)))
 (A1 (Dy (own:=["row"]) (cap:=[]) (i:=5) rfl (Cf rfl) (Av (by decide)) Nd rfl rfl (Dl (pv 0))
 (λ_ _ _ _ _ _=>⟨(Ax (i:=0) (GA rfl) rfl (Zyr rfl) (.inr rfl)),(P7 (Aj (Bd hu) (Ac hu (pv 0) A5) Aa (Ak _))),(Bf Cg rfl T.Ztw Ds (A2 (C5 Ez (pv 0) (Cc A5) Db) A0))⟩))
 (A3 (Ad (Bo (A2 (Bf Cg rfl T.Ztw Ds (A2 (pv 1) A0)) (A2 (Bf Cg rfl T.Ztw Ds (A2 (pv 5) A0)) A0)))))))),?_⟩
 walk_at "rd";let⟨a',vs,ea,ha,rv⟩:=P6 hrd;cases ea;have hvl:=B8 rv;refine⟨by decide,λq hq=>?_⟩;have uq:=A7 (o:=.lst []) hq;refine⟨_,uq _ _ ha,?_⟩;refine D7 (Ec a _) (A4g a q rs H) ⟨[],_,_,_,rfl,AA,RDs.nil,uq⟩ (λi σ H' _ h=>by let⟨_,_,_,_,_,_,_,s'⟩:=h;exact s' _ _ ha) (λi x σ H1 hi hx h=>?_) (λσ H1 h=>?_)
 ·let⟨ws,o1,o2,o3,rfl,hq1,r1,s1⟩:=h;let⟨r,er,rr⟩:=Bl rv hx;let⟨ra,rfl,hra⟩:=du rr;have hra1:=s1 _ _ hra;walk_at "rd";refine⟨_,An (j:=0) hra1 rfl,rfl,Do (λz=>?_) (λz=>?_)⟩
  ·have z:r.1 = "ware" := V.str.inj (GA z)
   refine⟨_,An (j:=1) hra1 rfl,a,rs,_,_,rfl,RD.same s1 _ _ hrd,hl,hk,λp2 x2 H2 hp2 hp2' rc2 sm2=>⟨p2,rfl,x2,.inl ⟨hp2',λl1 hl1=>?_⟩⟩⟩;have u3:=A7 (o:=.tup x2) hl1;have s3:=(s1.trans sm2).trans u3;have hl1':upd H2 l1 (.tup x2) l1=some (.tup x2):=AA;have rc3:=RDs.same u3 _ _ rc2;have hq3:=u3 _ _ (sm2 _ _ hq1);have r3':=RDs.same (sm2.trans u3) _ _ r1;generalize upd H2 l1 (.tup x2)=H3 at s3 hl1' rc3 hq3 r3';refine⟨_,An (j:=1) (s3 _ _ hra) rfl,a,rs,_,_,rfl,RD.same s3 _ _ hrd,hl,hk,λp4 x4 H4 hp4 hp4' rc4 sm4=>⟨p4,rfl,x4,.inl ⟨hp4',λl2 hl2=>?_⟩⟩⟩;have u5:=A7 (o:=.tup x4) hl2;have s5:=(s3.trans sm4).trans u5;have hl2':upd H4 l2 (.tup x4) l2=some (.tup x4):=AA;have hl15:=u5 _ _ (sm4 _ _ hl1');have rc5:=RDs.same (sm4.trans u5) _ _ rc3;have rp5:=RDs.same u5 _ _ rc4;have hq5:=u5 _ _ (sm4 _ _ hq3);have r5':=RDs.same (sm4.trans u5) _ _ r3';generalize upd H4 l2 (.tup x4)=H5 at s5 hl2' hl15 rc5 rp5 hq5 r5';have ec:Fk (V.str r.1::V.str r.2.1::r.2.2.map kV) (some 1) none=V.str r.2.1::r.2.2.map kV:=by
    rw[E4 (by decide)];rfl
   refine⟨E6 hq5,_,s5 _ _ hra,λp6 hp6=>?_⟩;rw[ec];refine⟨_,.inl ⟨AA,λl3 hl3=>⟨by decide,λp7 hp7=>?_⟩⟩⟩;have u6:=(A7 (o:=.lst (V.str r.2.1::r.2.2.map kV)) hp6).trans (A7 (o:=.tup (V.str r.2.1::r.2.2.map kV)) hl3);have u7:=A7 (o:=.tup [V.ref l1,V.ref l2]) hp7;have hkr:=hk r (Zzn er);refine⟨_,u7 _ _ AA,_,AA,Am (by simp only[Zyz,Zzz,Zwi];lia),λp8 H8 hp8 sm8 _=>?_⟩;have ux:=(u6.trans u7).trans sm8;have hlw:=B8 r1;have hlw2:((rs.take i).filter (isS "ware")).length<=1000:=Zzp (Zxt _ _) (by rw[Zyy];lia);have hiw:((rs.take i).filter (isS "ware")).length<1000:=Zyh (Zxt _ _) (by rw[Zyy];have:=(Zzf.mp er).1;lia);have hqx:=ux _ _ hq5;have kx:=ya (ys:=ws++[V.ref p8]) hqx;refine⟨ws,hqx,Zzb (show ws.length<1000 by lia) (Am (Zzu _)),_,_,_,_,rfl,AA,?_,?_⟩
   ·rw[M9 er,GE z,Zzd];refine RDs.app (RDs.ku (ux.ku.trans kx) _ _ (Fs _ (pq rs) _) r5') (RDs.one ?_);unfold Gu;refine RD.tup_mk (xs:=(V.str r.2.1::r.2.2.map kV)++[V.ref l1,V.ref l2]) (kx _ _ hp8) (RDs.app (RDs.cons RD.str_mk (Hm _)) (RDs.cons (RD.tup_mk ?_ (RDs.ku (ux.ku.trans kx) _ _ (Fs _ Vz _) rc5)) (RDs.one (RD.tup_mk ?_ (RDs.ku (ux.ku.trans kx) _ _ (Fs _ Vz _) rp5)))))
    ·exact kx _ _ (ux _ _ hl15)
    ·exact kx _ _ (ux _ _ hl2')
   ·intro c o e;rw[A6 (A8 e hq)];exact ux _ _ (s5 _ _ e)
  ·have z:¬ r.1 = "ware" := λy=>z (GB (by rw[y]))
   refine⟨ws,_,_,_,rfl,hq1,?_,s1⟩;rw[M9 er,GD z,Zyt];exact r1
 ·let⟨ws,o1,o2,o3,rfl,hq1,r1,s1⟩:=h;rw[hvl,Zz7] at r1;walk_at "rd";refine⟨_,s1 _ _ ha,?_⟩;refine Ky (Ec a _) (Am (by lia)) (λi acc H'=>RDs H' (((rs.take i).filter (isS "want")).map kg) acc/\AB H1 H') ⟨RDs.nil,AB.refl _⟩ (λi acc H' _ h=>h.2 _ _ (s1 _ _ ha)) (λi acc H' h=>?_) (λi x acc H' hi hx h=>?_) (λacc H' h p hp=>?_)
  ·have:=B8 h.1
   have h2:((rs.take i).filter (isS "want")).length<=i:=Zzp (Zxt _ _) (by rw[Zyy];lia);lia
  ·let⟨racc,s2⟩:=h;let⟨r,er,rr⟩:=Bl rv hx;let⟨ra,rfl,hra⟩:=du rr;have hra1:=s2 _ _ (s1 _ _ hra);walk_at "rd";refine⟨_,An (j:=0) hra1 rfl,rfl,Do (λz=>?_) (λz=>?_)⟩
   ·have z:r.1 = "want" := V.str.inj (GA z)
    have ec:Fk (V.str r.1::V.str r.2.1::r.2.2.map kV) (some 1) none=V.str r.2.1::r.2.2.map kV:=by
     rw[E4 (by decide)];rfl
    refine⟨_,hra1,λp hp=>?_⟩;rw[ec];refine⟨_,.inl ⟨AA,λl hl=>?_⟩⟩;have u:=(A7 (o:=.lst (V.str r.2.1::r.2.2.map kV)) hp).trans (A7 (o:=.tup (V.str r.2.1::r.2.2.map kV)) hl);refine⟨?_,s2.trans u⟩;rw[M9 er,GE z,Zzd];exact RDs.app (RDs.same u _ _ racc) (RDs.one (RD.tup_mk AA (RDs.cons RD.str_mk (Hm _))))
   ·have z:¬ r.1 = "want" := λy=>z (GB (by rw[y]))
    rw[M9 er,GD z,Zyt];exact⟨racc,s2⟩
  ·let⟨racc,s2⟩:=h;rw[hvl,Zz7] at racc;have up:=A7 (o:=.lst acc) hp;refine⟨ws,.inl ⟨(s2.trans up) _ _ hq1,λl hl=>⟨p,rfl,acc,.inl ⟨A7 hl _ _ AA,λl2 hl2=>⟨by decide,λt ht=>?_⟩⟩⟩⟩⟩;have v1:=A7 (o:=.tup ws) hl;have v2:=A7 (o:=.tup acc) hl2;have v3:=A7 (o:=.tup [V.ref l,V.ref l2]) ht;have vv:=(v1.trans v2).trans v3;refine k t _ ?_ (((s1.trans s2).trans up).trans vv);unfold wrD;exact RD.tup_mk AA (RDs.cons (RD.tup_mk (v3 _ _ (v2 _ _ AA)) (RDs.same ((s2.trans up).trans vv) _ _ r1)) (RDs.one (RD.tup_mk (v3 _ _ AA) (RDs.same (up.trans vv) _ _ racc))))
end
section
variable {dk:Dk}{c:Cl}
def Cz(rs:List R3):Str:=Str.join (one 10) (rs.map λr=>Eo (r3 r))
theorem U8:∀ws:List Str,(∀w∈ws,10∉w.cps.toList)->10∉(Str.join (one 32) ws).cps.toList:=λws=>by
 induction ws with
 |nil=>intro _ z;exact absurd z (by decide +kernel)
 |cons w r ih =>
  intro hw;cases r with
  |nil=>exact hw w Zzq
  |cons v r =>
   rw[Jk];intro z;rcases Zz3.mp z with z | z
   ·exact hw w Zzq z
   ·rcases Zzw.mp z with z | z
    ·exact absurd z (by decide)
    ·exact ih (λy hy=>hw y (Zzs _ hy)) z
theorem Xm(h:Fn r):10∉(Eo r).cps.toList:=U8 _ (Mn h (P:=λw=>10∉w.cps.toList) (Gg h).1.2 λk hk=>(Gq (h.cells k hk)).1.2)
theorem Zm{rs:List R3}(h0:rs≠[])(h:∀r∈rs,Fn (r3 r)):Txt.split (Cz rs) (one 10)=rs.map λr=>Eo (r3 r) :=
 En (by decide) (by simpa using h0) λw hw=>by
  let⟨r,hr,rfl⟩:=Zzt.mp hw;exact Xm (h r hr)
theorem Iy{rs:List R3}(h:∀r∈rs,Fn (r3 r)):(Cz rs).length<=rs.length*400+rs.length:=by
 have:=Gd (sep:=one 10) (B:=400) (xs:=rs.map λr=>Eo (r3 r)) λw hw=>by
  let⟨r,hr,rfl⟩:=Zzt.mp hw;exact dt (h r hr)
 rw[Zzz,show (one 10).length=1 from rfl,Nat.mul_one] at this;exact this
end
section
variable {dk:Dk}{c:Cl}
structure Jr(rs:List R3)(S:Sh):Prop where
 ne:rs≠[]
 len:rs.length<=400
 ok:∀r∈rs,Fn (r3 r)
 eq:wrD rs=S.d
 sd:SD0 S
 own:okS S=true->∀r∈rs,r.2.1∈Bp S
inductive A4x (t:Str):Prop | mk (rs:List R3) (b x:Str) (ws:List Str) (_:t=Str.join (one 10) (rs.map (λr=>Eo (r3 r))++[b])) (_:rs.length<=400) (_:(∀r∈rs,Fn (r3 r))) (_:A4y b x ws) (_:10∉b.cps.toList) (_:t.length<=200000)
def L9(c:Cl):Sp:=λvs H Q E=>∃t:Str,vs=[.str t]/\((∃(rs:List R3) (S:Sh),t=Cz rs/\Jr rs S/\(okS S=true->∀q H',RD H' S.d (.ref q)->AB H H'->Q (.ref q) H')/\(okS S=false->∀H',AB H H'->E (.ref c.NoShop) none H'))\/(A4x t/\∀H',AB H H'->E (.ref c.NoText) none H'))
theorem BZ:Bu ["text", "rows", "shop"] ["text"] (Ap J7):=by walk_at "sc"
theorem Vj(F:Fun K "read_shop" "read_shop" J7 f fd)(T:Txt mg)(C:Exc K mg c)(Zs7:Eh P w K mg base "read_row" 4 ["row"] (Ny c))(Zta:Has P w K mg base "written_shop" 2 ["rows"] CJ)(Zui:Has P w K mg base "names_of" 1 ["shop"] BE)(Zrz:Has P w K mg base "is_shop" 8 ["found"] DV):Aq P w K mg base (CXE P w) 9 f fd ["text"] (L9 c):=by
 refine F.okX BZ (λvs H Q E h=>?_) (λcdv A outer s H vs Q E hr h=>?_)
 ·let⟨t,rfl,_⟩:=h;rfl
 ·let⟨t,rfl,h⟩:=h;have hu:=Ao hr;refine⟨_,(A1 (As (B1 (B5 (Ah Cu rfl T.Zuo Aw (A2 (pv 0) (A2 (Fy (v:=.ty "str") rfl T.Zt1 Ii rfl) A0))))) (A3 (Cb Gn rfl rfl C.Zte (C.ex .text).1 (A2 Aa A0))) Ai)
 (A1 (Xq (own:=["row"]) (cap:=[]) (i:=1) rfl (Cf rfl) (Av (by decide)) BZ.nd rfl rfl (G9 (D2 Zy9 Zvf Zve R7 (pv 0) (A2 Aa A0))) ww
 (λ_ _ _ _ _ _ _ hp=>⟨(Ax (i:=0) (GA rfl) rfl (Zyr rfl) (.inr rfl)),Bi,(B0 Zs7 hp hr.z rfl (A2 (pv 0) A0))⟩))
 (A1 (N0 (i:=2) BZ.nd rfl (Or.inr rfl) (A9 Zta hr.z rfl (A2 (pv 1) A0)))
 (A1 (As (PW.pt (E8 (B1 (B5 (A9 Zrz hr.z rfl (A2 (pv 2) A0)))) (D1 (B1 (B5 (Ah (Dr rfl) rfl T.Zt7 He (A2 (Bs (own:=["row"]) (cap:=[2]) rfl (Cf rfl) (Av (by decide)) (Dl (pv 1))
 (λ_ _ _ _ _ _=>⟨(Ax (i:=0) (GA rfl) rfl (Zyr rfl) (.inr rfl)),Bi,(Bt (Kt hu) (Ac hu (pv 0) A5) (A9 Zui hr.z rfl (A2 (pv 1) A0)) rfl)⟩)) A0))))))) (A3 (Cb Gn rfl rfl C.Zs9 (C.ex .shop).1 (A2 Aa A0))) Ai)
 (A3 (Ad (pv 2))))))),?_⟩
  walk_at "rd";refine⟨_,rfl,?_⟩;rw[GD (by decide)];rcases h with ⟨rs,S,rfl,sr,k,ke⟩ | ⟨⟨rs,b,x,ws,rfl,hl,ok,bd,no10,tl⟩,ke⟩
  rotate_left
  ·refine⟨rfl,10,by decide +kernel,by lia,λp hp=>.inl ⟨_,AA,?_⟩⟩;rw[En (c:=10) (by decide) (by simp) λy hy=>by
    rcases Zz3.mp hy with hy | hy
    ·let⟨r,hr',rfl⟩:=Zzt.mp hy
     exact Xm (ok r hr')
    ·rw[Zzh.mp hy];exact no10]
   have u1:=A7 (o:=.lst ((rs.map (λr=>Eo (r3 r))++[b]).map V.str)) hp;have hp1:=AA (H:=H) (a:=p) (o:=.lst ((rs.map (λr=>Eo (r3 r))++[b]).map V.str));generalize upd H p (.lst ((rs.map (λr=>Eo (r3 r))++[b]).map V.str))=H1 at u1 hp1;refine Ky (Ec p _) (Am (by simp only[Zzz,Zz8,Zxu];lia)) (λi acc H'=>(i<=rs.length/\acc.length=i)/\AB H1 H') ⟨⟨Zyl _,rfl⟩,AB.refl _⟩ (λi acc H' _ h=>h.2 _ _ hp1) (λi acc H' h=>Zvz h.1.2) (λi x' acc H' hi hx h=>?_) (λacc H2 h q hq=>?_)
   ·let⟨⟨hi',la⟩,s1⟩:=h;rw[Zzx] at hx;by_cases z:i<rs.length
    ·obtain⟨r,er⟩:∃r,rs[i]?=some r:=⟨_,Zzl z⟩;rw[Zxw (by rw[Zzz];exact z),Zzx,er] at hx;have hx:V.str (Eo (r3 r))=x':=Zzm hx;subst hx;walk_at "rd";exact⟨_,rfl,.inl ⟨r3 r,ok r (Zzn er),rfl,λp3 H3 hp3 hp3' s3=>⟨z,by rw[Zz8,la];rfl,s1.trans s3⟩⟩⟩
    ·rw[Zy2 (by rw[Zzz];lia),Zzz,show i - rs.length=0 by lia] at hx;have hx:V.str b=x':=Zzm hx;subst hx;walk_at "rd";exact⟨b,rfl,.inr ⟨x,ws,bd,λH3 s3=>ke H3 ((u1.trans s1).trans s3)⟩⟩
   ·have h:=h.1.1
    rw[Zzz,Zz8,Zzz,Zxu] at h;lia
  have hl:=sr.len;have htl:=Iy sr.ok;have h5:∀r∈rs,r.2.2.length<=5:=λr hr=>by
   have:=(Gg (sr.ok r hr)).2.2;have e:(r3 r).2.length=r.2.2.length+1:=rfl;lia
  refine⟨rfl,10,by decide +kernel,by lia,λp hp=>.inl ⟨_,AA,?_⟩⟩;rw[Zm sr.ne sr.ok];have u1:=A7 (o:=.lst ((rs.map λr=>Eo (r3 r)).map V.str)) hp;have hp1:upd H p (.lst ((rs.map λr=>Eo (r3 r)).map V.str)) p=some (.lst ((rs.map λr=>Eo (r3 r)).map V.str)):=AA;generalize upd H p (.lst ((rs.map λr=>Eo (r3 r)).map V.str))=H1 at u1 hp1;refine Ky (Ec p _) (Am (by simp only[Zzz];lia)) (λi acc H'=>RDs H' ((rs.take i).map r3D) acc/\AB H1 H') ⟨RDs.nil,AB.refl _⟩ (λi acc H' _ h=>h.2 _ _ hp1) (λi acc H' h=>?_) (λi x acc H' hi hx h=>?_) (λacc H2 h q hq=>?_)
  ·have:=B8 h.1
   rw[Zyy] at this;lia
  ·let⟨racc,s1⟩:=h;rw[Zzx,Zzx] at hx;cases er:rs[i]? with
   |none=>rw[er] at hx;cases hx
   |some r =>
   rw[er] at hx;have hx:V.str (Eo (r3 r))=x:=Zzm hx;subst hx;walk_at "rd";refine⟨_,rfl,.inl ⟨r3 r,sr.ok r (Zzn er),rfl,λp3 H3 hp3 hp3' s3=>⟨?_,s1.trans s3⟩⟩⟩;rw[Zz6,er,Zzd];refine RDs.app (RDs.same s3 _ _ racc) (RDs.one ?_);show RD H3 (.list (.str r.1::.str r.2.1::r.2.2.map Lx)) (.ref p3);rw[RD];exact⟨p3,_,rfl,hp3',RDs.cons RD.str_mk (RDs.cons RD.str_mk (Hm _))⟩
  ·let⟨racc,s1⟩:=h;simp only[Zzz,Zz7] at racc;have u2:=A7 (o:=.lst acc) hq;have hq2:upd H2 q (.lst acc) q=some (.lst acc):=AA;have s2:=(u1.trans s1).trans u2;have racc:=RDs.same u2 _ _ racc;generalize upd H2 q (.lst acc)=H3 at hq2 s2 racc;have rrd:RD H3 (.list (rs.map r3D)) (.ref q):=by rw[RD];exact⟨q,acc,rfl,hq2,racc⟩
   refine⟨q,rs,rfl,rrd,by lia,h5,λt H4 rt s4=>?_⟩;rw[sr.eq] at rt;refine⟨.ref t,S,rfl,rt,sr.sd,λH5 s5=>⟨_,rfl,?_⟩⟩;have s05:=s4.trans s5;cases ob:okS S with
   |false =>
    rw[GE (by decide)];exact⟨by decide,ke ob _ (s2.trans s05)⟩
   |true =>
   rw[GD (by decide)];let⟨q',vs5,eq5,hq5,rv5⟩:=P6 (RD.same s05 _ _ rrd);cases eq5;have hv5:=B8 rv5;refine⟨q,rfl,vs5,hq5,?_⟩;refine By (Ec q _) (Am (by lia)) (λH' s'=>s' _ _ hq5) ((rs.map λ_=>true).map V.bl) (by rw[Zzz,Zzz];lia) (λi x H' hi hx s' N M hN=>?_) (λH' s' p6 hp6=>?_)
   ·let⟨r,er,rr⟩:=Bl rv5 hx;let⟨ra,rfl,hra⟩:=du rr;walk_at "rd";have hn:=sr.sd.n;refine⟨_,An (j:=1) (s' _ _ hra) rfl,_,S,rfl,RD.same (s5.trans s') _ _ rt,by lia,λp7 H7 hp7 hp7' s7=>⟨true,.inl ⟨p7,_,rfl,.inl hp7',rfl,Ex _,?_⟩,hN _ _ (s'.trans s7) ?_⟩⟩
    ·rw[Jl,GB (sr.own ob r (Zzn er))]
    ·rw[Zzx,Zzx,er];rfl
   ·refine⟨p6,rfl,_,AA,?_⟩;rw[Hq,GD (by decide)];have u6:=A7 (o:=.lst ((rs.map λ_=>true).map V.bl)) hp6;exact k ob t _ (RD.same (s5.trans (s'.trans u6)) _ _ rt) (s2.trans (s05.trans (s'.trans u6)))
end
section
variable {dk:Dk}{c:Cl}
theorem zc{st:Addr}(s:But st H H')(h:AT H st):AZ H H':=λa xs e=>s a _ (h.neT e) e
theorem A1v{l:Addr}{ys:List V}(h:H l=some (.lst xs)):AZ H (upd H l (.lst ys)):=r0 h (λ_ z=>by cases z)
inductive CM (vs:List V) (H:Hp) (Q:VK) (E:XK):Prop | mk (st m:_) (_:vs=[.ref st,.int m]) (_:AT H st) (_:0<m) (_:m<10^200) (_:∀d H',0<=d->d<m->AT H' st->But st H H'->Q (.int d) H')
theorem Y4(F:Fun K "_law_next" "_law_next" Q5 f fd)(T:Txt mg)(C:Exc K mg c):Aq P w K mg base CX0 1 f fd ["_law_state", "_law_many"] CM:=by
 refine F.go ["_law_state", "_law_many", "_law_digit"] ?_ ?_ ?_;walk_at "f";let⟨st,m,rfl,⟨ns,hne,hs⟩,h0,hm,k⟩:=h;have hu:=Ao hr;refine⟨_,(A1 (As (Aj Xu (Ah Ch rfl T.Zu7 D8 (A2 (pv 0) A0)) A5 (Ak _)) (A1 (B4 2 Nd (Ae Ks (Ac hu (pv 0) A5) (pv 1)))
 (A1 (Ep (Ae Jg (Ac hu (pv 0) A5) (pv 1)) (Fq (pv 0) A5 G7))
 (A1 (As (Aj (Kt hu) (Ac hu (pv 0) A5) (Bo (A2 A5 (A2 (Qm Kk A5) A0))) rfl) (A3 (Bm (D2 Zyw PySem.F.slot_list_pop PySem.F.type_list_pop qb (pv 0) (A2 A5 A0)))) Ai)
 (A3 (Ad (pv 2)))))) Ai)
 (A1 (Ep (Ae Ks (Ae D4 (Ae oq (Ac hu (pv 0) A5) A5) A5) (Ae N1 (Ae Zz A5 A5) A5)) (Fq (pv 0) A5 G7))
 (A3 (Ad (Ae Ks (Ae Jg (Ac hu (pv 0) A5) A5) (pv 1)))))),?_⟩
 walk_at "rd";cases ns with
 |nil=>exact absurd rfl hne
 |cons n0 AO =>
 have hit:∀(H':Hp) (n:Int) (r:List Int),H' st=some (.lst (V.int n::r.map V.int))->Tc H' (.ref st) (.int 0) (.int n):=λH' n r e=>An (j:=0) e rfl;have h0i:=hit H n0 AO hs;refine⟨_,.inl hs,?_⟩;refine Do (λhl=>?_) (λhl=>?_)
 ·refine⟨_,h0i,_,rfl,h0,_,h0i,_,rfl,h0,hm,_,hs,0,by simp[ixN],?_⟩;have e1:upd H st (.lst ((Zy6 V.int (n0::AO)).set 0 (V.int (n0 / m)))) st=some (.lst (V.int (n0 / m)::AO.map V.int)):=by rw[AA];rfl
  refine⟨_,hit _ _ _ e1,by decide,λp hp=>?_⟩;have npst:st≠p:=A8 e1 hp;refine⟨_,.inl ⟨p,_,rfl,.inr AA,rfl,rfl,rfl⟩,?_⟩;have d0:0<=n0 % m:=Int.emod_nonneg _ (by lia);have d1:n0 % m<m:=Zus _ h0;have e2:∀o,upd (upd H st (.lst ((Zy6 V.int (n0::AO)).set 0 (V.int (n0 / m))))) p o st=some (.lst (V.int (n0 / m)::AO.map V.int)):=λo=>by rw[A6 npst];exact e1
  have hrest:AO≠[]:=λe=>by
   have hl:=GA hl;rw[e] at hl;simp at hl
  have bt:But st H (upd (upd H st (.lst ((Zy6 V.int (n0::AO)).set 0 (V.int (n0 / m))))) p (.tup [V.int 0,V.int (-1)])):=DI.trans (Pk hp);refine Do (λhb=>?_) (λhb=>?_)
  ·refine⟨by unfold Ps;simp only[e2],_,e2 _,by decide,by decide,0,by simp[seqIndex?],_,rfl,?_⟩;exact k _ _ d0 d1 ⟨AO,hrest,by rw[AA];rfl⟩ (bt.trans DI)
  ·exact k _ _ d0 d1 ⟨(n0 / m)::AO,by simp,e2 _⟩ bt
 ·have e1:∀z:Int,upd H st (.lst ((Zy6 V.int (n0::AO)).set 0 (V.int z))) st=some (.lst (V.int z::AO.map V.int)):=λz=>by rw[AA];rfl
  refine⟨_,h0i,_,rfl,.inr ⟨by decide,by decide⟩,⟨by decide,by decide,by decide⟩,by decide,_,hs,0,by simp[ixN],_,hit _ _ _ (e1 _),_,rfl,by decide,by decide +kernel,h0,?_⟩;exact k _ _ (Int.emod_nonneg _ (by lia)) (Zus _ h0) ⟨_::AO,by simp,e1 _⟩ DI
inductive Lc (K:Zzy) (vs:List V) (H:Hp) (Q:VK) (E:XK):Prop | mk (a:Addr) (ns:List Int) (_:vs=[.ref a]) (_:SqL K H a (ns.map V.int)) (_:ns.length<=63) (_:∀st H',AT H' st->AB H H'->Q (.ref st) H')
theorem jm(ns:List Int)(lo hi:Option Int):∃ms:List Int,Fk (ns.map V.int) lo hi=ms.map V.int:=by
 unfold Fk;exact⟨_,by rw[<- List.map_drop,<- List.map_take]⟩
theorem Vq(F:Fun K "_law_drawn" "_law_drawn" O7 f fd)(T:Txt mg):Aq P w K mg base CX0 1 f fd ["_law_script"] (Lc K):=by
 refine F.go ["_law_script", "_law_seed", "_law_cell"] ?_ ?_ ?_;walk_at "f";let⟨a,ns,rfl,hS,hlen,k⟩:=h;have hu:=Ao hr;refine⟨_,(A1 (B4 1 Nd A5)
 (A1 (Bj PassesOwn.never rfl (wn (pv 0)) (Cj 2 Nd)
 (A3 (B4 1 Nd (Ae Ks (Ae D4 (Ae D4 (Ae oq (pv 1) A5) (Ae Ks (pv 2) (Ae Zz A5 A5))) A5) (Ae N1 (Ae Zz A5 A5) A5)))))
 (A1 (As (PW.pt (Mz (Aj Xu (Ah Ih rfl T.Zu7 D8 (A2 (pv 0) A0)) A5 (Ak _)) (Jv (Aj (Bd hu) (Ae Ks (ef W5 (pv 0) A5 (λ_ _=>rfl)) A5) A5 (Ak _))))) (A3 (Ad (Ae Hz (Ae Hz (B7 (A2 (Ae Jg (ef W5 (pv 0) A5 (λ_ _=>rfl)) A5) A0)) (C5 dh (pv 0) (Cc A5) (Cc A5))) (B7 (A2 (pv 1) A0))))) Ai)
 (A3 (Ad (B7 (A2 (pv 1) A0))))))),?_⟩
 walk_at "rd";simp only[A0m];walk_at "rd";refine⟨⟨_,hS⟩,sk (K:=K) (a:=a) (xs:=ns.map V.int) (λi σ H'=>H'=H/\∃(z:Int) (c:Option V),σ=[some (.ref a),some (.int z),c]) ⟨rfl,_,_,rfl⟩ (λi σ H' _ p=>by rw[p.1];exact hS) ?_ ?_⟩
 ·rintro i y σ H' hy ⟨rfl,z,c,rfl⟩;obtain⟨u,rfl⟩:∃u,y=V.int u:=by
   rw[Zzx] at hy;cases e:ns[i]? with
   |none=>rw[e] at hy;cases hy
   |some u=>rw[e] at hy;exact⟨u,(Zzm hy).symm⟩
  walk_at "rd";refine⟨.inr ⟨by decide,by decide⟩,⟨by decide,by decide,by decide⟩,by decide,⟨by decide,by decide,by decide⟩,by decide,_,rfl⟩
 ·rintro σ H' ⟨rfl,z,c,rfl⟩;walk_at "rd";simp only[A3a,A39];walk_at "rd";refine⟨_,.inl hS,Do (λh0=>?_) (λh0=>?_)⟩
  ·have hne:ns≠[]:=λe=>by
    rw[e] at h0;simp at h0
   obtain⟨n0,r,rfl⟩:∃n0 r,ns=n0::r:=by
    cases ns with
    |nil=>exact absurd rfl hne
    |cons a b=>exact⟨a,b,rfl⟩
   refine⟨_,hS,_,K4 (j:=0) rfl,_,rfl,by decide,rfl,Do (λh1=>?_) (λh1=>?_)⟩
   ·refine⟨_,hS,_,K4 (j:=0) rfl,_,rfl,by decide,by decide +kernel,by decide,λp hp=>?_⟩;let⟨ms,ems⟩:=jm (n0::r) (some 1) (some 63);have hml:ms.length<=63:=by
     have h1:=Jp (Zy6 V.int (n0::r)) (some 1) (some 63);rw[ems,Zzz,Zzz] at h1;lia
    refine⟨_,(A7 hp).seq hS,λp1 hp1=>?_⟩;rw[ems];have e1:=A7 (o:=.lst (ms.map V.int)) hp1 p _ AA;refine⟨_,e1,_,AA,Zzp (by rw[Zzz];simp;lia:_<=1000) (Am (Zzu _)),λp2 hp2=>⟨by decide,λp3 hp3=>?_⟩⟩;refine⟨_,A7 hp3 p2 _ AA,_,AA,Zzp (by simp;lia:_<=1000) (Am (Zzu _)),λp4 hp4=>?_⟩;refine k p4 _ ⟨n0 / 2::(ms++[z]),by simp,?_⟩ ((((A7 hp).trans (A7 hp1)).trans (A7 hp2)).trans ((A7 hp3).trans (A7 hp4)));rw[AA];simp
   ·exact⟨by decide,λp hp=>k p _ ⟨[z],by simp,AA⟩ (A7 hp)⟩
  ·exact⟨by decide,λp hp=>k p _ ⟨[z],by simp,AA⟩ (A7 hp)⟩
end
section
variable {dk:Dk}{c:Cl}
structure WB(w:Wr):Prop where
 lag:0<=w.lag/\w.lag<=30
 gives:1<=w.gives/\w.gives<=100
 floor:0<=w.floor/\w.floor<=100
 stock:0<=w.stock/\w.stock<=10^42
 parts:w.parts.length<=6
 amts:∀p∈w.parts,1<=p.2/\p.2<=100
 nds:(w.parts.map (·.1)).Nodup
structure A4h(ws:List Wr):Prop where
 nd:(ws.map (·.name)).Nodup
 wb:∀w∈ws,WB w
 txt:∀w∈ws,Al w.name=true
 own:∀w∈ws,∀p∈w.parts,p.1∈ws.map (·.name)
 low:∃r:Str->Nat,(∀w∈ws,r w.name<ws.length)/\∀w∈ws,∀p∈w.parts,r p.1<r w.name
def A4s(sz:Int)(cs:List (Int×Int)):Prop:=cs.length<=12/\∀p∈cs,(0<=p.1/\p.1<sz)/\0<=p.2/\p.2<10^41
noncomputable def X1(sz:Int)(names:List Str)(us:List Wt):Prop:=us.length<=20/\∀u∈us,u.1∈names/\(0<=u.2.1/\u.2.1<sz)/\0<=u.2.2/\u.2.2<10^41
theorem gw(h:A4h S.wares):L3 S:=by
 let⟨r,h1,h2⟩:=h.low;refine Yz (r:=r) (λe he x hx=>?_) (λe he=>?_)
 ·let⟨w,hw,rfl⟩:=Zzt.mp he;let⟨p,hp,rfl⟩:=Zzt.mp hx;exact h2 w hw p hp
 ·let⟨w,hw,rfl⟩:=Zzt.mp he;exact h1 w hw
structure AF(sz:Int)(S:Sh):Prop where
 ws:A4h S.wares
 len:1<=S.wares.length/\S.wares.length<=12
 com:∀w∈S.wares,A4s sz w.coming
 wants:X1 sz (S.wares.map (·.name)) S.wants
theorem AF.ok{sz:Int}(g:AF sz S):Ta S:=⟨g.ws.nd,by have:=g.len.2;lia,λw hw=>⟨Zzp (g.ws.wb w hw).parts (by decide),Zzp (g.com w hw).1 (by decide)⟩⟩
theorem AF.no{sz:Int}(g:AF sz S):L3 S:=gw g.ws
theorem AF.sd(g:AF 11 S):SD S where
 n:=g.len
 nm:=g.ws.txt
 nd:=g.ws.nd
 wb:=λw hw=>by
  have b:=g.ws.wb w hw;have c:=g.com w hw;exact⟨b.lag,b.gives,b.floor,b.stock,b.parts,b.amts,b.nds,c.1,c.2⟩
 own:=g.ws.own;un:=g.wants.1;us:=λu hu=>by
  let⟨h1,h2,h3⟩:=g.wants.2 u hu;exact⟨h1,⟨h2.1,by lia⟩,h3⟩
inductive BT (H:Hp) (a:Addr) (S:Sh) (plan:Str->List Int):Prop | mk (kvs:_) (_:Rd H a (.dK kvs)) (_:∀nm∈S.wares.map (·.name),∃l:Addr,C1 kvs (.inr nm)=some (.ref l)/\H l=some (.lst ((plan nm).map V.int))/\(plan nm).length=AD S/\∀x∈plan nm,0<=x/\x<10^2000)
inductive BP (H:Hp) (a:Addr) (S:Sh) (plan:Str->List Int) (P:Str->Prop):Prop | mk (kvs:_) (_:Rd H a (.dK kvs)) (_:∀nm∈S.wares.map (·.name),P nm->∃l:Addr,C1 kvs (.inr nm)=some (.ref l)/\H l=some (.lst ((plan nm).map V.int))/\(plan nm).length=AD S/\∀x∈plan nm,0<=x/\x<10^2000)
theorem BT.for(h:BT H a S plan)(P:Str->Prop):BP H a S plan P:=by let⟨kvs,h1,h2⟩:=h;exact⟨kvs,h1,λnm hn _=>h2 nm hn⟩
def uy(S:Sh)(x nm:Str):Prop:=∃t∈S.wares,t.name=nm/\∃p∈t.parts,p.1=x
theorem _root_.L2.Rd.same{u:HO}(h:Rd H a u)(s:AB H H'):Rd H' a u:=h.elim (λe=>.inl (s _ _ e)) (λz0=>by let⟨o,e⟩:=z0;exact .inr ⟨o,s _ _ e⟩)
theorem BT.same(h:BT H a S plan)(s:AB H H'):BT H' a S plan:=by
 let⟨kvs,h1,h2⟩:=h;exact⟨kvs,h1.same s,λnm hn=>by let⟨l,e1,e2,e3⟩:=h2 nm hn;exact⟨l,e1,s _ _ e2,e3⟩⟩
theorem BP.same{P:Str->Prop}(h:BP H a S plan P)(s:AB H H'):BP H' a S plan P:=by
 let⟨kvs,h1,h2⟩:=h;exact⟨kvs,h1.same s,λnm hn hP=>by let⟨l,e1,e2,e3⟩:=h2 nm hn hP;exact⟨l,e1,s _ _ e2,e3⟩⟩
theorem AF.days{sz:Int}(g:AF sz S)(hz:0<sz)(hz2:sz<=1000):1<=AD S/\AD S<=1000/\((AD S:Nat):Int)=1+Ea (S.wants.map λu=>u.2.1)/\∀u∈S.wants,u.2.1.toNat<AD S:=by
 have h0:0<=Ea (S.wants.map λu=>u.2.1):=Pd λx hx=>by
  let⟨u,hu,rfl⟩:=Zzt.mp hx;exact(g.wants.2 u hu).2.1.1
 have h1:Ea (S.wants.map λu=>u.2.1)<sz:=Pe hz λx hx=>by
  let⟨u,hu,rfl⟩:=Zzt.mp hx;exact(g.wants.2 u hu).2.1.2
 unfold AD;refine⟨by lia,by lia,by lia,λu hu=>?_⟩;have h2:u.2.1<=Ea (S.wants.map λu=>u.2.1):=Pf (Zzt.mpr ⟨u,hu,rfl⟩);have h3:=(g.wants.2 u hu).2.1.1;lia
inductive BI (vs:List V) (H:Hp) (Q:VK) (E:XK):Prop | mk (v:V) (S:Sh) (_:vs=[v]) (_:RD H S.d v) (_:S.wants.length<=1000) (_:∀H',AB H H'->Q (.int (1+Ea (S.wants.map λu=>u.2.1))) H')
theorem Sf(F:Fun K "count_days" "count_days" Ll f fd)(T:Txt mg)(C:Exc K mg c):Aq P w K mg base CX0 1 f fd ["shop"] BI:=by
 refine F.go ["shop"] ?_ ?_ ?_;walk_at "f";let⟨v,S,rfl,rs,hw,k⟩:=h;have hu:=Ao hr;refine⟨_,(A3 (Ad (Ae D4 A5 (e9 rfl rfl T.Zrl (Bs (own:=["want"]) (cap:=[]) rfl (Cf rfl) (Av (by decide)) (Er (Ac hu (pv 0) A5))
 (λ_ _ _ _ _ _=>⟨(Ax (i:=0) (GA rfl) rfl (Zyr rfl) (.inr rfl)),Bi,(Ac hu (pv 0) (Af rfl T.Ztz))⟩)))))),?_⟩
 let⟨a,b,c,ws,us,rfl,ha,hb,hc,rws,rus⟩:=Cy rs;have hl:=B8 rus;walk_at "rd";refine⟨_,Ag (j:=1) ha rfl,c,rfl,us,hc,?_⟩;refine By (Fv c _) (Am (by lia)) (λH' s'=>s' _ _ hc) ((S.wants.map λu=>u.2.1).map V.int) (by rw[Zzz,Zzz,hl]) (λi x H' hi hx s' N M hN=>?_) (λH' s' p hp=>?_)
 ·let⟨y,hy,ry⟩:=Bl rus hx;let⟨e,rfl,he⟩:=L6 ry;walk_at "rd";exact⟨_,Ag (j:=1) (s' _ _ he) rfl,hN _ _ s' (by rw[Zzx,Zzx,hy];rfl)⟩
 ·exact⟨p,rfl,_,AA,k _ (s'.trans (A7 hp))⟩
inductive DC (vs:List V) (H:Hp) (Q:VK) (E:XK):Prop | mk (a:Addr) (v:V) (S:Sh) (plan:Str->List Int) (w:Wr) (P:Str->Prop) (_:vs=[.ref a,v]) (_:BP H a S plan P) (_:P w.name) (_:AD S<=1000) (_:RD H w.d v) (_:w∈S.wares) (_:0<=w.lag) (_:w.lag<=1000) (_:∀p H',H p=none->H' p=some (.lst ((Eg (plan w.name) w.lag).map V.int))->AB H H'->Q (.ref p) H')
theorem Vt(F:Fun K "begun_row" "begun_row" Oa f fd)(T:Txt mg)(C:Exc K mg c):Aq P w K mg base CX0 1 f fd ["plan", "ware"] DC:=by
 refine F.go ["plan", "ware", "lots"] ?_ ?_ ?_;walk_at "f";let⟨a,v,S,plan,w,P',rfl,⟨kvs,hk,hpl⟩,hP,hd,rw',hm,l0,l1,k⟩:=h;have hu:=Ao hr;refine⟨_,(A1 (B4 2 Nd (Ac hu (pv 0) (Ac hu (pv 1) (Af rfl T.Zu5))))
 (A3 (Ad (Ae Hz (C5 Ez (pv 2) (Cc (Ac hu (pv 1) (Af rfl T.Zt5))) Db) (Ae Qq (B7 (A2 A5 A0)) (Ah (js rfl) rfl T.Zr0 A2d (A2 (Ac hu (pv 1) (Af rfl T.Zt5)) (A2 (Ah Ch rfl T.Zu7 D8 (A2 (pv 2) A0)) A0)))))))),?_⟩
 let⟨e,c1,c2,rfl,he,_⟩:=Ck rw';let⟨l,hv,hl,hlen,_⟩:=hpl w.name (Zzt.mpr ⟨w,hm,rfl⟩) hP;walk_at "rd";refine⟨_,Ag (j:=0) he rfl,.ref l,Hc hk hv,_,Ag (j:=1) he rfl,?_⟩;refine⟨w.lag,rfl,l,rfl,_,hl,λp1 hp1=>⟨by decide,λp2 hp2=>?_⟩⟩;have u1:=A7 (o:=.lst (Fk ((plan w.name).map V.int) (some w.lag) none)) hp1;have u2:=u1.trans (A7 (o:=.lst [V.int 0]) hp2);refine⟨_,Ag (j:=1) (u2 _ _ he) rfl,l,rfl,_,.inl (u2 _ _ hl),w.lag,rfl,[V.int 0],AA,?_,?_,?_,λp3 hp3=>?_⟩
 ·split<;>lia
 ·rw[Zzz];split<;>lia
 ·refine Am ?_;rw[Zzz,Zxu];split<;>lia
 ·have emin:(if (((plan w.name).map V.int).length:Int)<w.lag then (((plan w.name).map V.int).length:Int) else w.lag).toNat=min w.lag.toNat (plan w.name).length:=by
   rw[Zzz];split<;>lia
  rw[emin,Qf,E4 l0];have u3:=u2.trans (A7 (o:=.lst ((Ar (min w.lag.toNat (plan w.name).length) λ_=>0).map V.int)) hp3);rw[E4 l0] at u3;have n12:p1≠p2:=A8 AA hp2;refine⟨((plan w.name).map V.int).drop w.lag.toNat,?_,_,AA,?_,λp4 hp4=>?_⟩
  ·rw[A6 (λe=>by rw[<- e,A6 n12,AA] at hp3;cases hp3),A6 n12,AA]
  ·refine Am ?_;rw[Zy4,Zzz,Zzz,Au];lia
  ·refine k p4 _ (AB.free u3 hp4) ?_ (u3.trans (A7 hp4));rw[AA,<- List.map_drop,<- Zzd,uk]
inductive DD (vs:List V) (H:Hp) (Q:VK) (E:XK):Prop | mk (v x:V) (S:Sh) (w:Wr) (sz:Int) (_:vs=[v,x]) (_:RD H S.d v) (_:RD H w.d x) (_:AF sz S) (_:0<sz) (_:sz<=1000) (_:∀p H',H p=none->H' p=some (.lst ((Ar (AD S) λd=>Br (wAt w.name d) S.wants).map V.int))->AB H H'->Q (.ref p) H')
inductive uw (v x:V) (p:Addr) (S:Sh) (nm:Str) (H:Hp) (i:Nat) (σ:St) (H':Hp):Prop | mk (o:Option V) (_:σ=[some v,some x,some (.ref p),o]) (_:H' p=some (.lst ((Ar (AD S) λd=>Br (wAt nm d) (S.wants.take i)).map V.int))) (_:AB H H')
theorem Vi(F:Fun K "wants_row" "wants_row" O1 f fd)(T:Txt mg)(C:Exc K mg c)(Zug:Has P w K mg base "count_days" 1 ["shop"] BI):Aq P w K mg base CX0 2 f fd ["shop", "ware"] DD:=by
 refine F.go ["shop", "ware", "told", "want"] ?_ ?_ ?_;walk_at "f";let⟨v,x,S,w,sz,rfl,rs,rx,g,z0,z1,k⟩:=h;have hu:=Ao hr;let⟨n1,n2,n3,n4⟩:=g.days z0 z1;refine⟨_,(A1 (B4 2 Nd (Ae Qq (B7 (A2 A5 A0)) (A9 Zug hr.z rfl (A2 (pv 0) A0))))
 (A1 (Bj PassesOwn.never rfl (Er (Ac hu (pv 0) A5)) (Cj 3 Nd)
 (A3 (As (Aj (Bd hu) (Ac hu (pv 3) (Af rfl T.Ztv)) (Ac hu (pv 1) (Af rfl T.Zu5)) (Ak _)) (A3 (P8 (pv 2) (Ac hu (pv 3) (Af rfl T.Ztz)) g6 (Ac hu (pv 3) (Af rfl T.Zu9)) Ib G7)) Ai)))
 (A3 (Ad (pv 2))))),?_⟩
 let⟨a,b,c,ws,us,rfl,ha,hb,hc,rws,rus⟩:=Cy rs;let⟨xe,c1,c2,rfl,hxe,_⟩:=Ck rx;have hl:=B8 rus;walk_at "rd";refine⟨by decide,λp0 hp0=>?_⟩;have u0:=A7 (o:=.lst [V.int 0]) hp0;refine⟨.ref a,S,rfl,RD.same u0 _ _ rs,by have:=g.wants.1;lia,λH1 sm1=>?_⟩;have h01:=sm1 p0 _ AA;have sm01:=u0.trans sm1;rw[<- n3];refine⟨_,rfl,_,h01,by lia,by lia,by rw[Zxu];exact Am (by lia),λp hp=>?_⟩;have u1:=sm01.trans (A7 (o:=.lst ((Ar (AD S) λ_=>0).map V.int)) hp);have en:((AD S:Nat):Int).toNat=AD S:=by lia
 rw[en,Qf];refine⟨_,Ag (j:=1) (u1 _ _ ha) rfl,c,rfl,us,u1 _ _ hc,?_⟩;refine D7 (Fv c _) (uw (.ref a) (.ref xe) p S w.name H) ⟨_,rfl,?_,u1⟩ (λi σ H' _ h=>by let⟨_,_,_,s⟩:=h;exact s _ _ hc) (λi y σ H2 hi hy h=>?_) (λσ H2 h=>?_)
 ·rw[AA];exact congrArg (λz=>some (HO.lst (Zy6 V.int z))) (C3 λd _=>by simp[L7])
 ·let⟨o,rfl,hp2,sm⟩:=h;let⟨u,hu',ru⟩:=Bl rus hy;let⟨e,rfl,he⟩:=L6 ru;have he':=sm _ _ he;have hx':=sm _ _ hxe;have hum:=Zzn hu';walk_at "rd";refine⟨_,Ag (j:=0) he' rfl,_,Ag (j:=0) hx' rfl,rfl,Do (λhz=>?_) (λhz=>?_)⟩
  ·have hz:=GA hz
   have hz:u.1=w.name:=V.str.inj hz;have hd:=n4 u hum;have hd0:=(g.wants.2 u hum).2.1.1;refine⟨_,Ag (j:=1) he' rfl,_,u.2.1,rfl,hp2,hd0,_,by rw[Zzx,Bz hd];rfl,_,Ag (j:=2) he' rfl,_,rfl,_,rfl,_,_,rfl,hp2,u.2.1.toNat,?_,?_⟩
   ·rw[Zzz,Au];unfold ixN;rw[GE hd0,GE (by lia)]
   ·refine⟨_,rfl,?_,λb' o' hb'=>by rw[A6 (A8 hb' (AB.free sm01 hp))];exact sm b' o' hb'⟩;rw[AA,<- List.map_set,Mx];refine congrArg (λz=>some (HO.lst (Zy6 V.int z))) (C3 λd _=>?_);rw[El _ hu'];unfold wAt;by_cases e1:d=u.2.1.toNat
    ·subst e1;rw[GE rfl,GE ⟨hz,by lia⟩]
    ·rw[GD e1,GD (λq=>e1 (by lia)),Zxc]
  ·refine⟨_,rfl,?_,sm⟩;rw[hp2];refine congrArg (λz=>some (HO.lst (Zy6 V.int z))) (C3 λd _=>?_);rw[El _ hu'];unfold wAt;rw[GD (c:=u.1=w.name/\_) (λq=>hz (GB (by rw[q.1]))),Zxc]
 ·let⟨o,rfl,hp2,sm⟩:=h;walk_at "rd";rw[hl,Zz7] at hp2;exact k p H2 (AB.free sm01 hp) hp2 sm
end
section
variable {dk:Dk}{c:Cl}
inductive CA (vs:List V) (H:Hp) (Q:VK) (E:XK):Prop | mk (v:V) (a:Addr) (x:V) (S:Sh) (plan:Str->List Int) (w:Wr) (sz:Int) (_:vs=[v,.ref a,x]) (_:RD H S.d v) (_:BP H a S plan (uy S w.name)) (_:RD H w.d x) (_:AF sz S) (_:0<sz) (_:sz<=1000) (_:∀p H',H p=none->H' p=some (.lst ((At S plan w.name).map V.int))->AB H H'->Q (.ref p) H')
inductive uz (v:V) (a:Addr) (x:V) (S:Sh) (plan:Str->List Int) (nm:Str) (H:Hp) (i:Nat) (σ:St) (H':Hp):Prop | mk (q:Addr) (o1 o2 o3:Option V) (_:σ=[some v,some (.ref a),some x,some (.ref q),o1,o2,o3]) (_:H q=none) (_:H' q=some (.lst ((Ar (AD S) λd=>Br (wAt nm d) S.wants+Br (pAt plan nm d) (S.wares.take i)).map V.int))) (_:AB H H')
inductive v0 (v:V) (a:Addr) (x t:V) (S:Sh) (plan:Str->List Int) (nm:Str) (w:Wr) (i:Nat) (H:Hp) (j:Nat) (σ:St) (H':Hp):Prop | mk (q:Addr) (o2 o3:Option V) (_:σ=[some v,some (.ref a),some x,some (.ref q),some t,o2,o3]) (_:H q=none) (_:H' q=some (.lst ((Ar (AD S) λd=>Br (wAt nm d) S.wants+Br (pAt plan nm d) (S.wares.take i)+Br (λp:Str×Int=>if p.1=nm then p.2*bAt (plan w.name) w.lag d else 0) (w.parts.take j)).map V.int))) (_:AB H H')
def A2f(n:Nat)(g:Nat->Int)(H1:Hp)(i:Nat)(acc:List V)(H':Hp):Prop:=acc=((Ar n g).take i).map V.int/\i<=n/\AB H1 H'
theorem Hx{g:Nat->Int}(h:i<=n):(Ar n g).take i=Ar i g:=by
 unfold Ar;rw[<- List.map_take,List.take_range,Nat.min_eq_left h]
theorem Vm(F:Fun K "needs_row" "needs_row" O3 f fd)(T:Txt mg)(C:Exc K mg c)(Zsj:Has P w K mg base "wants_row" 2 ["shop", "ware"] DD)(Zsi:Has P w K mg base "begun_row" 1 ["plan", "ware"] DC):Aq P w K mg base CX0 3 f fd ["shop", "plan", "ware"] CA:=by
 refine F.go ["shop", "plan", "ware", "told", "taker", "part", "amount"] ?_ ?_ ?_;walk_at "f";let⟨v,a,x,S,plan,w,sz,rfl,rs,pl,rx,g,z0,z1,k⟩:=h;have hu:=Ao hr;let⟨n1,n2,n3,n4⟩:=g.days z0 z1;refine⟨_,(A1 (B4 3 Nd (A9 Zsj hr.z rfl (A2 (pv 0) (A2 (pv 2) A0))))
 (A1 (Bj PassesOwn.never rfl (Er (Ac hu (pv 0) A5)) (Cj 4 Nd)
 (A3 (Bj PassesOwn.never rfl (Er (Ac hu (pv 4) (Af rfl T.Ztk))) (Et (n:=2) rfl (Az (Cj 5 Nd) (Az (Ax (i:=6) Nd rfl (Or.inr rfl)) Df)))
 (A3 (As (Aj (Bd hu) (pv 5) (Ac hu (pv 2) (Af rfl T.Zu5)) (Ak _)) (A3 (Dy (own:=["goes", "lots"]) (cap:=[6]) (i:=3) rfl (Cf rfl) Nf Nd rfl rfl (V8 rfl T.Zrw (A2 (pv 3) (A2 (A9 Zsi hr.z rfl (A2 (pv 1) (A2 (pv 4) A0))) A0)))
 (λ_ _ _ _ _ _=>⟨(Et (n:=2) rfl (Az (Ax (i:=0) (GA rfl) rfl (Zyr rfl) (.inr rfl)) (Az (Ax (i:=1) (GA rfl) rfl (Zyr rfl) (.inr rfl)) Df))),Bi,(Ae D4 (pv 0) (Ae Jw (pv 2) (pv 1)))⟩))) Ai)))))
 (A3 (Ad (pv 3))))),?_⟩
 let⟨sa,sb,sc,ws,us,rfl,ha,hb,hc,rws,rus⟩:=Cy rs;let⟨xe,c1,c2,rfl,hxe,_⟩:=Ck rx;have hl:=B8 rws;walk_at "rd";refine⟨.ref sa,.ref xe,S,w,sz,rfl,rs,rx,g,z0,z1,λq0 H1 hq0 hq1 sm1=>?_⟩;refine⟨_,Ag (j:=0) (sm1 _ _ ha) rfl,sb,rfl,ws,sm1 _ _ hb,?_⟩;refine D7 (Fv sb _) (uz (.ref sa) a (.ref xe) S plan w.name H) ⟨q0,_,_,_,rfl,hq0,?_,sm1⟩ (λi σ H' _ h=>by let⟨_,_,_,_,_,_,_,s⟩:=h;exact s _ _ hb) (λi y σ H2 hi hy h=>?_) (λσ H2 h=>?_)
 ·rw[hq1];exact congrArg (λz=>some (HO.lst (Zy6 V.int z))) (C3 λd _=>by rw[Zvq,L7,Zxc])
 ·let⟨q,o1,o2,o3,rfl,hq,hq2,sm⟩:=h;let⟨t,ht,rt⟩:=Bl rws hy;have htm:=Zzn ht;have wb:=g.ws.wb t htm;let⟨te,d1,d2,rfl,hte,rc,rp⟩:=Ck rt;let⟨pb,pv,rfl,hpb,rpv⟩:=RD.tup_of rp;have hlp:=B8 rpv;walk_at "rd";refine⟨_,Ag (j:=6) (sm _ _ hte) rfl,pb,rfl,pv,sm _ _ hpb,?_⟩;refine D7 (Fv pb _) (v0 (.ref sa) a (.ref xe) (.ref te) S plan w.name t i H) ⟨q,_,_,rfl,hq,?_,sm⟩ (λj σ H' _ h=>by let⟨_,_,_,_,_,_,s⟩:=h;exact s _ _ hpb) (λj y σ H3 hj hy h=>?_) (λσ H3 h=>?_)
  ·rw[hq2];exact congrArg (λz=>some (HO.lst (Zy6 V.int z))) (C3 λd _=>by rw[Zvq,L7,Zxc])
  ·let⟨q,o2,o3,rfl,hq,hq2,sm⟩:=h;let⟨pp,hpp,rpp⟩:=Bl rpv hy;have hppm:=Zzn hpp;let⟨pe,rfl,hpe⟩:=Pb rpp;refine gt2 (sm _ _ hpe) ?_;walk_at "rd";refine⟨_,Ag (j:=0) (sm _ _ hxe) rfl,rfl,Do (λhz=>?_) (λhz=>?_)⟩
   ·have hz:pp.1=w.name:=V.str.inj (GA hz)
    have hT:uy S w.name t.name:=⟨t,htm,rfl,pp,hppm,hz⟩;refine⟨a,.ref te,S,plan,t,_,rfl,pl.same sm,hT,n2,RD.same sm _ _ rt,htm,wb.lag.1,by have:=wb.lag.2;lia,λb H4 hb4 hb5 sm4=>?_⟩;have hq4:=sm4 _ _ hq2;have sm04:=sm.trans sm4;refine⟨b,rfl,_,hq4,_,hb5,?_⟩;let⟨kvs,hkv,hpl⟩:=pl;let⟨l,hv,hll,hlen,hbd⟩:=hpl t.name (Zzt.mpr ⟨t,htm,rfl⟩) hT;have lb:(Eg (plan t.name) t.lag).length=AD S:=by unfold Eg;rw[Au,hlen]
    have en:min (((Ar (AD S) λd=>Br (wAt w.name d) S.wants+Br (pAt plan w.name d) (S.wares.take i)+Br (λp:Str×Int=>if p.1=w.name then p.2*bAt (plan t.name) t.lag d else 0) (t.parts.take j)).map V.int).length) (((Eg (plan t.name) t.lag).map V.int).length)=AD S:=by
     rw[Zzz,Zzz,Au,lb,Nat.min_self]
    have G:=bf q b ((Ar (AD S) λd=>Br (wAt w.name d) S.wants+Br (pAt plan w.name d) (S.wares.take i)+Br (λp:Str×Int=>if p.1=w.name then p.2*bAt (plan t.name) t.lag d else 0) (t.parts.take j)).map V.int) ((Eg (plan t.name) t.lag).map V.int);rw[en] at G;refine bu G (Am n2) (A2f (AD S) (λd=>Br (wAt w.name d) S.wants+Br (pAt plan w.name d) (S.wares.take i)+Br (λp:Str×Int=>if p.1=w.name then p.2*bAt (plan t.name) t.lag d else 0) (t.parts.take j)+pp.2*bAt (plan t.name) t.lag d) H4) ⟨rfl,Zyl _,AB.refl _⟩ (λr acc H' _ h=>⟨h.2.2 _ _ hq4,h.2.2 _ _ hb5⟩) (λr acc H' h=>?_) (λr ys z acc H5 hr hys h hz5=>?_) (λacc H5 h p hp=>?_)
    ·rw[h.1,Zzz,Hx h.2.1,Au];exact Zzu _
    ·let⟨rfl,h2,h3⟩:=h;let⟨y1,y2,e1,e2,rfl⟩:=hys;rw[Zzx,Bz hr] at e1;cases e1;have hbg:(Eg (plan t.name) t.lag)[r]?=some (bAt (plan t.name) t.lag r):=by unfold Eg;rw[Bz (by rw[hlen];exact hr)]
     rw[Zzx,hbg] at e2;cases e2;refine gT2 ?_;walk_at "rd";have hamt:=wb.amts pp hppm;refine⟨.inl (.inl ⟨by lia,by lia⟩),?_,hr,h3.trans (A7 hz5)⟩;rw[Hx (by lia),Hx (by lia),Kr,Zzd];rfl
    ·let⟨rfl,h2,h3⟩:=h;rw[Hx (Zzu _)];refine⟨p,_,_,rfl,AB.free (sm04.trans h3) hp,?_,(sm04.trans h3).trans (A7 hp)⟩;rw[AA];refine congrArg (λz=>some (HO.lst (Zy6 V.int z))) (C3 λd _=>?_);rw[El _ hpp,GE hz];lia
   ·refine⟨q,_,_,rfl,hq,?_,sm⟩;rw[hq2];refine congrArg (λz=>some (HO.lst (Zy6 V.int z))) (C3 λd _=>?_);rw[El _ hpp,GD (c:=pp.1=w.name) (λe=>hz (GB (by rw[e]))),Zxc]
  ·let⟨q,o2,o3,rfl,hq,hq2,sm⟩:=h;rw[hlp,Zz7] at hq2;refine⟨q,_,_,_,rfl,hq,?_,sm⟩;rw[hq2];refine congrArg (λz=>some (HO.lst (Zy6 V.int z))) (C3 λd _=>?_);rw[El _ ht];unfold pAt;lia
 ·let⟨q,o1,o2,o3,rfl,hq,hq2,sm⟩:=h;walk_at "rd";rw[hl,Zz7] at hq2;exact k q H2 hq hq2 sm
def X9(ns:List Int)(j:Nat):Int:=(ns.take j).sum
def cum(ns:List Int)(n:Nat):List Int:=(Zys n).map λj=>X9 ns (j+1)
theorem Mq{c:Int}(h:ns[i]?=some c):X9 ns (i+1)=X9 ns i+c:=by
 unfold X9;rw[Zz6,h,List.sum_append];simp
theorem ub(ns:List Int)(n:Nat):cum ns (n+1)=cum ns n++[X9 ns (n+1)]:=by
 unfold cum;rw[Zv6,Zzd];rfl
theorem z9(ns:List Int)(n:Nat):(cum ns n).length=n:=by simp[cum]
inductive A2r (r p:Addr) (ns:List Int) (H:Hp) (i:Nat) (σ:St) (H':Hp):Prop | mk (c:Option V) (_:σ=[some (.ref r),some (.ref p),some (.int (X9 ns i)),c]) (_:H' p=some (.lst ((cum ns i).map V.int))) (_:AB H H')
inductive EC (vs:List V) (H:Hp) (Q:VK) (E:XK):Prop | mk (r:Addr) (ns:List Int) (_:vs=[.ref r]) (_:H r=some (.lst (ns.map V.int))) (_:ns.length<=1000) (_:∀p H',H p=none->H' p=some (.lst ((cum ns ns.length).map V.int))->AB H H'->Q (.ref p) H')
theorem im(F:Fun K "so_far" "so_far" Xi f fd)(T:Txt mg)(C:Exc K mg c):Aq P w K mg base CX0 1 f fd ["row"] EC:=by
 refine F.go ["row", "told", "total", "number"] ?_ ?_ ?_;walk_at "f";let⟨r,ns,rfl,hr0,hl,k⟩:=h;have hu:=Ao hr;refine⟨_,(A1 (B4 1 Nd (B7 A0))
 (A1 (B4 2 Nd A5)
 (A1 (Bj PassesOwn.never rfl (Dl (pv 0)) (Cj 3 Nd)
 (A1 (Gy (i:=2) Nd rfl (Zyr rfl) (pv 3) Ib)
 (A3 (Bm (D2 Zyw Zyn Zym Co (pv 1) (A2 (pv 2) A0))))))
 (A3 (Ad (pv 1)))))),?_⟩
 walk_at "rd";refine⟨Zyl _,λp hp=>⟨_,by rw[A6 (A8 hr0 hp)];exact hr0,?_⟩⟩;refine D7 (Ec r _) (A2r r p ns H) ⟨_,rfl,AA,A7 hp⟩ (λi σ H' _ h=>by let⟨_,_,_,s⟩:=h;exact s _ _ hr0) (λi x σ H' hi hx h=>?_) (λσ H' h=>?_)
 ·let⟨c,rfl,h1,sm⟩:=h;have hi':i<ns.length:=by simpa using hi
  rw[Zzx] at hx;cases ec:ns[i]? with
  |none=>rw[ec] at hx;cases hx
  |some c =>
  rw[ec] at hx;cases hx;walk_at "rd";refine⟨E6 h1,_,h1,Zyh (m:=1000) (by rw[Zzz,z9];lia) (by decide),?_⟩;refine⟨_,by rw[Mq ec],?_,λb o hb=>?_⟩
  ·rw[AA,ub,Zzd,Mq ec];rfl
  ·rw[A6 (A8 hb hp)];exact sm b o hb
 ·let⟨c,rfl,h1,sm⟩:=h;walk_at "rd";rw[Zzz] at h1;exact k p H' hp h1 sm
theorem X8{f:Nat->Int}:∀{d:Nat},d<=n->X9 (Ar n f) d=upS f d
 |0,_=>by simp[X9,upS]
 |d+1,h=>by rw[Mq (Bz (by lia)),X8 (by lia),upS]
theorem z8{f:Nat->Int}:cum (Ar n f) (Ar n f).length=Ar n λd=>upS f (d+1):=by
 rw[Au];unfold cum;show _=(Zys n).map _;apply Zxx;intro d hd;exact X8 (by have:=Zvs.mp hd;lia)
inductive BN (vs:List V) (H:Hp) (Q:VK) (E:XK):Prop | mk (v x:V) (S:Sh) (w:Wr) (sz:Int) (_:vs=[v,x]) (_:RD H S.d v) (_:RD H w.d x) (_:AF sz S) (_:0<sz) (_:sz<=1000) (_:w.coming.length<=1000) (_:(∀p∈w.coming,0<=p.1)) (_:∀p H',H p=none->H' p=some (.lst ((Ar (AD S) (Ci w)).map V.int))->AB H H'->Q (.ref p) H')
inductive A2u (v x:V) (p:Addr) (S:Sh) (w:Wr) (H:Hp) (i:Nat) (σ:St) (H':Hp):Prop | mk (o1 o2:Option V) (_:σ=[some v,some x,some (.ref p),o1,o2]) (_:H' p=some (.lst ((Ar (AD S) λd=>(if d=0 then w.stock else 0)+Br (cAt d) (w.coming.take i)).map V.int))) (_:AB H H')
theorem Oz(F:Fun K "arrivals_row" "arrivals_row" Ja f fd)(T:Txt mg)(C:Exc K mg c)(Zug:Has P w K mg base "count_days" 1 ["shop"] BI):Aq P w K mg base CX0 2 f fd ["shop", "ware"] BN:=by
 refine F.go ["shop", "ware", "told", "day", "amount"] ?_ ?_ ?_;walk_at "f";let⟨v,x,S,w,sz,rfl,rs,rx,g,z0,z1,hcl,hcd,k⟩:=h;have hu:=Ao hr;let⟨n1,n2,n3,n4⟩:=g.days z0 z1;refine⟨_,(A1 (B4 2 Nd (Ae Qq (B7 (A2 A5 A0)) (A9 Zug hr.z rfl (A2 (pv 0) A0))))
 (A1 (Ep (Ac hu (pv 1) (Af rfl T.Zsx)) (Fq (pv 2) A5 G7))
 (A1 (Bj PassesOwn.never rfl (Er (Ac hu (pv 1) (Af rfl T.Ztg))) (Et (n:=2) rfl (Az (Cj 3 Nd) (Az (Cj 4 Nd) Df)))
 (A3 (As (Aj (a8 hu) (pv 3) (Ah Ch rfl T.Zu7 D8 (A2 (pv 2) A0)) (Ak _)) (A3 (P8 (pv 2) (pv 3) g6 (pv 4) Ib G7)) Ai)))
 (A3 (Ad (pv 2)))))),?_⟩
 let⟨xe,c1,c2,rfl,hxe,rc,_⟩:=Ck rx;let⟨cb,cv,rfl,hcb,rcv⟩:=RD.tup_of rc;have hl:=B8 rcv;walk_at "rd";refine⟨by decide,λp0 hp0=>?_⟩;have u0:=A7 (o:=.lst [V.int 0]) hp0;refine⟨v,S,rfl,RD.same u0 _ _ rs,by have:=g.wants.1;lia,λH1 sm1=>?_⟩;have h01:=sm1 p0 _ AA;have sm01:=u0.trans sm1;rw[<- n3];refine⟨_,rfl,_,h01,by lia,by lia,by rw[Zxu];exact Am (by lia),λp hp=>?_⟩;have u1:=sm01.trans (A7 (o:=.lst ((Ar (AD S) λ_=>0).map V.int)) hp);have en:((AD S:Nat):Int).toNat=AD S:=by lia
 rw[en,Qf];have fp:H p=none:=AB.free sm01 hp;refine⟨_,Ag (j:=4) (u1 _ _ hxe) rfl,_,AA,0,?_,?_⟩
 ·rw[Zzz,Au];unfold ixN;rw[GE (by decide),GE (by lia)];rfl
 have kx:∀{b:Addr} {o o' o2:HO},H b=some o->upd (upd H1 p o') p o2 b=some o:=λ{b o o' o2} hb=>by rw[A6 (A8 hb fp),A6 (A8 hb fp)];exact sm01 b o hb
 refine⟨_,Ag (j:=5) (kx hxe) rfl,cb,rfl,cv,kx hcb,?_⟩;refine D7 (Fv cb _) (A2u v (.ref xe) p S w H) ⟨_,_,rfl,?_,λb o hb=>kx hb⟩ (λi σ H' _ h=>by let⟨_,_,_,_,s⟩:=h;exact s _ _ hcb) (λi y σ H2 hi hy h=>?_) (λσ H2 h=>?_)
 ·rw[AA,<- List.map_set,Mx];exact congrArg (λz=>some (HO.lst (Zy6 V.int z))) (C3 λd _=>by rw[Zvq,L7,Zxc])
 ·let⟨o1,o2,rfl,hp2,sm⟩:=h;let⟨u,hu',ru⟩:=Bl rcv hy;let⟨e,rfl,he⟩:=ur ru;refine gt2 (sm _ _ he) ?_;have hd0:=hcd u (Zzn hu');walk_at "rd";refine⟨_,.inl hp2,Do (λhz=>?_) (λhz=>?_)⟩
  ·have hz:=GA hz
   rw[Zzz,Au] at hz;have hd:u.1.toNat<AD S:=by lia
   refine⟨_,hp2,hd0,_,by rw[Zzx,Bz hd];rfl,_,rfl,_,hp2,u.1.toNat,?_,?_⟩
   ·rw[Zzz,Au];unfold ixN;rw[GE hd0,GE (by lia)]
   ·refine⟨_,_,rfl,?_,λb' o' hb'=>by rw[A6 (A8 hb' fp)];exact sm b' o' hb'⟩;rw[AA,<- List.map_set,Mx];refine congrArg (λz=>some (HO.lst (Zy6 V.int z))) (C3 λd _=>?_);rw[El _ hu'];unfold cAt;by_cases e1:d=u.1.toNat
    ·subst e1;rw[GE rfl,GE (c:=u.1=_) (by lia)];lia
    ·rw[GD e1,GD (c:=u.1=_) (λq=>e1 (by lia)),Zxc]
  ·have hz:¬ u.1<(AD S:Int):=λq=>hz (GB (by rw[Zzz,Au];exact q))
   refine⟨_,_,rfl,?_,sm⟩;rw[hp2];refine congrArg (λz=>some (HO.lst (Zy6 V.int z))) (C3 λd hd=>?_);rw[El _ hu'];unfold cAt;rw[GD (c:=u.1=_) (λq=>hz (by lia)),Zxc]
 ·let⟨o1,o2,rfl,hp2,sm⟩:=h;walk_at "rd";rw[hl,Zz7] at hp2;exact k p H2 fp hp2 sm
inductive CS (vs:List V) (H:Hp) (Q:VK) (E:XK):Prop | mk (v:V) (a:Addr) (x:V) (S:Sh) (plan:Str->List Int) (w:Wr) (sz:Int) (_:vs=[v,.ref a,x]) (_:RD H S.d v) (_:BT H a S plan) (_:RD H w.d x) (_:w∈S.wares) (_:AF sz S) (_:0<sz) (_:sz<=1000) (_:∀p H',H p=none->H' p=some (.lst ((G5 S plan w).map V.int))->AB H H'->Q (.ref p) H')
inductive A2t (v:V) (a:Addr) (x:V) (p:Addr) (S:Sh) (plan:Str->List Int) (w:Wr) (H1:Hp) (i:Nat) (σ:St) (H':Hp):Prop | mk (o1 o2 o3:Option V) (_:σ=[some v,some (.ref a),some x,some (.ref p),o1,o2,o3]) (_:i<=AD S) (_:H' p=some (.lst ((Ar i (jo S plan w)).map V.int))) (_:∀b o,b≠p->H1 b=some o->H' b=some o)
theorem S8(F:Fun K "stocks_row" "stocks_row" Lf f fd)(T:Txt mg)(C:Exc K mg c)(Ztu:Has P w K mg base "needs_row" 3 ["shop", "plan", "ware"] CA)(Zub:Has P w K mg base "arrivals_row" 2 ["shop", "ware"] BN)(Zru:Has P w K mg base "so_far" 1 ["row"] EC):Aq P w K mg base CX0 4 f fd ["shop", "plan", "ware"] CS:=by
 refine F.go ["shop", "plan", "ware", "changes", "comes", "lots", "goes"] ?_ ?_ ?_;walk_at "f";let⟨v,a,x,S,plan,w,sz,rfl,rs,pl,rx,hm,g,z0,z1,k⟩:=h;have hu:=Ao hr;let⟨n1,n2,n3,n4⟩:=g.days z0 z1;have wb:=g.ws.wb w hm;refine⟨_,(A1 (B4 3 Nd (B7 A0))
 (A1 (Bj PassesOwn.never rfl (wj rfl T.Zrw (A2 (A9 Zub hr.z rfl (A2 (pv 0) (A2 (pv 2) A0))) (A2 (Ac hu (pv 1) (Ac hu (pv 2) (Af rfl T.Zu5))) (A2 (A9 Ztu hr.z rfl (A2 (pv 0) (A2 (pv 1) (A2 (pv 2) A0)))) A0)))) (Et (n:=3) rfl (Az (Cj 4 Nd) (Az (Cj 5 Nd) (Az (Cj 6 Nd) Df))))
 (A3 (Bm (D2 Zyw Zyn Zym Co (pv 3) (A2 (Ae N1 (Ae D4 (pv 4) (Ae Jw (Ac hu (pv 2) (Af rfl T.Ztn)) (pv 5))) (pv 6)) A0)))))
 (A3 (Ad (A9 Zru hr.z rfl (A2 (pv 3) A0)))))),?_⟩
 let⟨xe,c1,c2,rfl,hxe,_⟩:=Ck rx;let⟨kvs,hkv,hpl⟩:=id pl;let⟨l,hv,hll,hlen,hbd⟩:=hpl w.name (Zzt.mpr ⟨w,hm,rfl⟩);walk_at "rd";refine⟨Zyl _,λp hp=>?_⟩;have u0:=A7 (o:=.lst []) hp;have hcom:=g.com w hm;refine⟨v,.ref xe,S,w,sz,rfl,RD.same u0 _ _ rs,RD.same u0 _ _ rx,g,z0,z1,by have:=hcom.1;lia,λq hq=>(hcom.2 q hq).1.1,λq1 H1 hq1 hq2 sm1=>?_⟩;have s01:=u0.trans sm1;refine⟨_,Ag (j:=0) (s01 _ _ hxe) rfl,_,Hc (hkv.same s01) hv,?_⟩;refine⟨v,a,.ref xe,S,plan,w,sz,rfl,RD.same s01 _ _ rs,(pl.same s01).for _,RD.same s01 _ _ rx,g,z0,z1,λq2 H2 hq3 hq4 sm2=>?_⟩;have s02:=s01.trans sm2;have hp2:H2 p=some (.lst []):=sm2 _ _ (sm1 _ _ AA);refine⟨q1,rfl,l,rfl,q2,rfl,_,sm2 _ _ hq2,_,s02 _ _ hll,_,hq4,?_⟩;have lz:min ((Ar (AD S) (Ci w)).map V.int).length (min ((plan w.name).map V.int).length ((At S plan w.name).map V.int).length)=AD S:=by
  rw[Zzz,Zzz,Zzz,Au,hlen];unfold At;rw[Au,Nat.min_self,Nat.min_self]
 have G:=A25 q1 l q2 ((Ar (AD S) (Ci w)).map V.int) ((plan w.name).map V.int) ((At S plan w.name).map V.int);rw[lz] at G;have q1p:q1≠p:=λe=>by rw[e,AA] at hq1;cases hq1
 have lp:l≠p:=A8 hll hp;have q2p:q2≠p:=λe=>by rw[e,sm1 _ _ AA] at hq3;cases hq3
 have xp:xe≠p:=A8 hxe hp;refine Rm G (A2t v a (.ref xe) p S plan w H2) ⟨_,_,_,rfl,Zyl _,hp2,λb o _ h=>h⟩ (λi σ H' _ h=>by let⟨_,_,_,_,_,_,s⟩:=h;exact⟨s _ _ q1p (sm2 _ _ hq2),s _ _ lp (s02 _ _ hll),s _ _ q2p hq4⟩) (λi ys pt σ H3 hi hys h hpt=>?_) (λσ H3 h=>?_)
 ·let⟨o1,o2,o3,rfl,hi',hp3,kp⟩:=h;let⟨y1,y2,y3,e1,e2,e3,rfl⟩:=hys;have ep:(plan w.name)[i]?=some ((plan w.name).getD i 0):=by
   rw[Zzg,Zzl (by lia)];rfl
  rw[Zzx,Bz hi] at e1;cases e1;rw[Zzx,ep] at e2;cases e2;unfold At at e3;rw[Zzx,Bz hi] at e3;cases e3;have hb:=hbd _ (Zzn ep);have hg:=wb.gives;refine gT3 ?_;walk_at "rd";have pp:p≠pt:=A8 hp3 hpt;have kx:upd H3 pt (.tup [V.int (Ci w i),V.int ((plan w.name).getD i 0),V.int (Bb S plan w.name i)]) xe=some (.tup [V.str w.name,V.int w.lag,V.int w.gives,V.int w.floor,V.int w.stock,c1,c2]):=by
   rw[A6 (A8 (kp _ _ xp (s02 _ _ hxe)) hpt)];exact kp _ _ xp (s02 _ _ hxe)
  have hp4:upd H3 pt (.tup [V.int (Ci w i),V.int ((plan w.name).getD i 0),V.int (Bb S plan w.name i)]) p=some (.lst ((Ar i (jo S plan w)).map V.int)):=by
   rw[A6 pp];exact hp3
  refine⟨E6 hp4,_,Ag (j:=2) kx rfl,_,rfl,.inl (.inl ⟨by lia,by lia⟩),_,hp4,?_,_,_,_,rfl,hi,?_,λb o nb hb=>?_⟩
  ·rw[Zzz,Au];exact Zyh (m:=1000) (by lia) (by decide)
  ·rw[AA,Kr,Zzd];rfl
  ·rw[A6 nb,A6 (A8 (kp _ _ nb hb) hpt)];exact kp _ _ nb hb
 ·let⟨o1,o2,o3,rfl,hi',hp3,kp⟩:=h;walk_at "rd";refine⟨p,Ar (AD S) (jo S plan w),rfl,hp3,by rw[Au];exact n2,λr H4 hr hr4 sm4=>?_⟩;have sm04:AB H H4:=λb o hb=>sm4 _ _ (kp _ _ (A8 hb hp) (s02 _ _ hb));refine k r H4 ?_ ?_ sm04
  ·cases e:H r with
   |none=>rfl
   |some o =>
    rw[kp _ _ (A8 e hp) (s02 _ _ e)] at hr;cases hr
  ·rw[hr4,z8];rfl
end
section
variable {dk:Dk}{c:Cl}
inductive DL (vs:List V) (H:Hp) (Q:VK) (E:XK):Prop | mk (m g:_) (_:vs=[.int m,.int g]) (_:0<g) (_:g<10^200) (_:Q (.int (Bx m g)) H)
theorem Xz(F:Fun K "lots_for" "lots_for" Q0 f fd)(T:Txt mg)(C:Exc K mg c):Aq P w K mg base CX0 1 f fd ["amount", "gives"] DL:=by
 refine F.go ["amount", "gives"] ?_ ?_ ?_;walk_at "f";let⟨m,g,rfl,h0,h1,k⟩:=h;have hu:=Ao hr;refine⟨_,(A3 (Ad (Ah (Up rfl) rfl T.Zrl Ws (A2 A5 (A2 (Qm Kk (Ae Jg (Qm Kk (pv 0)) (pv 1))) A0))))),?_⟩;walk_at "rd";exact⟨h0,h1,k⟩
theorem Eb{sz:Int}(g:AF sz S):gu S where
 nd:=g.ws.nd
 own:=g.ws.own
 low:=g.ws.low
 ok:=g.ok
 few:=by have:=g.len.2;lia
theorem Mc{sz:Int}(g:AF sz S):cj S where
 wb:=λw hw=>by
  have b:=g.ws.wb w hw;exact⟨⟨b.gives.1,Zxb b.gives.2 (by decide +kernel)⟩,⟨b.floor.1,Zxb b.floor.2 (by decide +kernel)⟩,b.stock.1,Zzp b.parts (by decide),λp hp=>⟨(b.amts p hp).1,Zxb (b.amts p hp).2 (by decide +kernel)⟩⟩
 com:=λw hw p hp=>((g.com w hw).2 p hp).2.1;few:=g.len.2;wt:=⟨g.wants.1,λu hu=>⟨(g.wants.2 u hu).2.2.1,Zxb (Int.le_of_lt (g.wants.2 u hu).2.2.2) (by decide +kernel)⟩⟩
theorem Ic{xs:List Int}{y:V}(h:(xs.map V.int)[i]?=some y):y=.int (xs.getD i 0):=by
 rw[Zzx] at h;rw[Zzg];cases e:xs[i]? with
 |none=>rw[e] at h;cases h
 |some x=>rw[e] at h;cases h;rfl
theorem gx(nd:(S.wares.map (·.name)).Nodup){a b:Wr}(h1:a∈S.wares)(h2:b∈S.wares)(e:a.name=b.name):a=b:=by
 have:=L5 nd h1;rw[e,L5 nd h2] at this;exact(Zzm this).symm
inductive ve (a b p:Addr) (g f:Int) (xs ys:List Int) (H:Hp) (i:Nat) (σ:St) (H':Hp):Prop | mk (c d e:Option V) (_:σ=[some (.ref a),some (.ref b),some (.int g),some (.int f),some (.ref p),some (.int (above f g xs ys i)),c,d,e]) (_:H' p=some (.lst ((AQ f g xs ys i).map V.int))) (_:AB H H')
inductive CT (vs:List V) (H:Hp) (Q:VK) (E:XK):Prop | mk (a b:Addr) (g f:Int) (xs ys:List Int) (_:vs=[.ref a,.ref b,.int g,.int f]) (_:H a=some (.lst (xs.map V.int))) (_:H b=some (.lst (ys.map V.int))) (_:ys.length=xs.length) (_:xs.length<=1000) (_:0<g) (_:g<10^200) (_:(∀i,i<xs.length->EG g (Iu f g xs ys i))) (_:∀p H',H p=none->H' p=some (.lst ((AQ f g xs ys xs.length).map V.int))->AB H H'->Q (.ref p) H')
theorem Sc(F:Fun K "least_lots" "least_lots" Li f fd)(T:Txt mg)(C:Exc K mg c)(Zs6:Has P w K mg base "lots_for" 1 ["amount", "gives"] DL):Aq P w K mg base CX0 2 f fd ["have", "need", "gives", "floor"] CT:=by
 refine F.go ["have", "need", "gives", "floor", "told", "above_floor", "comes", "goes", "lots"] ?_ ?_ ?_;walk_at "f";let⟨a,b,g,fl,xs,ys,rfl,ha,hb,hl,hn,g0,g200,hm,k⟩:=h;have hu:=Ao hr;refine⟨_,(A1 (B4 4 Nd (B7 A0))
 (A1 (B4 5 Nd (Qm Kk (pv 3)))
 (A1 (Bj PassesOwn.never rfl (V8 rfl T.Zrw (A2 (pv 0) (A2 (pv 1) A0))) (Et (n:=2) rfl (Az (Cj 6 Nd) (Az (Cj 7 Nd) Df)))
 (A1 (Gy (i:=5) Nd rfl (Zyr rfl) (Ae N1 (pv 6) (pv 7)) Ib)
 (A1 (B4 8 Nd (A9 Zs6 hr.z rfl (A2 (Qm Kk (pv 5)) (A2 (pv 2) A0))))
 (A1 (Gy (i:=5) Nd rfl (Zyr rfl) (Ae Jw (pv 2) (pv 8)) Ib)
 (A3 (Bm (D2 Zyw Zyn Zym Co (pv 4) (A2 (pv 8) A0))))))))
 (A3 (Ad (pv 4)))))),?_⟩
 walk_at "rd";refine⟨Zyl _,λp hp=>⟨_,by rw[A6 (A8 ha hp)];exact ha,_,by rw[A6 (A8 hb hp)];exact hb,?_⟩⟩;have en:min (xs.map V.int).length (ys.map V.int).length=xs.length:=by rw[Zzz,Zzz];lia
 refine Rm (bf a b _ _) (ve a b p g fl xs ys H) ⟨_,_,_,rfl,AA,A7 hp⟩ (λi σ H' _ h=>by let⟨_,_,_,_,_,s⟩:=h;exact⟨s _ _ ha,s _ _ hb⟩) (λi us t σ H' hi hy h ht=>?_) (λσ H' h=>?_)
 ·let⟨c,d,e,rfl,h1,sm⟩:=h;let⟨y,z,ey,ez,rfl⟩:=hy;have hy:=Ic ey;have hz:=Ic ez;subst hy hz;refine gT2 ?_;walk_at "rd";refine⟨_,_,rfl,g0,g200,?_⟩;have eL:Bx (-(above fl g xs ys i+(xs.getD i 0 - ys.getD i 0))) g=Iu fl g xs ys i:=rfl;rw[eL];have hp':upd H' t (.tup [.int (xs.getD i 0),.int (ys.getD i 0)]) p=some (.lst ((AQ fl g xs ys i).map V.int)):=by rw[A6 (A8 h1 ht)];exact h1
  walk_at "rd";refine⟨hm i (by lia),E6 hp',_,hp',Zyh (m:=1000) (by rw[Zzz,Yf];lia) (by decide),?_⟩;refine⟨_,_,_,rfl,?_,λb' o hb'=>?_⟩
  ·rw[AA,j4,Zzd];rfl
  ·rw[A6 (A8 hb' hp)];exact(sm.trans (A7 ht)) b' o hb'
 ·let⟨c,d,e,rfl,h1,sm⟩:=h;walk_at "rd";rw[en] at h1;exact k p H' hp h1 sm
def dayV:Option Nat->V
 |some d=>.int d
 |none=>.non
inductive CN (vs:List V) (H:Hp) (Q:VK) (E:XK):Prop | mk (a:Addr) (row:List Int) (lag:Int) (_:vs=[.ref a,.int lag]) (_:H a=some (.lst (row.map V.int))) (_:row.length<=1000) (_:∀H',AB H H'->Q (dayV (Bq row lag)) H')
inductive vg (a:Addr) (lag:Int) (row:List Int) (H:Hp) (i:Nat) (σ:St) (H':Hp):Prop | mk (c d:Option V) (_:σ=[some (.ref a),some (.int lag),c,d]) (_:Cv row lag i=none) (_:AB H H')
theorem Qv(F:Fun K "first_early" "first_early" Kh f fd)(T:Txt mg)(C:Exc K mg c):Aq P w K mg base CX0 1 f fd ["lots", "lag"] CN:=by
 refine F.go ["lots", "lag", "day", "count"] ?_ ?_ ?_;walk_at "f";let⟨a,row,lag,rfl,ha,hl,k⟩:=h;have hu:=Ao hr;refine⟨_,(A1 (Bj PassesOwn.never rfl (P9 rfl T.Zt6 (A2 (pv 0) A0)) (Et (n:=2) rfl (Az (Cj 2 Nd) (Az (Cj 3 Nd) Df)))
 (A3 (As (PW.pt (Mz (Aj (a8 hu) (pv 2) (pv 1) (Ak _)) (Jv (Aj Xu (pv 3) A5 (Ak _))))) (A3 (Ad (pv 2))) Ai)))
 (A3 (Ad Dn))),?_⟩
 walk_at "rd";refine⟨_,ha,?_⟩;refine Rm (g5 a _) (vg a lag row H) ⟨_,_,rfl,rfl,AB.refl _⟩ (λi σ H' _ h=>by let⟨_,_,_,_,s⟩:=h;exact s _ _ ha) (λi us t σ H' hi hy h ht=>?_) (λσ H' h=>?_)
 ·let⟨c,d,rfl,hn,sm⟩:=h;let⟨y,ey,rfl⟩:=hy;have hy:=Ic ey;subst hy;rw[Zzz] at hi;have s2:=sm.trans (A7 (o:=.tup [.int i,.int (row.getD i 0)]) ht);have es:Cv row lag (i+1)=if (i:Int)<lag/\0<row.getD i 0 then some i else none:=by rw[Cv,hn]
  refine gT2 ?_;walk_at "rd";refine Do (λh1=>Do (λh2=>?_) (λh2=>?_)) (λh1=>?_)
  ·have h1:=GA h1
   have h2:=GA h2;rw[GE ⟨h1,h2⟩] at es;have e:Bq row lag=some i:=bn es (by lia);have:=k _ s2;rw[e] at this;exact this
  ·exact⟨_,_,rfl,by rw[es,GD (λc=>h2 (GB c.2))],s2⟩
  ·exact⟨_,_,rfl,by rw[es,GD (λc=>h1 (GB c.1))],s2⟩
 ·let⟨c,d,rfl,hn,sm⟩:=h;rw[Zzz] at hn;walk_at "rd";have:=k _ sm;unfold Bq at this;rw[hn] at this;exact this
def A4z(kvs:List (Key×V))(l:List Str):Prop:=∀nm∈l,∀nm'∈l,∀q:Addr,C1 kvs (.inr nm)=some (.ref q)->C1 kvs (.inr nm')=some (.ref q)->nm=nm'
inductive v9 (H H':Hp) (a:Addr) (S:Sh) (l:List Str):Prop | mk (kvs:_) (_:H' a=some (.dK kvs)) (_:kvs.map (·.1)=l.map Zyd) (_:(∀nm∈l,∃q:Addr,H q=none/\q≠a/\C1 kvs (.inr nm)=some (.ref q)/\H' q=some (.lst ((LR S nm).map V.int)))) (_:A4z kvs l)
inductive Ht (Pt:Addr) (vs:List V) (H:Hp) (Q:VK) (E:XK):Prop | mk (v:V) (S:Sh) (sz:Int) (_:vs=[v]) (_:RD H S.d v) (_:AF sz S) (_:0<sz) (_:sz<=1000) (_:Tb H Pt) (_:∀(t p:Addr) (ys:List Str) (i:Nat) (H':Hp),H t=none->H p=none->t≠p->Mm (lv S) (Bp S) ys->v9 H H' p S (ys.take i)->(∀w∈S.wares,w.name∈ys.take i->Bq (LR S w.name) w.lag=none)->Tb H' Pt->But Pt H H'->((i=ys.length/\H' t=some (.tup [.str "plan",.ref p]))\/∃(w:Wr) (d:Nat),w∈S.wares/\ys[i]?=some w.name/\Bq (LR S w.name) w.lag=some d/\H' t=some (.tup [.str "short",.ref p,.str w.name,.int d,.int ((LR S w.name).getD d 0)]))->Q (.ref t) H')
inductive zp (v:V) (p:Addr) (S:Sh) (ys:List Str) (H H1:Hp) (i:Nat) (σ:St) (H':Hp):Prop | mk (o2 o3 o4 o5:Option V) (_:σ=[some v,some (.ref p),o2,o3,o4,o5]) (_:v9 H H' p S (ys.take i)) (_:(∀w∈S.wares,w.name∈ys.take i->Bq (LR S w.name) w.lag=none)) (_:∀b o,b≠p->H1 b=some o->H' b=some o)
theorem af(F:Fun K "planned" "planned" Tu f fd)(T:Txt mg)(C:Exc K mg c)(Zty:Has P w K mg base "worked" 6 ["shop"] (Ju Pt))(Zun:Eh P w K mg base "ware_of" 1 ["shop", "name"] (Dw c))(Zsv:Has P w K mg base "least_lots" 2 ["have", "need", "gives", "floor"] CT)(Ztu:Has P w K mg base "needs_row" 3 ["shop", "plan", "ware"] CA)(Zub:Has P w K mg base "arrivals_row" 2 ["shop", "ware"] BN)(Zt2:Has P w K mg base "first_early" 1 ["lots", "lag"] CN):Aq P w K mg base CX0 7 f fd ["shop"] (Ht Pt):=by
 refine F.go ["shop", "plan", "name", "ware", "lots", "day"] ?_ ?_ ?_;walk_at "f";let⟨v,S,sz,rfl,rs,g,z0,z1,tb,k⟩:=h;have hu:=Ao hr;let⟨n1,n2,n3,n4⟩:=g.days z0 z1;refine⟨_,(A1 (B4 1 Nd Ga)
 (A1 (Bj PassesOwn.never rfl (Dl (A9 Zty hr.z rfl (A2 (pv 0) A0))) (Cj 2 Nd)
 (A1 (B4 3 Nd (B0 Zun Cw hr.z rfl (A2 (pv 0) (A2 (pv 2) A0))))
 (A1 (B4 4 Nd (A9 Zsv hr.z rfl (A2 (A9 Zub hr.z rfl (A2 (pv 0) (A2 (pv 3) A0))) (A2 (A9 Ztu hr.z rfl (A2 (pv 0) (A2 (pv 1) (A2 (pv 3) A0)))) (A2 (Ac hu (pv 3) (Af rfl T.Ztn)) (A2 (Ac hu (pv 3) (Af rfl T.Zsz)) A0))))))
 (A1 (B4 5 Nd (A9 Zt2 hr.z rfl (A2 (pv 4) (A2 (Ac hu (pv 3) (Af rfl T.Zt5)) A0))))
 (A1 (As (Aj Jx (pv 5) Dn (Ak _)) (A3 (Ad (Bo (A2 Aa (A2 (pv 1) (A2 (pv 2) (A2 (pv 5) (A2 (Ac hu (pv 4) (pv 5)) A0)))))))) Ai)
 (A3 (Ep (pv 4) (Fq (pv 1) (pv 2) (Dp hu)))))))))
 (A3 (Ad (Bo (A2 Aa (A2 (pv 1) A0))))))),?_⟩
 have L:=Eb g;have PL:=Mc g;have hfew:=L.few;walk_at "rd";intro p hp;have u0:=A7 (o:=.dK []) hp;refine⟨v,S,rfl,RD.same u0 _ _ rs,L,tb.same u0,λq ys H1 hq hq1 so sb tb1 bt1=>⟨q,rfl,_,hq1,?_⟩⟩;have tb0:=tb.same u0;have pPt:p≠Pt:=λz=>by let⟨u,e⟩:=tb.at;rw[<- z,hp] at e;cases e
 have hp1:H1 p=some (.dK []):=bt1 _ _ pPt AA;have qp:q≠p:=Yb hq1 hp1 (λz=>by cases z);have hyl:ys.length=S.wares.length:=by rw[so.1.length_eq,D6]
 have ndy:ys.Nodup:=so.1.nodup_iff.mpr L.nd;have so':Oq (lv S) (S.wares.map (·.name)) ys:=so;have rs1:=RD.ku (Nw tb0 bt1) _ _ (Fz S) (RD.same u0 _ _ rs);have fresh:∀(H':Hp) (b:Addr),(∀b o,b≠p->H1 b=some o->H' b=some o)->H' b=none->b≠p->H b=none:=λH' b kp hb nb=>by
  cases e:H b with
  |none=>rfl
  |some o =>
   by_cases z:b=Pt
   ·let⟨u,e2⟩:=tb1.at;rw[z,kp _ _ (Zza pPt) e2] at hb;cases hb
   ·rw[kp _ _ nb (bt1 _ _ z (u0 _ _ e))] at hb;cases hb
 have keepB:∀(H':Hp),(∀b o,b≠p->H1 b=some o->H' b=some o)->But Pt H H':=λH' kp b o nb e=>kp _ _ (A8 e hp) (bt1 _ _ nb (u0 _ _ e));have keepT:∀(H':Hp),(∀b o,b≠p->H1 b=some o->H' b=some o)->Tb H' Pt:=λH' kp=>by
  rcases tb1 with e | ⟨c,e,e2⟩
  ·exact .inl (kp _ _ (Zza pPt) e)
  ·exact .inr ⟨c,kp _ _ (Zza pPt) e,kp _ _ (λz=>by rw[z,hp1] at e2;cases e2) e2⟩
 refine D7 (Ec q _) (zp v p S ys H H1) ⟨_,_,_,_,rfl,⟨[],hp1,rfl,(λnm hn=>by cases hn),λnm hn=>by cases hn⟩,(λw _ hn=>by cases hn),λb o _ e=>e⟩ (λi σ H' _ h=>by let⟨_,_,_,_,_,_,_,kp⟩:=h;exact kp _ _ qp hq1) (λi x σ H2 hi hx h=>?_) (λσ H2 h=>?_)
 ·let⟨o2,o3,o4,o5,rfl,⟨kvs,hp2,hks,hrow,hap⟩,hne,kp⟩:=h;rw[Zzx] at hx;cases en:ys[i]? with
  |none=>rw[en] at hx;cases hx
  |some nm =>
  rw[en] at hx;have hx:V.str nm=x:=Zzm hx;subst hx;have hny:=Zzn en;have hnm:nm∈S.wares.map (·.name):=so.1.mem_iff.mp hny;have hil:i<ys.length:=(Zzf.mp en).1;have ku2:AZ H1 H2:=λb xs e=>kp b _ (Yb e hp1 (λz=>by cases z)) e;have rs2:=RD.ku ku2 _ _ (Fz S) rs1;walk_at "rd";refine⟨v,S,nm,rfl,rs2,L.ok,.inl ⟨hnm,λt wt hwt ewt rt=>?_⟩⟩;subst ewt;have hcom:=g.com wt hwt;have wb:=g.ws.wb wt hwt;let⟨te,d1,d2,rfl,hte,rc,rp⟩:=Ck rt;refine⟨v,.ref te,S,wt,sz,rfl,rs2,rt,g,z0,z1,by have:=hcom.1;lia,λq hq=>(hcom.2 q hq).1.1,λq1 H3 hq1' hq3 sm3=>?_⟩;have pf:BP H3 p S (LR S) (uy S wt.name):=⟨kvs,.inl (sm3 _ _ hp2),λnm' hn' hT=>by
   let⟨u,hu',rfl,pp,hpp,e⟩:=hT
   let⟨qr,_,_,hv,hl⟩:=hrow u.name (kr L.toLev so' en hu' hpp e)
   exact⟨qr,hv,sm3 _ _ hl,Js L.toLev hu',λx hx=>⟨(gv PL _ x hx).1,Int.lt_trans (gv PL _ x hx).2 (by decide +kernel)⟩⟩⟩
  refine⟨v,p,.ref te,S,LR S,wt,sz,rfl,RD.same sm3 _ _ rs2,pf,RD.same sm3 _ _ rt,g,z0,z1,λq2 H4 hq4 hq5 sm4=>?_⟩;have s24:=sm3.trans sm4;have hte4:=s24 _ _ hte;refine⟨_,Ag (j:=2) hte4 rfl,_,Ag (j:=3) hte4 rfl,?_⟩;have lrq:AQ wt.floor wt.gives (Ar (AD S) (Ci wt)) (At S (LR S) wt.name) (Ar (AD S) (Ci wt)).length=LR S wt.name:=by rw[Au,<- Jt L.toLev hwt]
  refine⟨q1,q2,wt.gives,wt.floor,Ar (AD S) (Ci wt),At S (LR S) wt.name,rfl,sm4 _ _ hq3,hq5,by unfold At;rw[Au,Au],by rw[Au];exact n2,by have:=wb.gives.1;lia,Zx3 wb.gives.2 (by decide +kernel),λj hj=>.inl (.inl ⟨by have:=wb.gives.1;lia,by have:=wb.gives.2;lia⟩),λr H5 hr5 hr6 sm5=>?_⟩;rw[lrq] at hr6;have s25:=s24.trans sm5;refine⟨_,Ag (j:=1) (s25 _ _ hte) rfl,r,LR S wt.name,wt.lag,rfl,hr6,by rw[Js L.toLev hwt];exact n2,λH6 sm6=>?_⟩;have s26:=s25.trans sm6;have hr7:=sm6 _ _ hr6;have hp6:=s26 _ _ hp2;have kp6:∀b o,b≠p->H1 b=some o->H6 b=some o:=λb o nb e=>s26 _ _ (kp b o nb e);have rp:r≠p:=λz=>by rw[z,s24 _ _ hp2] at hr5;cases hr5
  have hr0:H r=none:=by
   have h2r:H2 r=none:=AB.free s24 hr5;exact fresh H2 r kp h2r rp
  have hrow6:∀nm'∈ys.take i,∃q':Addr,H q'=none/\q'≠p/\C1 kvs (.inr nm')=some (.ref q')/\H6 q'=some (.lst ((LR S nm').map V.int)):=λnm' hn'=>by let⟨q',e1,e2,e3,e4⟩:=hrow nm' hn';exact⟨q',e1,e2,e3,s26 _ _ e4⟩
  cases ea:Bq (LR S wt.name) wt.lag with
  |some d =>
   have hd:=Jn ea;have hdl:d<(LR S wt.name).length:=hd.1;have eg:(LR S wt.name)[d]?=some ((LR S wt.name).getD d 0):=by rw[Zzg,Zzl hdl];rfl
   show if (!decide (V.int (d:Int)=V.non))=true then _ else _
   rw[GE (by rw[GC (λz=>by cases z)];rfl)];refine⟨.int ((LR S wt.name).getD d 0),An hr7 (by rw[Zzx,eg];rfl),by decide,λt ht=>?_⟩;have tp:t≠p:=λz=>by rw[z,hp6] at ht;cases ht
   have u7:=A7 (o:=.tup [.str "short",.ref p,.str wt.name,.int d,.int ((LR S wt.name).getD d 0)]) ht;have kp7:∀b o,b≠p->H1 b=some o->upd H6 t (.tup [.str "short",.ref p,.str wt.name,.int d,.int ((LR S wt.name).getD d 0)]) b=some o:=λb o nb e=>u7 _ _ (kp6 b o nb e);exact k t p ys i _ (fresh H6 t kp6 ht tp) hp tp sb ⟨kvs,u7 _ _ hp6,hks,λnm' hn'=>by let⟨q',e1,e2,e3,e4⟩:=hrow6 nm' hn';exact⟨q',e1,e2,e3,u7 _ _ e4⟩,hap⟩ hne (keepT _ kp7) (keepB _ kp7) (.inr ⟨wt,d,hwt,en,ea,AA⟩)
  |none =>
   show if (!decide (V.non=V.non))=true then _ else _
   rw[GD (by decide)];have hkl:kvs.length<=64:=by
    have:=congrArg Zxn hks;rw[Zzz,Zzz,Zyy] at this;lia
   refine⟨kvs,.inr wt.name,rfl,hp6,Zyh hkl (by decide),_,_,_,_,rfl,⟨_,AA,?_,λnm' hn'=>?_,λnm1 hn1 nm2 hn2 q1' v1 v2=>?_⟩,λw' hw' hn'=>?_,λb o nb e=>by rw[A6 nb];exact kp6 b o nb e⟩
   ·have nn:C1 kvs (.inr wt.name)=none:=by
     cases e:C1 kvs (.inr wt.name) with
     |none=>rfl
     |some z =>
      have h3:=vk e;rw[hks] at h3;let⟨y,hy,e2⟩:=Zzt.mp h3;rw[Zwh e2] at hy;exact absurd hy (Hh ndy en)
    rw[Qh _ nn,Zzd,hks,Zz6,en,Zzd];rfl
   ·rw[Zz6,en] at hn';rcases Zz3.mp hn' with z | z
    ·let⟨q',e1,e2,e3,e4⟩:=hrow6 nm' z;refine⟨q',e1,e2,by rw[Iw,GD (λz2=>Hh ndy en (by rw[<- Zwh z2];exact z))];exact e3,by rw[A6 e2];exact e4⟩
    ·have e:nm'=wt.name:=by simpa using z
     subst e;exact⟨r,hr0,rp,by rw[Iw,GE rfl],by rw[A6 rp];exact hr7⟩
   ·have old:∀nm'∈ys.take i,∀q':Addr,C1 (Dx kvs (.inr wt.name) (.ref r)) (.inr nm')=some (.ref q')->C1 kvs (.inr nm')=some (.ref q')/\q'≠r:=λnm' hn' q' e=>by
     rw[Iw,GD (λz2=>Hh ndy en (by rw[<- Zwh z2];exact hn'))] at e;refine⟨e,λz=>?_⟩;let⟨q2',_,_,e3,e4⟩:=hrow nm' hn';rw[e] at e3;cases e3;rw[z,AB.free s24 hr5] at e4;cases e4
    have new:∀nm',nm'∈ys.take (i+1)->nm'∈ys.take i\/nm'=wt.name:=λnm' hn'=>by
     rw[Zz6,en] at hn';rcases Zz3.mp hn' with z | z
     ·exact .inl z
     ·exact .inr (by simpa using z)
    rcases new nm1 hn1 with z1 | z1<;>rcases new nm2 hn2 with z2 | z2
    ·exact hap nm1 z1 nm2 z2 q1' (old nm1 z1 q1' v1).1 (old nm2 z2 q1' v2).1
    ·rw[z2,Iw,GE rfl] at v2;cases v2;exact absurd rfl (old nm1 z1 _ v1).2
    ·rw[z1,Iw,GE rfl] at v1;cases v1;exact absurd rfl (old nm2 z2 _ v2).2
    ·rw[z1,z2]
   ·rw[Zz6,en] at hn';rcases Zz3.mp hn' with z | z
    ·exact hne w' hw' z
    ·have e:w'.name=wt.name:=by simpa using z
     rw[gx L.nd hw' hwt e];exact ea
 ·let⟨o2,o3,o4,o5,rfl,hrow,hne,kp⟩:=h;rw[Zzz] at hrow hne;walk_at "rd";refine⟨by decide,λt ht=>?_⟩;let⟨kvs,hp2,hks,hr2,hap⟩:=hrow;have tp:t≠p:=λz=>by rw[z,hp2] at ht;cases ht
  have u7:=A7 (o:=.tup [.str "plan",.ref p]) ht;have kp7:∀b o,b≠p->H1 b=some o->upd H2 t (.tup [.str "plan",.ref p]) b=some o:=λb o nb e=>u7 _ _ (kp b o nb e);exact k t p ys ys.length _ (fresh H2 t kp ht tp) hp tp sb ⟨kvs,u7 _ _ hp2,hks,λnm' hn'=>by let⟨q',e1,e2,e3,e4⟩:=hr2 nm' hn';exact⟨q',e1,e2,e3,u7 _ _ e4⟩,hap⟩ hne (keepT _ kp7) (keepB _ kp7) (.inl ⟨rfl,AA⟩)
end
section
variable {dk:Dk}{c:Cl}
theorem vq:(Str.ofString " ")=one 32:=by decide +kernel
abbrev Ba(n:Int):Str:=Str.ofString (toString n)
def gq:Key->Prop
 |.inl i=>0<=i/\i<10^577
 |.inr x=>x.length<=1200
theorem nab{n:Int}{B:Nat}(h0:0<=n)(h1:n<(B:Int)):n.natAbs<B:=by lia
theorem N7{n:Int}(h:0<=n/\n<10^577):n.natAbs<10^577:=nab h.1 (by exact_mod_cast h.2)
theorem Nl{n:Int}(h:0<=n/\n<10^577):(∀c∈(Ba n).cps.toList,48<=c/\c<=57)/\Zxq (Ba n)=some n/\1<=(Ba n).length/\(Ba n).length<=577:=g9 (k:=576) (by decide) h.1 h.2
theorem mf{k:Key}(h:gq k):(AJ k).length<=1200:=by
 cases k with
 |inl n=>exact Zzp (Nl h).2.2.2 (by decide)
 |inr x=>exact h
inductive BD (vs:List V) (H:Hp) (Q:VK) (E:XK):Prop | mk (a:Addr) (ks:List Key) (_:vs=[.ref a]) (_:H a=some (.lst (ks.map kV))) (_:ks.length<=1000) (_:(∀k∈ks,gq k)) (_:∀H',AB H H'->Q (.str (Str.join (one 32) (ks.map AJ))) H')
theorem Qs(F:Fun K "shown_words" "shown_words" Kf f fd)(T:Txt mg)(C:Exc K mg c):Aq P w K mg base CX0 1 f fd ["words"] BD:=by
 refine F.go ["words"] ?_ ?_ ?_;walk_at "f";let⟨a,ks,rfl,ha,hl,ok,k⟩:=h;have hu:=Ao hr;refine⟨_,(A3 (Ad (D2 Zy9 Zwd Zwc Pc Aa (A2 (Bs (own:=["word"]) (cap:=[]) rfl (Cf rfl) (Av (by decide)) (Dl (pv 0))
 (λ_ _ _ _ _ _=>⟨(Ax (i:=0) (GA rfl) rfl (Zyr rfl) (.inr rfl)),Bi,(Bf Uo rfl T.Zt1 Ii (A2 (pv 0) A0))⟩)) A0)))),?_⟩
 walk_at "rd";refine⟨rfl,_,ha,?_⟩;refine By (Ec a _) (Am (by rw[Zzz];exact hl)) (λH' s'=>s' _ _ ha) ((ks.map AJ).map V.str) (by simp) (λi x H' hi hx s' N M hN=>?_) (λH' s' p hp=>?_)
 ·rw[Zzx] at hx;cases e:ks[i]? with
  |none=>rw[e] at hx;cases hx
  |some kk =>
  rw[e] at hx;have hx:kV kk=x:=Zzm hx;subst hx;walk_at "rd";have hN:=hN (.str (AJ kk)) H' s' (by rw[Zzx,Zzx,e];rfl);have okk:=ok _ (Zzn e);cases kk with
  |inl n=>exact .inl ⟨n,rfl,N7 okk,hN⟩
  |inr x=>exact .inr ⟨x,rfl,hN⟩
 ·refine⟨p,rfl,_,AA,1200,λy hy=>?_,?_,?_⟩
  ·let⟨kk,hk,rfl⟩:=Zzt.mp hy;exact mf (ok kk hk)
  ·rw[vq,Zzz];show _*1200+_*1<=_;lia
  ·rw[vq];exact k _ (s'.trans (A7 hp))
def yy(d:Nat)(n:Int):Str:=Str.join (one 58) [Ba d,Ba n]
def Fw(row:List Int):Nat->List Str
 |0=>[]
 |i+1=>Fw row i++if 0<row.getD i 0 then [yy i (row.getD i 0)] else []
theorem K3(row:List Int):∀i,(Fw row i).length<=i
 |0=>Zzu _
 |i+1=>by
  rw[Fw,Zz8];have:=K3 row i;split<;>simp<;>lia
def Ry(row:List Int):Prop:=row.length<=30/\∀i,0<=row.getD i 0/\row.getD i 0<10^577
theorem A28(d:Nat)(n:Int):Str.empty++Ba d ++ ":" ++ Ba n=yy d n:=by
 rw[Str.empty_append];rfl
theorem Wo{d:Nat}(h:d<=30):0<=(d:Int)/\(d:Int)<10^577:=⟨Int.natCast_nonneg d,Zx3 (b:=30) (by lia) (by decide +kernel)⟩
theorem gi{d:Nat}{n:Int}(hd:d<=30)(h:0<=n/\n<10^577):(yy d n).length<=1200:=by
 have h1:=(Nl (Wo hd)).2.2.2;have h2:=(Nl h).2.2.2;show (Ba d++one 58++Ba n).length<=1200;rw[strLen_append,strLen_append];have:(one 58).length=1:=rfl;lia
inductive CB (vs:List V) (H:Hp) (Q:VK) (E:XK):Prop | mk (a:Addr) (row:List Int) (_:vs=[.ref a]) (_:H a=some (.lst (row.map V.int))) (_:Ry row) (_:∀p H',H p=none->H' p=some (.lst ((Fw row row.length).map V.str))->AB H H'->Q (.ref p) H')
theorem Vs(F:Fun K "days_with" "days_with" O9 f fd)(T:Txt mg)(C:Exc K mg c):Aq P w K mg base CX0 1 f fd ["row"] CB:=by
 refine F.go ["row"] ?_ ?_ ?_;walk_at "f";let⟨a,row,rfl,ha,hrow,k⟩:=h;have hu:=Ao hr;refine⟨_,(A3 (Ad (Bs (own:=["day", "amount"]) (cap:=[]) rfl (Cf rfl) Nf (P9 rfl T.Zt6 (A2 (pv 0) A0))
 (λ_ _ _ _ _ _=>⟨(Et (n:=2) rfl (Az (Ax (i:=0) (GA rfl) rfl (Zyr rfl) (.inr rfl)) (Az (Ax (i:=1) (GA rfl) rfl (Zyr rfl) (.inr rfl)) Df))),(P7 (Aj Xu (pv 1) A5 (Ak _))),(Vc (Lo (pv 0) (Lp (Lo (pv 1) Pa))))⟩)))),?_⟩
 walk_at "rd";have hl:=hrow.1;refine⟨_,ha,?_⟩;refine bu (g5 a _) (Am (by rw[Zzz];lia)) (λi acc H'=>acc=(Fw row i).map V.str/\AB H H') ⟨rfl,AB.refl _⟩ (λi acc H' _ h=>h.2 _ _ ha) (λi acc H' h=>by rw[h.1,Zzz];exact K3 row i) (λi us p acc H' hi hy h hp=>?_) (λacc H' h p hp=>?_)
 ·let⟨rfl,s'⟩:=h;let⟨y,ey,rfl⟩:=hy;rw[Ic ey];rw[Zzz] at hi;refine gT2 ?_;have s2:=s'.trans (A7 (o:=.tup [.int i,.int (row.getD i 0)]) hp);generalize upd H' p (.tup [.int i,.int (row.getD i 0)])=H2 at s2;walk_at "rd";have hn:=hrow.2 i;refine Do (λc=>?_) (λc=>?_)
  ·have c:=GA c
   have hi30:i<=30:=by lia
   have l1:(Str.ofString (toString (i:Int))).length<=577:=(Nl (Wo hi30)).2.2.2;have l3:=gi hi30 hn;rw[A28,Str.empty_append,strLen_append];refine⟨N7 (Wo hi30),by lia,by show _+1<=_;lia,N7 hn,by lia,by lia,?_,s2⟩;rw[Fw,GE c,Zzd];rfl
  ·have c:¬ 0<row.getD i 0:=λz=>c (GB z)
   exact⟨by rw[Fw,GD c,Zyt],s2⟩
 ·let⟨rfl,s'⟩:=h;rw[Zzz] at *;exact k p _ (AB.free s' hp) AA (s'.trans (A7 hp))
end
section
variable {dk:Dk}{c:Cl}
noncomputable def Fj(S:Sh)(nm:Str):List Str:=Fw (LR S nm) (LR S nm).length
def Kv(S:Sh)(nm:Str):Bool:=!(Fj S nm).isEmpty
def qv(S:Sh)(nm:Str):Str:=Str.join (one 32) (nm::Fj S nm)
def Ji(S:Sh)(ys:List Str):List Str:=(ys.filter (Kv S)).map (qv S)
def mm(S:Sh)(w:Wr)(d:Nat):Str:=Str.join (one 32) ["short",w.name,Ba d,Ba ((LR S w.name).getD d 0)]
inductive Hr (S:Sh) (y:Str):Prop | mk (ys:List Str) (i:Nat) (_:Mm (lv S) (Bp S) ys) (_:(∀w∈S.wares,w.name∈ys.take i->Bq (LR S w.name) w.lag=none)) (_:((i=ys.length/\y=Str.join (one 10) (Ji S ys))\/∃(w:Wr) (d:Nat),w∈S.wares/\ys[i]?=some w.name/\Bq (LR S w.name) w.lag=some d/\y=mm S w d))
theorem vf{sz:Int}(g:AF sz S)(z0:0<sz)(z1:sz<=30){w:Wr}(hw:w∈S.wares):Ry (LR S w.name):=by
 refine⟨?_,λi=>?_⟩
 ·rw[Js (Eb g).toLev hw];unfold AD;have:=Pe (ns:=S.wants.map λu=>u.2.1) z0 λx hx=>by let⟨u,hu,rfl⟩:=Zzt.mp hx;exact(g.wants.2 u hu).2.1.2
  lia
 rw[Zzg];cases e:(LR S w.name)[i]? with
 |none=>exact⟨Zz5 _,by decide +kernel⟩
 |some x =>
  have h1:=cm (Mc g) S.wares.length w.name x (Zzn e);have h2:(10:Nat)^(45*S.wares.length)<10^577:=Nat.pow_lt_pow_right (by decide) (by have:=g.len.2;lia);have h3:(10:Int)^(45*S.wares.length)<10^577:=by exact_mod_cast h2
  exact⟨h1.1,Zx3 h1.2 h3⟩
theorem Rq(h:Ry row):∀i,i<=row.length->∀x∈Fw row i,∃(d:Nat) (n:Int),d<=30/\(0<=n/\n<10^577)/\x=yy d n
 |0,_,x,hx=>by cases hx
 |i+1,hi,x,hx=>by
  rw[Fw] at hx;rcases Zz3.mp hx with z | z
  ·exact Rq h i (by lia) x z
  ·have:=h.1
   split at z
   ·exact⟨i,_,by lia,h.2 i,Zzh.mp z⟩
   ·cases z
theorem Ui(h:Ry row)(hx:x∈Fw row row.length):x.length<=1200:=by
 let⟨d,n,h1,h2,rfl⟩:=Rq h _ (Zzu _) x hx;exact gi h1 h2
theorem Be(h:Al x=true):x.length<=8:=by
 unfold Al at h;simp only[Zz1,decide_eq_true_eq] at h;exact h.1.2
theorem qu{sz:Int}(g:AF sz S)(z0:0<sz)(z1:sz<=30){w:Wr}(hw:w∈S.wares):(qv S w.name).length<=40000:=by
 have r:=vf g z0 z1 hw;have h1:=K3 (LR S w.name) (LR S w.name).length;have h2:=r.1;have:=Gd (sep:=one 32) (B:=1200) (xs:=w.name::Fj S w.name) λy hy=>by
  rcases Zzw.mp hy with rfl | hy
  ·exact Zzp (Be (g.ws.txt w hw)) (by decide)
  ·exact Ui r hy
 rw[Zyz,show (one 32).length=1 from rfl] at this;have h3:(Fj S w.name).length<=30:=Zzp h1 h2;show (Str.join (one 32) (w.name::Fj S w.name)).length<=40000;lia
def Zs(S:Sh)(w:Wr)(d:Nat):List Key:=[.inr "short",.inr w.name,.inl d,.inl ((LR S w.name).getD d 0)]
theorem mj{sz:Int}(g:AF sz S)(z0:0<sz)(z1:sz<=30){w:Wr}(hw:w∈S.wares){d:Nat}(hed:Bq (LR S w.name) w.lag=some d):∀k∈Zs S w d,gq k:=λk hk=>by
 have r:=vf g z0 z1 hw;have h1:=(Jn (show Cv (LR S w.name) w.lag (LR S w.name).length=some d from hed)).1;have h2:=r.1;simp only[Zs,Zzw,Zz2,or_false] at hk;rcases hk with rfl | rfl | rfl | rfl
 ·show _<=1200
  decide
 ·exact Zzp (Be (g.ws.txt w hw)) (by decide)
 ·exact Wo (by lia)
 ·exact r.2 d
inductive A4m (v:V) (t q:Addr) (S:Sh) (ys:List Str) (H:Hp) (i:Nat) (σ:St) (H':Hp):Prop | mk (o3 o4:Option V) (_:σ=[some v,some (.ref t),some (.ref q),o3,o4]) (_:H' q=some (.lst ((Ji S (ys.take i)).map V.str))) (_:∀b o,b≠q->H b=some o->H' b=some o)
inductive Kc (Pt:Addr) (vs:List V) (H:Hp) (Q:VK) (E:XK):Prop | mk (v:V) (S:Sh) (sz:Int) (_:vs=[v]) (_:RD H S.d v) (_:AF sz S) (_:0<sz) (_:sz<=30) (_:Tb H Pt) (_:∀y H',Hr S y->Tb H' Pt->But Pt H H'->Q (.str y) H')
theorem S9(F:Fun K "shown_plan" "shown_plan" Lg f fd)(T:Txt mg)(C:Exc K mg c)(Zu4:Has P w K mg base "planned" 7 ["shop"] (Ht Pt))(Zuk:Has P w K mg base "shown_words" 1 ["words"] BD)(Zty:Has P w K mg base "worked" 6 ["shop"] (Ju Pt))(Ztt:Has P w K mg base "days_with" 1 ["row"] CB):Aq P w K mg base CX0 8 f fd ["shop"] (Kc Pt):=by
 refine F.go ["shop", "found", "rows", "name", "days"] ?_ ?_ ?_;walk_at "f";let⟨v,S,sz,rfl,rs,g,z0,z1,tb,k⟩:=h;have hu:=Ao hr;refine⟨_,(A1 (B4 1 Nd (A9 Zu4 hr.z rfl (A2 (pv 0) A0)))
 (A1 (As (Aj (Bd hu) (Ac hu (pv 1) A5) Aa (Ak _)) (A3 (Ad (A9 Zuk hr.z rfl (A2 (Ae Hz (B7 (A2 Aa A0)) (Bf bx rfl T.Zre Wu (A2 (C5 V3 (pv 1) (Cc A5) Db) A0))) A0)))) Ai)
 (A1 (B4 2 Nd (B7 A0))
 (A1 (Bj PassesOwn.never rfl (Dl (A9 Zty hr.z rfl (A2 (pv 0) A0))) (Cj 3 Nd)
 (A1 (B4 4 Nd (A9 Ztt hr.z rfl (A2 (Ac hu (Ac hu (pv 1) A5) (pv 3)) A0)))
 (A3 (As (dz (pv 4)) (A3 (Bm (D2 Zyw Zyn Zym Co (pv 2) (A2 (A9 Zuk hr.z rfl (A2 (Ae Hz (B7 (A2 (pv 3) A0)) (pv 4)) A0)) A0)))) Ai))))
 (A3 (Ad (D2 Zy9 Zwd Zwc Pc Aa (A2 (pv 2) A0)))))))),?_⟩
 walk_at "rd";have L:=Eb g;refine⟨v,S,sz,rfl,rs,g,z0,by lia,tb,λt p ys i H1 ht hp tp sb ra hne tb1 bt1 hcase=>?_⟩;rcases hcase with ⟨hi,h2⟩ | ⟨wr,d,hwr,hi,hed,h2⟩
 rotate_left
 ·refine⟨_,Ag (j:=0) h2 rfl,rfl,?_⟩;rw[GE (by decide)];refine⟨by decide,λq hq=>⟨t,rfl,_,A7 hq _ _ h2,λq2 H2 hq2 s2 f2=>⟨_,.inr hq2,λq3 hq3=>⟨_,A7 hq3 _ _ (s2 _ _ AA),_,AA,(by show 4<=sizeLine;decide),λq4 hq4=>?_⟩⟩⟩⟩;have s12:=(A7 (o:=.lst [.str "short"]) hq).trans s2;exact⟨q4,Zs S wr d,rfl,AA,(by show 4<=1000;decide),mj g z0 z1 hwr hed,λH5 s5=>k _ _ ⟨ys,i,sb,hne,.inr ⟨wr,d,hwr,hi,hed,rfl⟩⟩ (tb1.same (s12.trans ((A7 hq3).trans ((A7 hq4).trans s5)))) (bt1.trans (Bc (s12.trans ((A7 hq3).trans ((A7 hq4).trans s5)))))⟩
 refine⟨_,Ag (j:=0) h2 rfl,rfl,?_⟩;rw[GD (by decide)];refine⟨Zyl _,λq hq=>?_⟩;have u1:=A7 (o:=.lst []) hq;refine⟨v,S,rfl,RD.same u1 _ _ (RD.ku (Nw tb bt1) _ _ (Fz S) rs),L,tb1.same u1,λp2 ys2 H2 fp2 hp2 _ sb2 tb2 bt2=>⟨p2,rfl,_,hp2,?_⟩⟩;rw[i5 sb2 sb] at hp2 ⊢;subst hi;rw[Zz7] at ra hne;let⟨kvs,hkv,hk,rows,ap⟩:=ra;have qPt:q≠Pt:=λz=>by let⟨u,e⟩:=tb1.at;rw[<- z,hq] at e;cases e
 have tPt:t≠Pt:=Im tb1 h2 λu z=>by cases z
 have pPt:p≠Pt:=Im tb1 hkv λu z=>by cases z
 have k12:∀b o,b≠Pt->H1 b=some o->H2 b=some o:=λb o nb e=>bt2 b o nb (u1 b o e);have q1:∀{b o},H1 b=some o->b≠q:=λe=>A8 e hq;have q2p:p2≠q:=λz=>by rw[z,AA] at fp2;cases fp2
 have mem:∀y∈ys,∃w∈S.wares,w.name=y:=λy hy=>Zzt.mp ((Em sb).1.mem_iff.mp hy);have len:ys.length<=12:=by rw[(Em sb).1.length_eq,D6];exact g.len.2
 have lines:∀j,(Ji S (ys.take j)).length<=12:=λj=>by
  unfold Ji;rw[Zzz];exact Zzp (Zxt _ _) (by rw[Zyy];lia)
 refine D7 (Ec p2 _) (A4m v t q S ys H2) ⟨_,_,rfl,bt2 _ _ qPt AA,λ_ _ _ e=>e⟩ (λj σ H' _ h=>by let⟨_,_,_,_,e⟩:=h;exact e _ _ q2p hp2) (λj x σ H3 hj hx h=>?_) (λσ H3 h=>?_)
 ·let⟨o3,o4,rfl,hq3,k3⟩:=h;rw[Zzx] at hx;cases en:ys[j]? with
  |none=>rw[en] at hx;cases hx
  |some nm =>
  rw[en] at hx;have hx:V.str nm=x:=Zzm hx;subst hx;have hm:=Zzn en;let⟨w',hw',rfl⟩:=mem nm hm;let⟨la,_,_,e1,e2⟩:=rows w'.name hm;have laPt:la≠Pt:=Im tb1 e2 λu z=>by cases z
  have k13:∀b o,b≠Pt->H1 b=some o->H3 b=some o:=λb o nb e=>k3 b o (q1 e) (k12 b o nb e);have r:=vf g z0 z1 hw';have et:ys.take (j+1)=ys.take j++[w'.name]:=by rw[Zz6,en];rfl
  have dl:(Fj S w'.name).length<=30:=Zzp (K3 _ _) r.1;walk_at "rd";refine⟨_,Ag (j:=1) (k13 _ _ tPt h2) rfl,_,Hc (.inl (k13 _ _ pPt hkv)) e1,la,LR S w'.name,rfl,k13 _ _ laPt e2,r,λp4 H4 fp4 hp4 s4=>⟨p4,rfl,_,hp4,?_⟩⟩;have q4:p4≠q:=λz=>by rw[z,hq3] at fp4;cases fp4
  have k24:∀b o,b≠q->H2 b=some o->H4 b=some o:=λb o nb e=>s4 b o (k3 b o nb e);have emp:(!((Fj S w'.name).map V.str).isEmpty)=Kv S w'.name:=by unfold Kv;cases Fj S w'.name<;>rfl
  rw[show (!(Zy6 V.str (Fw (LR S w'.name) (LR S w'.name).length)).isEmpty)=Kv S w'.name from emp];refine Do (λc=>?_) (λc=>?_)
  ·refine⟨E6 (s4 _ _ hq3),by decide,λp5 hp5=>?_⟩;have u5:=A7 (o:=.lst [.str w'.name]) hp5;refine⟨p4,rfl,_,AA,_,u5 _ _ hp4,Am (by rw[Zzz];show 1+(Fj S w'.name).length<=1000;lia),λp6 hp6=>?_⟩;have u6:=u5.trans (A7 (o:=.lst ([.str w'.name]++(Fj S w'.name).map V.str)) hp6);refine⟨p6,.inr w'.name::(Fj S w'.name).map .inr,rfl,by rw[Zzk,Zyq];exact AA,by rw[Zyz,Zzz];lia,λkk hkk=>?_,λH7 s7=>?_⟩
   ·rcases Zzw.mp hkk with rfl | hkk
    ·exact Zzp (Be (g.ws.txt w' hw')) (by decide)
    ·let⟨x,hx,rfl⟩:=Zzt.mp hkk;exact Ui r hx
   have s47:=u6.trans s7;refine⟨_,s47 _ _ (s4 _ _ hq3),Zyh (m:=12) (by rw[Zzz];exact lines j) (by decide),_,_,rfl,?_,λb o nb e=>by rw[A6 nb];exact s47 _ _ (k24 b o nb e)⟩;rw[AA,et];unfold Ji;rw[Zxi,Zxk,GE c,Zv4,Zzd,Zzd,Zzk,Zyq (f:=Zyd)];show some (HO.lst (_++[V.str (Str.join (one 32) (w'.name::(Fj S w'.name).map id))]))=_;rw[List.map_id];rfl
  ·refine⟨_,_,rfl,?_,k24⟩;rw[s4 _ _ hq3,et];unfold Ji;rw[Zxi,Zxk,GD c,Zv4,Zyt]
 ·let⟨o3,o4,rfl,hq3,k3⟩:=h;rw[Zzz,Zz7] at hq3;walk_at "rd";have ll:=lines ys.length;rw[Zz7] at ll;have n10:Str.ofString "\n" = one 10:=by decide +kernel
  rw[n10];refine⟨rfl,_,hq3,40000,λy hy=>?_,?_,k _ _ ⟨ys,ys.length,sb,by rw[Zz7];exact hne,.inl ⟨rfl,rfl⟩⟩ ?_ λb o nb e=>?_⟩
  ·let⟨nm,hnm,rfl⟩:=Zzt.mp hy;let⟨w',hw',rfl⟩:=mem nm (Zwk.mp hnm).1;exact qu g z0 z1 hw'
  ·show _*40000+_*1<=_
   lia
  ·rcases tb2 with e | ⟨c,e,e2⟩
   ·exact .inl (k3 _ _ (Zza qPt) e)
   ·exact .inr ⟨c,k3 _ _ (Zza qPt) e,k3 _ _ (λz=>by rw[z,bt2 _ _ qPt AA] at e2;cases e2) e2⟩
  ·have e1:=bt1 b o nb e
   exact k3 b o (q1 e1) (k12 b o nb e1)
end
section
variable {dk:Dk}{c:Cl}
inductive Xg (Pt:Addr) (vs:List V) (H:Hp) (Q:VK) (E:XK):Prop | mk (v:V) (S:Sh) (_:vs=[v]) (_:RD H S.d v) (_:gu S) (_:Tb H Pt) (_:∀p ys H',H p=none->H' p=some (.dK (fnD ys (tm S)))->ys.Perm (Bp S)->Tb H' Pt->But Pt H H'->Q (.ref p) H')
inductive zk (v:V) (p:Addr) (S:Sh) (ys:List Str) (Pt:Addr) (H:Hp) (j:Nat) (σ:St) (H':Hp):Prop | mk (o1 o2:Option V) (_:σ=[some v,some (.ref p),o1,o2]) (_:H' p=some (.dK (fnD (ys.reverse.take j) (tm S)))) (_:Tb H' Pt) (_:But Pt H H')
theorem oy(F:Fun K "times" "times" dj f fd)(T:Txt mg)(C:Exc K mg c)(Zty:Has P w K mg base "worked" 6 ["shop"] (Ju Pt))(Zun:Eh P w K mg base "ware_of" 1 ["shop", "name"] (Dw c))(Zul:Has P w K mg base "part_names" 1 ["ware"] AW):Aq P w K mg base CX0 7 f fd ["shop"] (Xg Pt):=by
 refine F.go ["shop", "told", "name", "ware"] ?_ ?_ ?_;walk_at "f";let⟨v,S,rfl,rs,L,tb,k⟩:=h;have hu:=Ao hr;refine⟨_,(A1 (N0 (i:=1) Nd rfl (Or.inr rfl) Ga)
 (A1 (Bj PassesOwn.never rfl (A1k rfl T.Zr4 (A2 (A9 Zty hr.z rfl (A2 (pv 0) A0)) A0)) (Cj 2 Nd)
 (A1 (B4 3 Nd (B0 Zun Cw hr.z rfl (A2 (pv 0) (A2 (pv 2) A0))))
 (A3 (Ep (Ae D4 (Ac hu (pv 3) (Af rfl T.Zt5)) (e9 rfl rfl T.Zrl (Bs (own:=["part"]) (cap:=[1]) rfl (Cf rfl) (Av (by decide)) (Dl (A9 Zul hr.z rfl (A2 (pv 3) A0)))
 (λ_ _ _ _ _ _=>⟨(Ax (i:=0) (GA rfl) rfl (Zyr rfl) (.inr rfl)),Bi,(Ac hu (pv 1) (pv 0))⟩)))) (Fq (pv 1) (pv 2) (Dp hu))))))
 (A3 (Ad (pv 1))))),?_⟩
 have hfew:=L.few;walk_at "rd";intro p hp;have u0:=A7 (o:=.dK []) hp;refine⟨v,S,rfl,RD.same u0 _ _ rs,L,tb.same u0,λq ys H1 hq hq1 so _ tb1 bt=>⟨q,rfl,_,hq1,?_⟩⟩;have pPt:p≠Pt:=λz=>by let⟨u,e⟩:=tb.at;rw[<- z,hp] at e;cases e
 have hp1:H1 p=some (.dK []):=bt _ _ pPt AA;have bt0:But Pt H H1:=λb o nb e=>bt b o nb (u0 b o e);have so':Oq (lv S) (S.wares.map (·.name)) ys:=so;have hyl:ys.length=S.wares.length:=by rw[so.1.length_eq,D6]
 have ndy:ys.reverse.Nodup:=((List.reverse_perm ys).trans so.1).nodup_iff.mpr L.nd;have qp:q≠p:=λz=>by rw[z,AA] at hq;cases hq
 refine D7 (A43 q _) (λj σ H'=>zk v p S ys Pt H j σ H'/\H' q=some (.lst (ys.map V.str))) ⟨⟨_,_,rfl,hp1,tb1,bt0⟩,hq1⟩ (λj σ H' _ h=>h.2) (λj x σ H2 hj hx h=>?_) (λσ H2 h=>?_)
 ·let⟨⟨o1,o2,rfl,hp2,tb2,bt2⟩,hq2⟩:=h;rw[Zzz] at hj;rw[<- List.map_reverse,Zzx] at hx;cases en:ys.reverse[j]? with
  |none=>rw[en] at hx;cases hx
  |some nm =>
  rw[en] at hx;have hx:V.str nm=x:=Zzm hx;subst hx;have hnm:nm∈S.wares.map (·.name):=so.1.mem_iff.mp (List.mem_reverse.mp (Zzn en));have rs2:=RD.ku (Nw tb bt2) _ _ (Fz S) rs;walk_at "rd";refine⟨v,S,nm,rfl,rs2,L.ok,.inl ⟨hnm,λt wt hwt ewt rt=>?_⟩⟩;subst ewt;let⟨te,d1,d2,rfl,hte,_⟩:=Ck rt;refine⟨_,Ag (j:=1) hte rfl,.ref te,wt,rfl,rt,L.ok.wares wt hwt,λr H3 hr3 hr4 sm3=>⟨r,rfl,_,hr4,?_⟩⟩;have hp3:=sm3 _ _ hp2;have hpl:=(L.ok.wares wt hwt).1;have ap:∀pp∈wt.parts,pp.1∈ys.reverse.take j:=λpp hpp=>Xt L.toLev so' hwt en hpp;refine By (Ec r _) (Am (by rw[Zzz,Zzz];exact hpl)) (λH' s'=>s' _ _ hr4) ((wt.parts.map λpp=>tm S pp.1).map V.int) (by rw[Zzz,Zzz,Zzz,Zzz]) (λi y H' hi hy s' N M hN=>?_) (λH4 s4 z hz=>?_)
  ·rw[Zzx,Zzx] at hy;cases ep:wt.parts[i]? with
   |none=>rw[ep] at hy;cases hy
   |some pp =>
   rw[ep] at hy;have hy:V.str pp.1=y:=Zzm hy;subst hy;walk_at "rd";exact⟨_,Hc (.inl (s' _ _ hp3)) (Mf (ap pp (Zzn ep))),hN _ _ s' (by rw[Zzx,Zzx,ep];rfl)⟩
  ·have s5:=(sm3.trans s4).trans (A7 (o:=.lst ((wt.parts.map λpp=>tm S pp.1).map V.int)) hz)
   have hp5:=s5 _ _ hp2;have hq5:=s5 _ _ hq2;have tb5:=tb2.same s5;refine⟨z,rfl,_,AA,?_⟩;generalize upd H4 z (.lst ((wt.parts.map λpp=>tm S pp.1).map V.int))=H5 at s5 hp5 hq5 tb5;refine⟨_,rfl,_,.inr wt.name,rfl,hp5,?_,⟨_,_,rfl,?_,?_,λb o nb e=>?_⟩,by rw[A6 qp];exact hq5⟩
   ·rw[Wl,Zyy,List.length_reverse];exact Zyh (m:=1000) (by lia) (by decide)
   ·rw[AA,<- Tm L.toLev hwt,g7 (Hh ndy en),Zz6,en];exact congrArg (λz=>some (HO.dK z)) (Ni λx _=>by split<;>rename_i e<;>first | rw[e] | rfl)
   ·rcases tb5 with e | ⟨c,e,e2⟩
    ·exact .inl (by rw[A6 (Zza pPt)];exact e)
    ·exact .inr ⟨c,by rw[A6 (Zza pPt)];exact e,by rw[A6 (λz=>by rw[z,hp5] at e2;cases e2)];exact e2⟩
   ·rw[A6 (A8 e hp)];exact s5 _ _ (bt2 _ _ nb e)
 ·let⟨⟨o1,o2,rfl,hp2,tb2,bt2⟩,hq2⟩:=h;rw[Zzz,<- List.length_reverse,Zz7] at hp2;walk_at "rd";exact k p ys.reverse H2 hp hp2 ((List.reverse_perm ys).trans so.1) tb2 bt2
def iu(d:Int)(p:Wt):Wt:=(p.1,p.2.1+d,p.2.2)
def A2j(S:Sh)(d:Int)(H:Hp)(i:Nat)(acc:List V)(H':Hp):Prop:=acc.length=i/\RDs H' ((S.wants.take i).map λp=>Ka (iu d p)) acc/\AB H H'
inductive DX (vs:List V) (H:Hp) (Q:VK) (E:XK):Prop | mk (v:V) (S:Sh) (d:Int) (_:vs=[v,.int d]) (_:RD H S.d v) (_:Ta S) (_:L3 S) (_:S.wants.length<=1000) (_:∀x H',RD H' (Sh.d ⟨S.wares,S.wants.map (iu d)⟩) x->AB H H'->Q x H')
theorem ae(F:Fun K "put_off" "put_off" Tt f fd)(T:Txt mg)(C:Exc K mg c)(Zuq:Eh P w K mg base "check_rings" 4 ["shop"] (Bv c)):Aq P w K mg base CX0 5 f fd ["shop", "days"] DX:=by
 refine F.go ["shop", "days", "later"] ?_ ?_ ?_;walk_at "f";let⟨v,S,d,rfl,rs,ok,no,hw,k⟩:=h;have hu:=Ao hr;refine⟨_,(A1 (Bm (B0 Zuq Cw hr.z rfl (A2 (pv 0) A0)))
 (A1 (Dy (own:=["want"]) (cap:=[1]) (i:=2) rfl (Cf rfl) (Av (by decide)) Nd rfl rfl (Er (Ac hu (pv 0) A5))
 (λ_ _ _ _ _ _=>⟨(Ax (i:=0) (GA rfl) rfl (Zyr rfl) (.inr rfl)),Bi,(Bo (A2 (Ac hu (pv 0) (Af rfl T.Ztv)) (A2 (Ae D4 (Ac hu (pv 0) (Af rfl T.Ztz)) (pv 1)) (A2 (Ac hu (pv 0) (Af rfl T.Zu9)) A0))))⟩))
 (A3 (Ad (Bo (A2 (Ac hu (pv 0) A5) (A2 (Bf Cg rfl T.Ztw Ds (A2 (pv 2) A0)) A0))))))),?_⟩
 refine u9 (λσ' H'=>∃(l:Addr) (acc:List V),σ'=[some v,some (.int d),some (.ref l)]/\H' l=some (.lst acc)/\RDs H' (S.wants.map λp=>Ka (iu d p)) acc/\AB H H') ?_ (λKK hK=>?_)
 ·rintro σ' H1 ⟨l,acc,rfl,hl,racc,sm⟩;let⟨a,b,c,ws,us,rfl,ha,hb,hc,rws,rus⟩:=Cy rs;walk_at "rd";refine⟨_,Ag (j:=0) (sm _ _ ha) rfl,acc,.inl ⟨hl,λt ht=>?_⟩⟩;have s1:=A7 (o:=.tup acc) ht;refine⟨by show 2<=sizeLine;decide,λr hr'=>?_⟩;have s2:=s1.trans (A7 (o:=.tup [.ref b,.ref t]) hr');refine k _ _ ?_ (sm.trans s2);unfold Sh.d;refine RD.tup_mk AA (RDs.cons (RD.tup_mk (s2 _ _ (sm _ _ hb)) (RDs.same (sm.trans s2) _ _ rws)) (RDs.one (RD.tup_mk (xs:=acc) ?_ ?_)))
  ·rw[A6 (A8 AA hr'),AA]
  ·rw[Zyq];exact RDs.same s2 _ _ racc
 ·walk_at "rd";refine⟨v,S,rfl,rs,ok,.inl ⟨no,λH1 sm=>?_⟩⟩;let⟨a,b,c,ws,us,rfl,ha,hb,hc,rws,rus⟩:=Cy rs;have hl:=B8 rus;refine⟨_,Ag (j:=1) (sm _ _ ha) rfl,c,rfl,_,sm _ _ hc,?_⟩;refine Ky (Fv c _) (Am (by rw[hl];exact hw)) (A2j S d H) ⟨rfl,RDs.nil,sm⟩ (λi acc H' _ h=>h.2.2 _ _ hc) (λi acc H' h=>Zvz h.1) (λi x acc H' hi hx h=>?_) (λacc H' h p hp=>?_)
  ·let⟨h1,h2,h3⟩:=h;let⟨y,hy,ry⟩:=Bl rus hx;let⟨e,rfl,he⟩:=L6 ry;have he':=h3 _ _ he;walk_at "rd";refine⟨_,Ag (j:=0) he' rfl,_,Ag (j:=1) he' rfl,_,rfl,_,Ag (j:=2) he' rfl,by show 3<=sizeLine;decide,λt ht=>?_⟩;have s1:=A7 (o:=.tup [.str y.1,.int (y.2.1+d),.int y.2.2]) ht;refine⟨by simp[h1],?_,h3.trans s1⟩;rw[Zz6,hy,Zzd];refine RDs.app (RDs.same s1 _ _ h2) (RDs.one ?_);exact RD.tup_mk AA (RDs.cons RD.str_mk (RDs.cons RD.int_mk (RDs.one RD.int_mk)))
  ·let⟨h1,h2,h3⟩:=h;rw[hl,Zz7] at h2;exact hK _ _ ⟨p,acc,rfl,AA,RDs.same (A7 hp) _ _ h2,h3.trans (A7 hp)⟩
inductive ED (vs:List V) (H:Hp) (Q:VK) (E:XK):Prop | mk (v:V) (a:Addr) (S:Sh) (plan:Str->List Int) (w:Wr) (sz:Int) (_:vs=[v,.ref a,.str w.name]) (_:RD H S.d v) (_:BT H a S plan) (_:w∈S.wares) (_:AF sz S) (_:0<sz) (_:sz<=1000) (_:∀p H',H p=none->H' p=some (.lst ((G5 S plan w).map V.int))->AB H H'->Q (.ref p) H')
theorem X4(nd:(S.wares.map (·.name)).Nodup){w w':Wr}(h:w∈S.wares)(h':w'∈S.wares)(e:w.name=w'.name):w=w':=by
 let⟨i,hi,ei⟩:=Zww.mp h;let⟨j,hj,ej⟩:=Zww.mp h';have:(S.wares.map (·.name))[i]?=(S.wares.map (·.name))[j]?:=by
  rw[Zzx,Zzx,Zzl hi,Zzl hj,ei,ej];show some w.name=some w'.name;rw[e]
 have e2:=(List.getElem?_inj (by rw[Zzz];exact hi) nd).mp this;subst e2;rw[<- ei,<- ej]
theorem il(F:Fun K "stocks" "stocks" Xh f fd)(T:Txt mg)(C:Exc K mg c)(Zuq:Eh P w K mg base "check_rings" 4 ["shop"] (Bv c))(Zsu:Has P w K mg base "stocks_row" 4 ["shop", "plan", "ware"] CS)(Zun:Eh P w K mg base "ware_of" 1 ["shop", "name"] (Dw c)):Aq P w K mg base CX0 5 f fd ["shop", "plan", "name"] ED:=by
 refine F.go ["shop", "plan", "name"] ?_ ?_ ?_;walk_at "f";let⟨v,a,S,plan,w,sz,rfl,rs,pl,hm,g,z0,z1,k⟩:=h;have hu:=Ao hr;refine⟨_,(A1 (Bm (B0 Zuq Cw hr.z rfl (A2 (pv 0) A0)))
 (A3 (Ad (A9 Zsu hr.z rfl (A2 (pv 0) (A2 (pv 1) (A2 (B0 Zun Cw hr.z rfl (A2 (pv 0) (A2 (pv 2) A0))) A0))))))),?_⟩
 walk_at "rd";refine⟨v,S,rfl,rs,g.ok,.inl ⟨g.no,λH1 sm1=>?_⟩⟩;refine⟨v,S,w.name,rfl,RD.same sm1 _ _ rs,g.ok,.inl ⟨Zzt.mpr ⟨w,hm,rfl⟩,λx w' hw' en rx=>?_⟩⟩;have e:=X4 g.ws.nd hw' hm en;subst e;exact⟨v,a,x,S,plan,w',sz,rfl,RD.same sm1 _ _ rs,pl.same sm1,rx,hm,g,z0,z1,λp H2 hp hp2 sm2=>k p H2 (AB.free sm1 hp) hp2 (sm1.trans sm2)⟩
end
section
variable {dk:Dk}{c:Cl}
theorem Yx:∀{n:Nat},(∀e,e<n->¬ ((e:Int)<lag/\0<row.getD e 0))->Cv row lag n=none
 |0,_=>rfl
 |n+1,h=>by
  rw[Cv,Yx λe he=>h e (by lia)];show (if (n:Int)<lag/\0<row.getD n 0 then some n else none)=none;rw[GD (h n (by lia))]
def noS(S:Sh):Sh:=⟨S.wares,[]⟩
def Cq(n:Int)(S:Sh):Sh:=⟨S.wares,S.wants.map (iu n)⟩
def Bn(S:Sh):Prop:=∀w∈S.wares,Bq (LR S w.name) w.lag=none
theorem N9{S':Sh}(h:Lev S)(e:S'.wares=S.wares):Lev S':=by
 let⟨ws,us⟩:=S;let⟨ws',us'⟩:=S';obtain rfl:ws'=ws:=e;exact⟨h.nd,h.own,h.low⟩
theorem xw{b:Int}(hb:0<=b)(h:∀x∈ns,x<=b):Ea ns<=b:=by
 have:=Pe (b:=b+1) (by lia) λx hx=>by have:=h x hx;lia
 lia
theorem Zk(hl:∀w∈S.wares,0<=w.lag):∀k x,0<=tmF S k x
 |0,x=>Zz5 _
 |k+1,x=>by
  rw[tmF];split
  ·rename_i w hw;have h1:=hl w (Mo hw).1;have h2:=Pd (ns:=w.parts.map λp=>tmF S k p.1) (λy hy=>by let⟨p,_,rfl⟩:=Zzt.mp hy;exact Zk hl k p.1);lia
  ·exact Zz5 _
theorem Zl(hl:∀w∈S.wares,0<=w.lag/\w.lag<=30):∀(k:Nat) x,tmF S k x<=30*k
 |0,x=>by rw[tmF];lia
 |k+1,x=>by
  rw[tmF];split
  ·rename_i w hw;have h1:=hl w (Mo hw).1;have h2:=xw (ns:=w.parts.map λp=>tmF S k p.1) (b:=30*k) (by lia) (λy hy=>by let⟨p,_,rfl⟩:=Zzt.mp hy;exact Zl hl k p.1);lia
  ·lia
theorem vm(L:Lev S){t:Wr}(ht:t∈S.wares){p:Str×Int}(hp:p∈t.parts):t.lag+tm S p.1<=tm S t.name:=by
 rw[Tm L ht];have:=Pf (ns:=t.parts.map λp=>tm S p.1) (Zzt.mpr ⟨p,hp,rfl⟩);lia
theorem A12(L:Lev S)(hl:∀w∈S.wares,0<=w.lag){t:Wr}(ht:t∈S.wares):t.lag<=tm S t.name:=by
 rw[Tm L ht];have:=Pd (ns:=t.parts.map λp=>tm S p.1) (λy hy=>by let⟨p,_,rfl⟩:=Zzt.mp hy;exact Zk hl _ p.1);lia
theorem Mi(S:Sh):AD (noS S)=1:=rfl
theorem Ng{xs:List Int}{d:Nat}(h:xs.length<=d):xs.getD d 0=0:=by
 rw[Zzg,Zyj h];rfl
theorem Pl(row:List Int)(lag:Int)(d:Nat):bAt row lag d=row.getD (d+lag.toNat) 0:=by
 unfold bAt;split
 ·rfl
 ·rw[Ng (by lia)]
theorem Ya{T:Int}{plan0:Str->List Int}{nm:Str}{d:Nat}(hd:∀u∈S.wants,(d:Int)<u.2.1+T)(h:∀t∈S.wares,∀p∈t.parts,p.1=nm->bAt (plan t.name) t.lag d=bAt (plan0 t.name) t.lag d):Bb (Cq T S) plan nm d=Bb (noS S) plan0 nm d:=by
 unfold Bb;have e1:Br (wAt nm d) (Cq T S).wants=0:=Ms λx hx=>by
  let⟨u,hu,rfl⟩:=Zzt.mp hx;have:=hd u hu;unfold wAt iu;rw[GD (λz=>by have:=z.2;simp only at this;lia)]
 have e2:Br (wAt nm d) (noS S).wants=0:=rfl;rw[e1,e2];congr 1;refine Hs λt ht=>?_;unfold pAt;refine Hs λp hp=>?_;by_cases e:p.1=nm
 ·rw[GE e,GE e,h t ht p hp e]
 ·rw[GD e,GD e]
theorem ph(L:Lev S)(E:cj S)(hl:∀w∈S.wares,0<=w.lag){T:Int}(hT:∀w∈S.wares,tm S w.name<=T)(hw0:∀u∈S.wants,0<=u.2.1)(h1:1<=AD (Cq T S)):∀n:Nat,∀w∈S.wares,lv S w.name<=n->0<tm S w.name ->
  (LR (Cq T S) w.name).getD 0 0=(LR (noS S) w.name).getD 0 0/\∀d:Nat,0<d->(d:Int)<tm S w.name->(LR (Cq T S) w.name).getD d 0=0:=by
 intro n;induction n using Nat.strongRecOn with
 |_ n ih =>
 intro w hw hlv ht;have L1:Lev (Cq T S):=N9 L rfl;have L0:Lev (noS S):=N9 L rfl;have hTw:=hT w hw;have user:∀t∈S.wares,∀p∈t.parts,p.1=w.name->∀d:Nat,(d:Int)<tm S w.name->bAt (LR (Cq T S) t.name) t.lag d=if d+t.lag.toNat=0 then (LR (noS S) t.name).getD 0 0 else 0:=λt htm p hp e d hd=>by
  have q1:=Pg L htm hp;have q2:=vm L htm hp;rw[e] at q1 q2;have q3:=qk S t.name;have q4:=hl t htm;let⟨a1,a2⟩:=ih (lv S t.name).toNat (by lia) t htm (by lia) (by lia);rw[Pl];by_cases z:d+t.lag.toNat=0
  ·rw[GE z,z];exact a1
  ·rw[GD z];exact a2 _ (by lia) (by lia)
 have nd0:Bb (Cq T S) (LR (Cq T S)) w.name 0=Bb (noS S) (LR (noS S)) w.name 0:=Ya (λu hu=>by have:=hw0 u hu;lia) λt htm p hp e=>by
  rw[user t htm p hp e 0 (by lia),Pl];by_cases z:0+t.lag.toNat=0
  ·rw[GE z,z]
  ·rw[GD z,Ng (by rw[Js L0 htm,Mi];lia)]
 have ndd:∀d:Nat,0<d->(d:Int)<tm S w.name->Bb (Cq T S) (LR (Cq T S)) w.name d=0:=λd d0 d1=>by
  rw[Ya (plan0:=λ_=>[]) (λu hu=>by have:=hw0 u hu;lia) λt htm p hp e=>by
   rw[user t htm p hp e d d1,GD (by lia),Pl]
   rfl]
  unfold Bb;rw[show Br (wAt w.name d) (noS S).wants=0 from rfl,Ms λt htm=>?_]
  ·rfl
  ·unfold pAt;exact Ms λp hp=>by
    rw[Pl];split
    ·exact Int.mul_zero _
    ·rfl
 have E1:=(E.wb w hw).1.1;refine⟨?_,λd d0 d1=>?_⟩
 ·rw[Jt L1 (show w∈(Cq T S).wares from hw),Jt L0 (show w∈(noS S).wares from hw),N8 (by lia),N8 (by rw[Mi];lia)];have x1:(Ar (AD (Cq T S)) (Ci w)).getD 0 0=Ci w 0:=D0 (by lia);have x0:(Ar (AD (noS S)) (Ci w)).getD 0 0=Ci w 0:=D0 (by rw[Mi];lia);have y1:(At (Cq T S) (LR (Cq T S)) w.name).getD 0 0=Bb (Cq T S) (LR (Cq T S)) w.name 0:=D0 (by lia);have y0:(At (noS S) (LR (noS S)) w.name).getD 0 0=Bb (noS S) (LR (noS S)) w.name 0:=D0 (by rw[Mi];lia);show Bx (-(-w.floor+((Ar (AD (Cq T S)) (Ci w)).getD 0 0 - (At (Cq T S) (LR (Cq T S)) w.name).getD 0 0))) w.gives=Bx (-(-w.floor+((Ar (AD (noS S)) (Ci w)).getD 0 0 - (At (noS S) (LR (noS S)) w.name).getD 0 0))) w.gives;rw[x1,x0,y1,y0,nd0]
 ·by_cases hd:d<AD (Cq T S)
  ·rw[Jt L1 (show w∈(Cq T S).wares from hw),N8 hd];obtain⟨k,rfl⟩:∃k,d=k+1:=⟨d - 1,by lia⟩;have q1:=Zc (f:=w.floor) (g:=w.gives) (xs:=Ar (AD (Cq T S)) (Ci w)) (ys:=At (Cq T S) (LR (Cq T S)) w.name) (by lia) k;have q2:=Zb E hw (k+1);unfold Iu;refine Oh (by lia) ?_;have q3:(Ar (AD (Cq T S)) (Ci w)).getD (k+1) 0=Ci w (k+1):=D0 hd;have q4:(At (Cq T S) (LR (Cq T S)) w.name).getD (k+1) 0=0:=by unfold At;rw[D0 hd,ndd _ d0 d1]
   rw[q3,q4];lia
  ·exact Ng (by rw[Js L1 (show w∈(Cq T S).wares from hw)];lia)
theorem Yi(L:Lev S)(E:cj S)(hl:∀w∈S.wares,0<=w.lag){T:Int}(hT:∀w∈S.wares,tm S w.name<=T)(hw0:∀u∈S.wants,0<=u.2.1)(h1:1<=AD (Cq T S))(h0:Bn (noS S)):Bn (Cq T S):=λw hw=>by
 have hw:w∈S.wares:=hw;have ht:=A12 L hl hw;have hlw:=hl w hw;refine(show Cv (LR (Cq T S) w.name) w.lag (LR (Cq T S) w.name).length=none from Yx λe he c=>?_);let⟨a1,a2⟩:=ph L E hl hT hw0 h1 (lv S w.name).toNat w hw (by have:=qk S w.name;lia) (by lia);by_cases z:e=0
 ·subst z;rw[a1] at c;have L0:Lev (noS S):=N9 L rfl;have q:=Jo (show Cv (LR (noS S) w.name) w.lag (LR (noS S) w.name).length=none from h0 w hw) 0 (by rw[Js L0 hw,Mi];lia);exact q c
 ·rw[a2 e (by lia) (by lia)] at c;lia
theorem AF.off{sz n:Int}(g:AF sz S)(h:0<=n):AF (sz+n) ⟨S.wares,S.wants.map (iu n)⟩:=by
 refine⟨g.ws,g.len,λw hw=>⟨(g.com w hw).1,λy hy=>?_⟩,⟨by rw[Zzz];exact g.wants.1,λu hu=>?_⟩⟩
 ·let⟨⟨a,b⟩,c⟩:=(g.com w hw).2 y hy;exact⟨⟨a,by lia⟩,c⟩
 ·let⟨y,hy,rfl⟩:=Zzt.mp hu;let⟨q0,⟨q1,q2⟩,q3⟩:=g.wants.2 y hy;exact⟨q0,⟨by show 0<=y.2.1+n;lia,by show y.2.1+n<sz+n;lia⟩,q3⟩
theorem AF.none{sz:Int}(g:AF sz S):AF sz (noS S):=⟨g.ws,g.len,g.com,⟨Zyl _,λu hu=>by cases hu⟩⟩
inductive Hu (Pt:Addr) (vs:List V) (H:Hp) (Q:VK) (E:XK):Prop | mk (v:V) (S:Sh) (sz:Int) (_:vs=[v]) (_:RD H S.d v) (_:AF sz S) (_:0<sz) (_:sz<=1000) (_:Tb H Pt) (_:∀(b:Bool) H',(b=true↔Bn S)->Tb H' Pt->But Pt H H'->Q (.bl b) H')
theorem Vn(F:Fun K "lets_plan" "lets_plan" O4 f fd)(T:Txt mg)(C:Exc K mg c)(Zu4:Has P w K mg base "planned" 7 ["shop"] (Ht Pt)):Aq P w K mg base CX0 8 f fd ["shop"] (Hu Pt):=by
 refine F.go ["shop"] ?_ ?_ ?_;walk_at "f";let⟨v,S,sz,rfl,rs,g,z0,z1,tb,k⟩:=h;have hu:=Ao hr;refine⟨_,(A3 (Ad (Bt (Bd hu) (Ac hu (A9 Zu4 hr.z rfl (A2 (pv 0) A0)) A5) Aa (Ak _)))),?_⟩;walk_at "rd";refine⟨v,S,sz,rfl,rs,g,z0,z1,tb,λt p ys i H1 ht hp tp sb ra hne tb1 bt1 hcase=>?_⟩;have so:=Em sb;rcases hcase with ⟨hi,h1⟩ | ⟨wr,d,hwr,hi,hed,h1⟩
 ·refine⟨_,Ag (j:=0) h1 rfl,rfl,k _ H1 ⟨λ_ w hw=>hne w hw ?_,λ_=>by decide⟩ tb1 bt1⟩;rw[hi,Zz7];exact so.1.mem_iff.mpr (Zzt.mpr ⟨w,hw,rfl⟩)
 ·refine⟨_,Ag (j:=0) h1 rfl,rfl,k _ H1 ⟨λz=>absurd z (by decide),λz=>by rw[z wr hwr] at hed;cases hed⟩ tb1 bt1⟩
def S0(S:Sh)(n:Int):Prop:=0<=n/\Bn (noS S)/\Bn (Cq n S)/\(n=0\/¬ Bn (Cq (n - 1) S))/\∃w∈S.wares,n<=tm S w.name
inductive df (Pt:Addr) (vs:List V) (H:Hp) (Q:VK) (E:XK):Prop | mk (v:V) (S:Sh) (sz:Int) (_:vs=[v]) (_:RD H S.d v) (_:AF sz S) (_:0<sz) (_:sz<=401) (_:Tb H Pt) (_:(∀H',¬ Bn (noS S)->Tb H' Pt->But Pt H H'->Q .non H')) (_:∀(n:Int) H',S0 S n->Tb H' Pt->But Pt H H'->Q (.int n) H')
inductive A0t (v:V) (S:Sh) (Pt:Addr) (M:Int) (H:Hp) (m:Nat) (σ:St) (H':Hp):Prop | mk (e l:Int) (o3:Option V) (_:m=(e - l).toNat) (_:σ=[some v,some (.int e),some (.int l),o3]) (_:0<=l) (_:l<=e) (_:e<=M) (_:Bn (Cq e S)) (_:(l=0\/¬ Bn (Cq (l - 1) S))) (_:Tb H' Pt) (_:But Pt H H')
theorem xh(F:Fun K "late" "late" mr f fd)(T:Txt mg)(C:Exc K mg c)(Zu3:Has P w K mg base "lets_plan" 8 ["shop"] (Hu Pt))(Zrj:Has P w K mg base "times" 7 ["shop"] (Xg Pt))(Zry:Has P w K mg base "put_off" 5 ["shop", "days"] DX):Aq P w K mg base CX0 9 f fd ["shop"] (df Pt):=by
 refine F.go ["shop", "enough", "least", "middle"] ?_ ?_ ?_;walk_at "f";let⟨v,S,sz,rfl,rs,g,z0,z1,tb,k1,k2⟩:=h;have hu:=Ao hr;refine⟨_,(A1 (As (B1 (B5 (A9 Zu3 hr.z rfl (A2 (Bo (A2 (Ac hu (pv 0) A5) (A2 (Bo A0) A0))) A0)))) (A3 (Ad Dn)) Ai)
 (A1 (B4 1 Nd (Zy rfl rfl T.Zrl (A9 Zrj hr.z rfl (A2 (pv 0) A0))))
 (A1 (B4 2 Nd A5)
 (A1 (Qj PassesOwn.never (Aj (a8 hu) (pv 2) (pv 1) (Ak _)) (A1 (B4 3 Nd (Ae Jg (Ae D4 (pv 2) (pv 1)) A5))
 (A3 (As (B5 (A9 Zu3 hr.z rfl (A2 (A9 Zry hr.z rfl (A2 (pv 0) (A2 (pv 3) A0))) A0))) (A3 (B4 1 Nd (pv 3))) (A3 (B4 2 Nd (Ae D4 (pv 3) A5)))))))
 (A3 (Ad (pv 1))))))),?_⟩
 walk_at "rd";let⟨sa,sb,sc,ws,us,ev,ha,hb,hc,rws,rus⟩:=Cy rs;have L:=Eb g;have E:=Mc g;have hl:∀w∈S.wares,0<=w.lag/\w.lag<=30:=λw hw=>(g.ws.wb w hw).lag;have hfew:=g.len;refine⟨_,by rw[ev];exact Ag (j:=0) ha rfl,by decide,λp hp=>⟨by decide,λq hq=>?_⟩⟩;have u1:=A7 (o:=.tup []) hp;have u2:=A7 (o:=.tup [.ref sb,.ref p]) hq;have s2:=u1.trans u2;have rs0:RD (upd (upd H p (.tup [])) q (.tup [.ref sb,.ref p])) (noS S).d (.ref q):=by
  unfold noS Sh.d;exact RD.tup_mk AA (RDs.cons (RD.tup_mk (s2 _ _ hb) (RDs.same s2 _ _ rws)) (RDs.one (RD.tup_mk (xs:=[]) (u2 _ _ AA) RDs.nil)))
 generalize upd (upd H p (.tup [])) q (.tup [.ref sb,.ref p])=H2 at s2 rs0;refine⟨.ref q,noS S,sz,rfl,rs0,g.none,z0,by lia,tb.same s2,λb H3 hb3 tb3 bt3=>⟨b,rfl,?_⟩⟩;have bt03:But Pt H H3:=(Bc s2).trans bt3;have rs3:=RD.ku (Nw tb bt03) _ _ (Fz S) rs;refine Do (λc=>?_) (λc=>?_)
 ·exact k1 H3 (λz=>by rw[hb3.mpr z] at c;cases c) tb3 bt03
 have h0:Bn (noS S):=hb3.mp (by cases b with | true=>rfl | false=>exact absurd rfl c);refine⟨v,S,rfl,rs3,L,tb3,λp4 ys H4 hp4 hd4 pm tb4 bt4=>⟨p4,rfl,_,hd4,ys.map (tm S),?_,?_,?_⟩⟩
 ·unfold fnD;rw[Zyq,Zyq];rfl
 ·intro z;have:=congrArg Zxn z;rw[Zzz,pm.length_eq,D6,Zwi] at this;lia
 have bt04:=bt03.trans bt4;have hne:ys.map (tm S)≠[]:=λz=>by
  have:=congrArg Zxn z;rw[Zzz,pm.length_eq,D6,Zwi] at this;lia
 have mge:∀w∈S.wares,tm S w.name<=Sk (ys.map (tm S)):=λw hw=>fj (Zzt.mpr ⟨w.name,pm.mem_iff.mpr (Zzt.mpr ⟨w,hw,rfl⟩),rfl⟩);let⟨nm,hnm,enm⟩:=Zzt.mp (Lu hne);let⟨wm,hwm,rfl⟩:=Zzt.mp (pm.mem_iff.mp hnm);have m360:tm S wm.name<=360:=by
  have:=Zl hl S.wares.length wm.name;unfold tm;lia
 have m0:0<=tm S wm.name:=Zk (λw hw=>(hl w hw).1) _ _;rw[<- enm] at mge ⊢;have go:∀{n:Int},0<=n->n<=360->AF (sz+n) (Cq n S):=λh _=>g.off h;have hw0:∀u∈S.wants,0<=u.2.1:=λu hu=>(g.wants.2 u hu).2.1.1;have he:Bn (Cq (tm S wm.name) S):=Yi L.toLev E (λw hw=>(hl w hw).1) mge hw0 ((go m0 m360).days (by lia) (by lia)).1 h0;have hM:∃w∈S.wares,tm S wm.name<=tm S w.name:=⟨wm,hwm,Zz5 _⟩;obtain⟨M,eM0⟩:∃M,M=tm S wm.name:=⟨_,rfl⟩;rw[<- eM0] at mge m360 m0 he hM ⊢;refine⟨A0t v S Pt M H,⟨_,M,0,none,rfl,rfl,Zz5 _,m0,Zz5 _,he,.inl rfl,tb4,bt04⟩,λm σ H5 hW=>?_⟩;let⟨e,l,o3,rfl,rfl,l0,le,eM,pe,pl,tb5,bt5⟩:=hW;have rs5:=RD.ku (Nw tb bt5) _ _ (Fz S) rs;walk_at "rd";refine Do (λc=>?_) (λc=>?_)
 ·have c:=GA c
  refine⟨λσ' H'=>∃m',m'<(e - l).toNat/\A0t v S Pt M H m' σ' H',λσ' H' z=>z,?_⟩;refine⟨by decide,by decide +kernel,v,S,(l+e) / 2,rfl,rs5,g.ok,g.no,by have:=g.wants.1;lia,λx H6 rx s6=>?_⟩;have d0:l<=(l+e) / 2:=by lia
  have d1:(l+e) / 2<e:=by lia
  generalize (l+e) / 2=mid at rx d0 d1;refine⟨x,Cq mid S,sz+mid,rfl,rx,go (by lia) (by lia),by lia,by lia,tb5.same s6,λb7 H7 hb7 tb7 bt7=>⟨b7,rfl,?_⟩⟩;have bt07:=bt5.trans ((Bc s6).trans bt7);refine Do (λc7=>?_) (λc7=>?_)
  ·exact⟨(mid - l).toNat,by lia,mid,l,_,rfl,rfl,l0,d0,by lia,hb7.mp c7,pl,tb7,bt07⟩
  ·refine⟨(e - (mid+1)).toNat,by lia,e,mid+1,_,rfl,rfl,by lia,by lia,eM,pe,.inr (λz=>?_),tb7,bt07⟩;rw[show mid+1 - 1=mid by lia] at z;exact c7 (hb7.mpr z)
 ·have c:¬ l<e:=λz=>c (GB z)
  obtain rfl:l=e:=by lia
  let⟨w,hw,hwM⟩:=hM;exact k2 l H5 ⟨l0,h0,pe,pl,w,hw,by lia⟩ tb5 bt5
end
section
variable {dk:Dk}{c:Cl}
def AL(w:Wr):R3:=("ware",w.name,[.inl w.lag,.inl w.gives,.inl w.floor,.inl w.stock])
def Rv(n:Str)(c:Int×Int):R3:=("coming",n,[.inl c.1,.inl c.2])
def Ct(n:Str)(p:Str×Int):R3:=("part",n,[.inr p.1,.inl p.2])
def AS(u:Wt):R3:=("want",u.1,[.inl u.2.1,.inl u.2.2])
def Gm(w:Wr):List R3:=AL w::(w.coming.map (Rv w.name)++w.parts.map (Ct w.name))
noncomputable def C8(S:Sh):List R3:=S.wares.flatMap Gm++S.wants.map AS
theorem w9(sd:SD0 S){w:Wr}(hw:w∈S.wares):Fn (r3 (AL w))/\(∀c∈w.coming,Fn (r3 (Rv w.name c)))/\∀p∈w.parts,Fn (r3 (Ct w.name p)):=by
 let⟨nm,wb,pn⟩:=sd.wv w hw;have nm:Il (.inr w.name):=nm;have big:(10:Int)^42<10^60:=by decide +kernel
 have big2:(10:Int)^41<10^60:=by decide +kernel
 refine⟨⟨by show (_,_)∈Ge;unfold Ge;simp[r3,AL,Ef],λk hk=>?_⟩,λc hc=>⟨by show (_,_)∈Ge;unfold Ge;simp[r3,Rv,Ef],λk hk=>?_⟩,λp hp=>⟨by show (_,_)∈Ge;unfold Ge;simp[r3,Ct,Ef],λk hk=>?_⟩⟩
 ·simp only[r3,AL,Zzw,Zz2,or_false] at hk;let⟨h1,h2,h3,h4,_⟩:=wb;rcases hk with rfl | rfl | rfl | rfl | rfl
  ·exact nm
  ·exact⟨h1.1,by lia⟩
  ·exact⟨by lia,by lia⟩
  ·exact⟨h3.1,by lia⟩
  ·exact⟨h4.1,by lia⟩
 ·simp only[r3,Rv,Zzw,Zz2,or_false] at hk;have h:=wb.2.2.2.2.2.2.2.2 c hc;rcases hk with rfl | rfl | rfl
  ·exact nm
  ·exact⟨h.1.1,by lia⟩
  ·exact⟨h.2.1,by lia⟩
 ·simp only[r3,Ct,Zzw,Zz2,or_false] at hk;have h:=wb.2.2.2.2.2.1 p hp;rcases hk with rfl | rfl | rfl
  ·exact nm
  ·exact pn p hp
  ·exact⟨by lia,by lia⟩
theorem vj(sd:SD0 S){u:Wt}(hu:u∈S.wants):Fn (r3 (AS u)):=by
 have h:=sd.us u hu;have big2:(10:Int)^41<10^60:=by decide +kernel
 refine⟨by show (_,_)∈Ge;unfold Ge;simp[r3,AS,Ef],λk hk=>?_⟩;simp only[r3,AS,Zzw,Zz2,or_false] at hk;rcases hk with rfl | rfl | rfl
 ·exact h.1
 ·exact⟨h.2.1.1,by lia⟩
 ·exact⟨h.2.2.1,by lia⟩
theorem U3{w:Wr}{r:R3}(h:r∈Gm w):r=AL w\/(∃c∈w.coming,r=Rv w.name c)\/∃p∈w.parts,r=Ct w.name p:=by
 rcases Zzw.mp h with h | h
 ·exact .inl h
 rcases Zz3.mp h with h | h
 ·let⟨c,hc,e⟩:=Zzt.mp h;exact .inr (.inl ⟨c,hc,e.symm⟩)
 ·let⟨c,hc,e⟩:=Zzt.mp h;exact .inr (.inr ⟨c,hc,e.symm⟩)
theorem Qc{w:Wr}{r:R3}(h:r∈Gm w):r.2.1=w.name:=by
 rcases U3 h with rfl | ⟨c,_,rfl⟩ | ⟨c,_,rfl⟩<;>rfl
theorem G4(sd:SD0 S):∀r∈C8 S,Fn (r3 r):=λr hr=>by
 rcases Zz3.mp hr with h | h
 ·let⟨w,hw,h⟩:=List.mem_flatMap.mp h;let⟨o1,o2,o3⟩:=w9 sd hw;rcases U3 h with rfl | ⟨c,hc,rfl⟩ | ⟨c,hc,rfl⟩
  ·exact o1
  ·exact o2 c hc
  ·exact o3 c hc
 ·let⟨u,hu,rfl⟩:=Zzt.mp h;exact vj sd hu
theorem Xp:∀(k:Nat) {ds:List PyData} {vs:List V},RDs H ds vs->RDs H (ds.drop k) (vs.drop k)
 |0,_,_,h=>h
 |k+1,[],vs,h=>by
  rw[RDs] at h;rw[h];exact RDs.nil
 |k+1,d::ds,vs,h=>by
  rw[RDs] at h;let⟨v,r,rfl,_,h2⟩:=h;exact Xp k h2
theorem Xn:∀{ds:List PyData} {xs:List V} (n:Nat),RDs H ds xs->RDs H (ds.take n) (xs.take n)
 |_,_,0,_=>by rw[Zvq,Zvq];exact RDs.nil
 |[],xs,n+1,h=>by rw[RDs.nil_of h];exact RDs.nil
 |d::ds,xs,n+1,h=>by
  let⟨x,r,rfl,h1,h2⟩:=RDs.cons_of h;rw[Zw4,Zw4];exact RDs.cons h1 (Xn n h2)
theorem U4(sd:SD0 S):∀{ws:List Wr},(∀w∈ws,w∈S.wares)->(ws.flatMap Gm).length<=19*ws.length
 |[],_=>Zzu _
 |w::r,h=>by
  have ih:=U4 sd (ws:=r) λx hx=>h x (Zzs _ hx);let⟨_,_,_,_,h5,_,_,h8,_⟩:=(sd.wv w (h w Zzq)).2.1;rw[List.flatMap_cons,Zz8,Zyz];have:(Gm w).length=1+(w.coming.length+w.parts.length):=by
   unfold Gm;simp only[Zz8,Zzz,Zyz];lia
  lia
theorem Yw{φ:R3->Bool}{rs:List R3}(h:∀r∈rs,φ r=false):rs.filter φ=[]:=by
 rw[List.filter_eq_nil_iff];intro r hr;rw[h r hr];exact Zzi
theorem yu{φ:R3->Bool}{rs:List R3}(h:∀r∈rs,φ r=true):rs.filter φ=rs:=by
 rw[List.filter_eq_self];exact h
theorem Ff{α:Type}{φ:R3->Bool}{f:α->R3}{xs:List α}(h:∀x,φ (f x)=false):(xs.map f).filter φ=[]:=Yw λr hr=>by
 let⟨x,_,rfl⟩:=Zzt.mp hr;exact h x
theorem W2{α:Type}{φ:R3->Bool}{f:α->R3}{xs:List α}(h:∀x,φ (f x)=true):(xs.map f).filter φ=xs.map f:=yu λr hr=>by
 let⟨x,_,rfl⟩:=Zzt.mp hr;exact h x
theorem Je{s n:Str}{r:R3}(h:r.1≠s\/r.2.1≠n):Fx s n r=false:=by
 unfold Fx;rcases h with h | h
 ·rw[GC h,Zx6]
 ·rw[GC h,Zwt]
theorem Xr{s n:Str}:Fx s n (s,n,ks)=true:=by
 unfold Fx;rw[GB rfl,GB rfl];rfl
theorem Yv{α:Type}{g:Wr->List α}{w:Wr}:∀{ws:List Wr},(ws.map (·.name)).Nodup->w∈ws->(∀v∈ws,v.name≠w.name->g v=[])->ws.flatMap g=g w
 |[],_,h,_=>nomatch h
 |v::r,nd,h,k=>by
  have nd:=Zye.mp (show (v.name::r.map (·.name)).Nodup from nd);rw[List.flatMap_cons];rcases Zzw.mp h with z | z
  ·subst z;have:r.flatMap g=[]:=by
    rw[List.flatMap_eq_nil_iff];exact λv hv=>k v (Zzs _ hv) λe=>nd.1 (by rw[<- e];exact Zzt.mpr ⟨v,hv,rfl⟩)
   rw[this,Zyt]
  ·rw[k v Zzq λe=>nd.1 (by rw[e];exact Zzt.mpr ⟨w,z,rfl⟩),Zw1,Yv nd.2 z λv hv=>k v (Zzs _ hv)]
theorem Qb(φ:R3->Bool):(C8 S).filter φ=S.wares.flatMap (λw=>(Gm w).filter φ)++(S.wants.map AS).filter φ:=by
 unfold C8;rw[Zxi,List.filter_flatMap]
theorem Mw(φ:R3->Bool)(w:Wr):(Gm w).filter φ=(if φ (AL w)=true then [AL w] else [])++((w.coming.map (Rv w.name)).filter φ++(w.parts.map (Ct w.name)).filter φ):=by
 unfold Gm;rw[Zxk,Zxi];split<;>rfl
theorem A0v(nd:(S.wares.map (·.name)).Nodup):wrD (C8 S)=S.d:=by
 have ne:("ware" : Str) ≠ "want" /\ ("coming" : Str) ≠ "want" /\ ("part" : Str) ≠ "want" /\ ("coming" : Str) ≠ "ware" /\ ("part" : Str) ≠ "ware" /\ ("coming" : Str) ≠ "part" := by decide +kernel
 let⟨n1,n2,n3,n4,n5,n6⟩:=ne;have ew:(C8 S).filter (isS "ware")=S.wares.map AL:=by
  rw[Qb,Ff (f:=AS) λu=>GC (Zza n1),Zyt];have:(λw=>(Gm w).filter (isS "ware"))=λw=>[AL w]:=funext λw=>by
   rw[Mw,Ff (f:=Rv w.name) λc=>GC n4,Ff (f:=Ct w.name) λc=>GC n5,GE (show isS "ware" (AL w)=true from GB rfl)];rfl
  rw[this];exact(List.map_eq_flatMap ..).symm
 have eu:(C8 S).filter (isS "want")=S.wants.map AS:=by
  rw[Qb,W2 (f:=AS) λu=>GB rfl];have:(λw=>(Gm w).filter (isS "want"))=λ_=>[]:=funext λw=>by
   rw[Mw,Ff (f:=Rv w.name) λc=>GC n2,Ff (f:=Ct w.name) λc=>GC n3,GD (by rw[show isS "want" (AL w)=false from GC n1];exact Zzi)];rfl
  rw[this,List.flatMap_eq_nil_iff.mpr λ_ _=>rfl,Zw1]
 have ep:∀{s:Str} (w:Wr),s ≠ "want" -> s ≠ "ware" -> w∈S.wares->(C8 S).filter (Fx s w.name)=(w.coming.map (Rv w.name)).filter (Fx s w.name)++(w.parts.map (Ct w.name)).filter (Fx s w.name):=λ{s} w h1 h2 hw=>by
  rw[Qb,Ff (f:=AS) λu=>Je (.inl (Zza h1)),Zyt,Yv (g:=λv=>(Gm v).filter (Fx s w.name)) nd hw λv _ e=>Yw λr hr=>Je (.inr (by rw[Qc hr];exact e)),Mw,GD (by rw[Je (r:=AL w) (.inl (Zza h2))];exact Zzi)];rfl
 unfold wrD Sh.d;rw[ew,eu,Zyq,Zyq];have e1:S.wares.map (Gu (C8 S)∘AL)=S.wares.map Wr.d:=by
  refine Zxx λw hw=>?_;show Gu (C8 S) (AL w)=w.d;unfold Gu;have n:(AL w).2.1=w.name:=rfl;rw[n,ep w n2 n4 hw,ep w n3 n5 hw,W2 (f:=Rv w.name) (λc=>Xr),Ff (f:=Ct w.name) (λc=>Je (.inl (Zza n6))),Ff (f:=Rv w.name) (λc=>Je (.inl n6)),W2 (f:=Ct w.name) (λc=>Xr),Zyt,Zw1,Zyq,Zyq];rfl
 rw[e1];rfl
theorem Ln(sd:SD0 S):S.wares.length<=(C8 S).length/\(C8 S).length<=400:=by
 have l1:=U4 sd (ws:=S.wares) λ_ h=>h;have l2:∀ws:List Wr,ws.length<=(ws.flatMap Gm).length:=λws=>by
  induction ws with
  |nil=>exact Zzu _
  |cons w r ih =>
   rw[List.flatMap_cons,Zz8,Zyz];have:1<=(Gm w).length:=Nat.le_add_left _ _;lia
 have l3:=l2 S.wares;have hn:=sd.n;have hu:=sd.un;unfold C8;rw[Zz8,Zzz];lia
theorem i8(sd:SD0 S)(nd:(S.wares.map (·.name)).Nodup):Jr (C8 S) S:=by
 have hn:=sd.n;have hl:=Ln sd;refine⟨λz=>?_,hl.2,G4 sd,A0v nd,sd,λob r hr=>?_⟩
 ·rw[z] at hl;have:S.wares.length<=0:=hl.1;lia
 ·rcases Zz3.mp hr with h | h
  ·let⟨w,hw,h⟩:=List.mem_flatMap.mp h;rw[Qc h];exact Zzt.mpr ⟨w,hw,rfl⟩
  ·let⟨u,hu,rfl⟩:=Zzt.mp h;unfold okS at ob;rw[Zz1,Zyv] at ob;exact GA (ob.2 u.1 (Zyi _ (Zzt.mpr ⟨u,hu,rfl⟩)))
def DE:Sp:=λ_ _ _ _=>False
theorem Vh(F:Fun K "with_want" "with_want" O0 f fd)(T:Txt mg)(C:Exc K mg c):Aq P w K mg base CX0 1 f fd ["shop", "name", "day", "amount"] DE:=by
 refine F.go ["shop", "name", "day", "amount"] ?_ ?_ ?_;walk_at "f";exact h.elim
def Oo(i:Nat)(S:Sh):Sh:=⟨S.wares,S.wants.take i++S.wants.drop (i+1)⟩
inductive CK (vs:List V) (H:Hp) (Q:VK) (E:XK):Prop | mk (v:V) (S:Sh) (i:Nat) (_:vs=[v,.int i]) (_:RD H S.d v) (_:S.wants.length<=1000) (_:i<S.wants.length) (_:∀x H',RD H' (Oo i S).d x->AB H H'->Q x H')
theorem Ov(F:Fun K "without_want" "without_want" J5 f fd)(T:Txt mg)(C:Exc K mg c):Aq P w K mg base CX0 1 f fd ["shop", "place"] CK:=by
 refine F.go ["shop", "place"] ?_ ?_ ?_;walk_at "f";let⟨v,S,i,rfl,rs,hw,hi,k⟩:=h;have hu:=Ao hr;refine⟨_,(A3 (Ad (Bo (A2 (Ac hu (pv 0) A5) (A2 (Ae Xw (C5 V3 (Ac hu (pv 0) A5) Db (Cc (pv 1))) (C5 V3 (Ac hu (pv 0) A5) (Cc (Ae D4 (pv 1) A5)) Db)) A0))))),?_⟩;let⟨a,b,cc,ws,us,rfl,ha,hb,hc,rws,rus⟩:=Cy rs;have hlu:=B8 rus;walk_at "rd";refine⟨_,Ag (j:=0) ha rfl,_,Ag (j:=1) ha rfl,cc,rfl,us,hc,λp1 H1 hp1 s1 _=>⟨_,Ag (j:=1) (s1 _ _ ha) rfl,cc,rfl,us,s1 _ _ hc,λp2 H2 hp2 s2 _=>?_⟩⟩;have e1:Fk us none (some (i:Int))=us.take i:=by rw[z7 (by lia),Zwy]
 have e2:Fk us (some ((i:Int)+1)) none=us.drop (i+1):=by rw[E4 (by lia)];rfl
 rw[e1] at hp1;rw[e2] at hp2;refine⟨_,s2 _ _ hp1,_,hp2,Zzp (m:=1000) (by rw[Zyy,Zy4];lia) (by decide),λr H3 hr3 s3 _=>⟨by decide,λt ht=>?_⟩⟩;have s4:=(s1.trans s2).trans s3;have s5:=s4.trans (A7 (o:=.tup [.ref b,.ref r]) ht);refine k _ _ ?_ s5;unfold Oo Sh.d;refine RD.tup_mk AA (RDs.cons (RD.tup_mk (s5 _ _ hb) (RDs.same s5 _ _ rws)) (RDs.one (RD.tup_mk (A7 ht _ _ hr3) ?_)));rw[Zzd,List.map_take,List.map_drop];have r5:=RDs.same s5 _ _ rus;exact RDs.app (Xn i r5) (Xp (i+1) r5)
def cg(t:Str)(e:Ek):Prop:=(A4x t/\e=.text)\/∃rs S,t=Cz rs/\Jr rs S/\((okS S=false/\e=.shop)\/(okS S=true/\Ta S/\∃x y,va S x y/\e=.ring))
def Hj(c:Cl):Sp:=λvs H Q E=>∃t:Str,vs=[.str t]/\((∃S,t=Cz (C8 S)/\AF 11 S/\∀q H',RD H' S.d (.ref q)->AB H H'->Q (.ref q) H')\/∃e,cg t e/\∀H',AB H H'->E (.ref (c.ek e)) none H')
theorem CC:Bu ["text", "shop"] ["text"] (Ap Fp):=by walk_at "sc"
theorem N5(F:Fun K "read_ringless" "read_ringless" Fp f fd)(T:Txt mg)(C:Exc K mg c)(Zsh:Eh P w K mg base "read_shop" 9 ["text"] (L9 c))(Zuq:Eh P w K mg base "check_rings" 4 ["shop"] (Bv c)):Aq P w K mg base (CXE P w) 10 f fd ["text"] (Hj c):=by
 refine F.okX CC (λvs H Q E h=>?_) (λcdv A outer s H vs Q E hr h=>?_)
 ·let⟨t,rfl,_⟩:=h;rfl
 ·let⟨t,rfl,h⟩:=h;have hu:=Ao hr;refine⟨_,(A1 (B4 1 CC.nd (B0 Zsh Fc hr.z rfl (A2 (pv 0) A0)))
 (A1 (Bm (B0 Zuq Fc hr.z rfl (A2 (pv 1) A0)))
 (A3 (Ad (pv 1))))),?_⟩
  walk_at "rd";refine⟨t,rfl,?_⟩;rcases h with ⟨S,rfl,g,k⟩ | ⟨e,(⟨bd,rfl⟩ | ⟨rs,S,rfl,sr,h⟩),ke⟩
  ·refine .inl ⟨C8 S,S,rfl,i8 g.sd.weak g.ws.nd,λ_ q H1 rq s1=>?_,λz=>by rw[g.sd.okS] at z;cases z⟩;exact⟨_,S,rfl,rq,g.ok,.inl ⟨g.no,λH2 s2=>k q H2 (RD.same s2 _ _ rq) (s1.trans s2)⟩⟩
  ·exact .inr ⟨bd,ke⟩
  ·rcases h with ⟨ob,rfl⟩ | ⟨ob,so,x,y,r2,rfl⟩
   ·exact .inl ⟨rs,S,rfl,sr,(λz=>by rw[ob] at z;cases z),λ_=>ke⟩
   ·exact .inl ⟨rs,S,rfl,sr,λ_ q H1 rq s1=>⟨_,S,rfl,rq,so,.inr ⟨x,y,r2,λH2 s2=>ke H2 (s1.trans s2)⟩⟩,λz=>by rw[ob] at z;cases z⟩
end
section
variable {dk:Dk}{c:Cl}
inductive Fit:List Key->List Str->Prop
 |nil:Fit [] []
 |name {nm:Str} {ks:List Key} {fs:List Str} (h:Al nm=true) (r:Fit ks fs):Fit (.inr nm::ks) ("name" :: fs)
 |num {n:Int} {s:Str} {ks:List Key} {fs:List Str} (hs:s = "day" \/ s = "number" \/ s = "place") (h0:0<=n) (h1:n<10^60) (r:Fit ks fs):Fit (.inl n::ks) (s::fs)
noncomputable def BJ:List (Str×List Str):=[("want",["name", "day", "number"]),("drop",["place"]),("plan",[]),("late",[]),("most",["name", "day"]),("stock",["name"]),("serves",["name", "day"]),("buy",["name", "number", "number", "number"])]
structure Qn where
 first:Str
 form:List Str
 keys:List Key
 isf:(first,form)∈BJ
 fit:Fit keys form
def K8(S:Sh):Key×Str->Option Ek
 | (.inr nm,_)=>if nm∈S.wares.map (·.name) then none else some .name
 | (.inl n,s)=>if (s = "day" /\ 400<n)\/(s = "place" /\ ((S.wants.length:Nat):Int)<=n) then some .day else none
def bo(S:Sh):List (Key×Str)->Option Ek
 |[]=>none
 |z::r=>(K8 S z).or (bo S r)
def Qn.due(S:Sh)(q:Qn):Option Ek:=(bo S (q.keys.zip q.form)).or (if q.first = "want" /\ 20<=S.wants.length then some .shop else none)
theorem g8{S:Sh}:∀{l:List (Key×Str)} {i:Nat} {z:Key×Str} {e:Ek},(∀y∈l.take i,K8 S y=none)->l[i]?=some z->K8 S z=some e->bo S l=some e
 |[],_,_,_,_,h,_=>by cases h
 |y::r,0,z,e,_,h,he=>by cases h;show (K8 S y).or _=_;rw[he];rfl
 |y::r,i+1,z,e,h0,h,he=>by
  show (K8 S y).or _=_;rw[h0 y (by rw[Zw4];exact Zzq),g8 (i:=i) (λx hx=>h0 x (by rw[Zw4];exact Zzs _ hx)) h he];rfl
theorem Ed:∀{l:List (Key×Str)},(∀y∈l,K8 S y=none)->bo S l=none
 |[],_=>rfl
 |y::r,h=>by show (K8 S y).or _=_;rw[h y Zzq,Ed λx hx=>h x (Zzs _ hx)];rfl
theorem Kw:∀{ks:List Key} {fs:List Str} {i:Nat} {k:Key} {s:Str},Fit ks fs->ks[i]?=some k->fs[i]?=some s->(s = "name" /\ ∃nm,k=.inr nm/\Al nm=true)\/((s = "day" \/ s = "number" \/ s = "place")/\∃n,k=.inl n/\0<=n/\n<10^60)
 |_,_,_,_,_,.nil,h,_=>by cases h
 |_,_,0,_,_,.name h _,e1,e2=>by cases e1;cases e2;exact .inl ⟨rfl,_,rfl,h⟩
 |_,_,0,_,_,.num hs h0 h1 _,e1,e2=>by cases e1;cases e2;exact .inr ⟨hs,_,rfl,h0,h1⟩
 |_,_,i+1,_,_,.name _ r,e1,e2=>Kw r e1 e2
 |_,_,i+1,_,_,.num _ _ _ r,e1,e2=>Kw r e1 e2
theorem Mg:∀{ks:List Key} {fs:List Str},Fit ks fs->ks.length=fs.length
 |_,_,.nil=>rfl
 |_,_,.name _ r=>congrArg (·+1) (Mg r)
 |_,_,.num _ _ _ r=>congrArg (·+1) (Mg r)
noncomputable def Kd(c:Cl):Sp:=λvs H Q E=>∃(v:V) (q:Qn) (a:Addr),vs=[v,.str q.first,.ref a]/\H a=some (.lst (q.keys.map kV))/\((v=.non/\E (.ref c.NoShop) none H)\/∃S,RD H S.d v/\Ta S/\S.wants.length<=1000/\(q.due S=none->∀H',AB H H'->Q .non H')/\∀e,q.due S=some e->∀H',AB H H'->E (.ref (c.ek e)) none H')
inductive A4r (v:V) (q:Qn) (a:Addr) (S:Sh) (H:Hp) (i:Nat) (σ:St) (H':Hp):Prop | mk (o3 o4:Option V) (_:σ=[some v,some (.str q.first),some (.ref a),o3,o4]) (_:(∀z∈(q.keys.zip q.form).take i,K8 S z=none)) (_:AB H H')
theorem nt(h1:D9 K l "want" ["name", "day", "number"])(h2:D9 K l "drop" ["place"])(h3:D9 K l "plan" [])(h4:D9 K l "late" [])(h5:D9 K l "most" ["name", "day"])(h6:D9 K l "stock" ["name"])(h7:D9 K l "serves" ["name", "day"])(h8:D9 K l "buy" ["name", "number", "number", "number"]){fs:List Str}(h:(x,fs)∈BJ):∃fa,Ey l x=.ref fa/\∀H:Hp,SqT K H fa (fs.map V.str):=by
 have go:∀{y:Str} {gs:List Str},D9 K l y gs->gs.length<=1000->(x,fs)=(y,gs)->∃fa,Ey l x=.ref fa/\∀H:Hp,SqT K H fa (fs.map V.str):=λf n e=>by cases e;exact Wk f n
 simp only[BJ,Zzw,Zz2,or_false] at h;rcases h with h | h | h | h | h | h | h | h
 ·exact go h1 (by decide) h
 ·exact go h2 (by decide) h
 ·exact go h3 (by decide) h
 ·exact go h4 (by decide) h
 ·exact go h5 (by decide) h
 ·exact go h6 (by decide) h
 ·exact go h7 (by decide) h
 ·exact go h8 (by decide) h
theorem Yc(h:Al x=true):∀c∈x.cps.toList,c<1114112:=λc hc=>by
 have k:∀c∈AU,c<1114112:=by decide +kernel
 exact k c ((fg h).2.2 c hc)
theorem mn{n:Int}(h0:0<=n)(h1:n<10^60)(hx:x.length<=100):n.natAbs<10^577/\(Str.empty++x++Ba n).length<=1000000:=by
 have h:0<=n/\n<10^577:=⟨h0,Int.lt_trans h1 (by decide +kernel)⟩;have:=(Nl h).2.2.2;refine⟨N7 h,?_⟩;rw[Str.empty_append,strLen_append];lia
theorem BV:Bu ["shop", "first", "members", "member", "sort"] ["shop", "first", "members"] (Ap Hw):=by walk_at "sc"
theorem Sg(F:Fun K "check_told" "check_told" Hw f fd)(T:Txt mg)(Fo:Fms w K mg)(C:Exc K mg c)(Zun:Eh P w K mg base "ware_of" 1 ["shop", "name"] (Dw c)):Aq P w K mg base (CXE P w) 2 f fd ["shop", "first", "members"] (Kd c):=by
 refine F.okX BV (λvs H Q E h=>?_) (λcdv A outer s H vs Q E hr h=>?_)
 ·let⟨v,q,a,rfl,_⟩:=h;rfl
 ·let⟨v,q,a,rfl,hq,h⟩:=h;have hu:=Ao hr;let⟨F_a,F_l,F_m,F_t,f1,f2,f3,f4,f5,f6,f7,f8,_⟩:=Fo;refine⟨_,(A1 (As (Aj Qr (pv 0) Dn (Ak _)) (A3 (Cb Gn rfl rfl C.Zs9 (C.ex .shop).1 (A2 Aa A0))) Ai)
 (A1 (Bj PassesOwn.leaving rfl (e8 rfl T.Zrw (A2 (pv 2) (A2 (A1n F_t (Du (v:=.ref F_a) rfl F_m rfl) (pv 1) (λ_ _=>rfl)) A0))) (Et (n:=2) rfl (Az (Cj 3 BV.nd) (Az (Cj 4 BV.nd) Df)))
 (A1 (As (Aj (Bd hu) (pv 4) Aa (Ak _)) (A3 (Bm (B0 Zun Fc hr.z rfl (A2 (pv 0) (A2 (pv 3) A0))))) Ai)
 (A1 (As (PW.pt (Mz (Aj (Bd hu) (pv 4) Aa (Ak _)) (Jv (Aj Xu (pv 3) (Af rfl T.Zu6) (Ak _))))) (A3 (Cb Gn rfl rfl C.Zrk (C.ex .day).1 (A2 (Vc (Lp (Lo (Af rfl T.Zu6) Pa))) A0))) Ai)
 (A3 (As (PW.pt (Mz (Aj (Bd hu) (pv 4) Aa (Ak _)) (Jv (Aj Xv (pv 3) (Ah Ch rfl T.Zu7 D8 (A2 (Ac hu (pv 0) A5) A0)) (Ak _))))) (A3 (Cb Gn rfl rfl C.Zrk (C.ex .day).1 (A2 (Vc (Lp (Lo (pv 3) Pa))) A0))) Ai)))))
 (A3 (As (PW.pt (Mz (Aj (Bd hu) (pv 1) Aa (Ak _)) (Jv (Aj Xv (Ah Ch rfl T.Zu7 D8 (A2 (Ac hu (pv 0) A5) A0)) (Af rfl T.Zua) (Ak _))))) (A3 (Cb Gn rfl rfl C.Zs9 (C.ex .shop).1 (A2 (Vc (Lp (Lo (Af rfl T.Zua) (Lp Pa)))) A0))) Ai)))),?_⟩
  walk_at "rd";rcases h with ⟨rfl,ke⟩ | ⟨S,rs,so,hw,k,ke⟩
  ·rw[GE (by decide)];exact⟨by decide,ke⟩
  let⟨fa,q1,q2⟩:=nt f1 f2 f3 f4 f5 f6 f7 f8 q.isf;let⟨sa,sb,sc,ws,us,rfl,ha,hb,hc,rws,rus⟩:=Cy rs;have hul:=B8 rus;rw[GD (λz=>by cases GA z)];refine⟨fa,q1,_,hq,_,q2 H,?_⟩;refine Rm (sg _ a fa _ _) (A4r (.ref sa) q a S H) ⟨_,_,rfl,(λz hz=>by cases hz),AB.refl _⟩ (λi σ H' _ h=>?_) (λi ys t σ H' hi hy h ht=>?_) (λσ H' h=>?_)
  ·let⟨_,_,_,_,s'⟩:=h;exact⟨s' _ _ hq,q2 H'⟩
  ·let⟨o1,o2,rfl,pa,s1⟩:=h;let⟨y,z,ey,ez,rfl⟩:=hy;have s2:=s1.trans (A7 (o:=.tup [y,z]) ht);refine gT2 ?_;generalize upd H' t (.tup [y,z])=H2 at s2;rw[Zzx] at ey ez;let⟨kk,ek,rfl⟩:=Zvj.mp ey;let⟨ss,es,rfl⟩:=Zvj.mp ez;have ezip:(q.keys.zip q.form)[i]?=some (kk,ss):=by rw[List.getElem?_zip_eq_some];exact⟨ek,es⟩
   have nx:K8 S (kk,ss)=none->∀z∈(q.keys.zip q.form).take (i+1),K8 S z=none:=λh z hz=>by
    rw[Zz6,ezip] at hz;rcases Zz3.mp hz with z1 | z1
    ·exact pa z z1
    ·rw[Zzh.mp z1];exact h
   have no:∀{e:Ek},K8 S (kk,ss)=some e->q.due S=some e:=λh=>by
    unfold Qn.due;rw[g8 pa ezip h];rfl
   have nn:("name" : Str) ≠ "day" /\ ("name" : Str) ≠ "place" /\ ("day" : Str) ≠ "name" /\ ("number" : Str) ≠ "name" /\ ("place" : Str) ≠ "name" := by decide +kernel
   have hv:∀n,kk=.inl n->(ss = "day" /\ 400<n)\/(ss = "place" /\ ((S.wants.length:Nat):Int)<=n)->q.due S=some .day:=λn e c=>no (by subst e;exact GE c);refine Iv (λσ' H'=>σ'=[some (.ref sa),some (.str q.first),some (.ref a),some (kV kk),some (.str ss)]/\AB H H'/\∀nm,kk=.inr nm->nm∈S.wares.map (·.name)) ?_ (λKK hK=>?_);rotate_left
   ·walk_at "rd";refine⟨rfl,Do (λz=>?_) (λz=>?_)⟩
    ·have z:=GA z
     rcases Kw q.fit ek es with ⟨_,nm,rfl,hnm⟩ | ⟨hs,_⟩
     ·refine⟨_,S,nm,rfl,RD.same s2 _ _ rs,so,?_⟩;by_cases hm:nm∈S.wares.map (·.name)
      ·exact .inl ⟨hm,λx w _ _ _=>hK _ _ ⟨rfl,s2,λnm' e=>by cases e;exact hm⟩⟩
      ·exact .inr ⟨hm,Zzp (Be hnm) (by decide),Yc hnm,ke .name (no (GD hm)) _ s2⟩
     ·rcases hs with e | e | e
      ·exact absurd (e.symm.trans z) nn.2.2.1
      ·exact absurd (e.symm.trans z) nn.2.2.2.1
      ·exact absurd (e.symm.trans z) nn.2.2.2.2
    ·rcases Kw q.fit ek es with ⟨e,_⟩ | ⟨_,n,rfl,_⟩
     ·exact absurd (GB e) z
     ·exact hK _ _ ⟨rfl,s2,λnm e=>by cases e⟩
   rintro σ' H3 ⟨rfl,s3,hnm⟩;refine Iv (λσ' H'=>σ'=[some (.ref sa),some (.str q.first),some (.ref a),some (kV kk),some (.str ss)]/\AB H H'/\∀n,kk=.inl n->¬ (ss = "day" /\ 400<n)) ?_ (λKK hK=>?_);rotate_left
   ·walk_at "rd";refine⟨rfl,Do (λz=>?_) (λz=>hK _ _ ⟨rfl,s3,λn _ y=>z (GB y.1)⟩)⟩;have z:=GA z;rcases Kw q.fit ek es with ⟨e,_⟩ | ⟨_,n,rfl,_⟩
    ·exact absurd (e.symm.trans z) nn.1
    ·refine⟨n,rfl,Do (λy=>?_) (λy=>hK _ _ ⟨rfl,s3,λn' e x=>by cases e;exact y (GB x.2)⟩)⟩;exact⟨by decide,by decide +kernel,by decide +kernel,by decide +kernel,by decide,ke .day (hv n rfl (.inl ⟨z,GA y⟩)) _ s3⟩
   rintro σ' H4 ⟨rfl,s4,hdy⟩;walk_at "rd";refine⟨rfl,Do (λz=>?_) (λz=>?_)⟩
   ·have z:=GA z
    rcases Kw q.fit ek es with ⟨e,_⟩ | ⟨_,n,rfl,n0,n1⟩
    ·exact absurd (e.symm.trans z) nn.2.1
    refine⟨_,Ag (j:=1) (s4 _ _ ha) rfl,sc,rfl,us,.inr (s4 _ _ hc),n,rfl,Do (λy=>?_) (λy=>?_)⟩
    ·let⟨l1,l2⟩:=mn (x := "no want has the number ") n0 n1 (by decide);have y:=GA y;exact⟨by decide,n,rfl,l1,l2,l2,by decide,ke .day (hv n rfl (.inr ⟨z,by lia⟩)) _ s4⟩
    ·have y:¬ ((us.length:Nat):Int)<=n:=λx=>y (GB x)
     refine⟨_,_,rfl,nx (GD ?_),s4⟩;rintro(x | ⟨_,x⟩)
     ·exact hdy n rfl x
     ·lia
   ·refine⟨_,_,rfl,nx ?_,s4⟩;rcases Kw q.fit ek es with ⟨e,nm,rfl,_⟩ | ⟨_,n,rfl,_⟩
    ·exact GE (hnm nm rfl)
    ·refine GD ?_;rintro(x | ⟨x,_⟩)
     ·exact hdy n rfl x
     ·exact z (GB x)
  ·let⟨o1,o2,rfl,pa,s1⟩:=h;walk_at "rd";refine⟨rfl,?_⟩;have dl:bo S (q.keys.zip q.form)=none:=by
    refine Ed λy hy=>pa y ?_;have hl:=Mg q.fit;rw[Zzz,Zzz,Zxl (by rw[List.length_zip];exact Zzu _)];exact hy
   refine Do (λz=>?_) (λz=>?_)
   ·have z:=GA z
    refine⟨_,Ag (j:=1) (s1 _ _ ha) rfl,sc,rfl,us,.inr (s1 _ _ hc),Do (λy=>?_) (λy=>?_)⟩
    ·have y:=GA y
     refine⟨by decide,by decide +kernel,by decide +kernel,by decide +kernel,by decide +kernel,by decide,ke .shop ?_ _ s1⟩;unfold Qn.due;rw[dl,GE ⟨z,by lia⟩];rfl
    ·have y:¬ (20:Int)<=((us.length:Nat):Int):=λx=>y (GB x)
     refine k ?_ H' s1;unfold Qn.due;rw[dl,GD (λx=>by have:=x.2;lia)];rfl
   ·refine k ?_ H' s1;unfold Qn.due;rw[dl,GD (λx=>z (GB (by rw[x.1])))];rfl
end
section
variable {dk:Dk}{c:Cl}
def Km(c:Cl)(Pt:Addr):Sp:=λvs H Q E=>∃(v:V) (S:Sh) (sz:Int),vs=[v]/\RD H S.d v/\AF sz S/\0<sz/\sz<=1000/\(∀w∈S.wares,w.name.length<=800)/\Tb H Pt/\((∃w∈S.wares,Bq (LR S w.name) w.lag≠none)->∀H',Tb H' Pt->But Pt H H'->E (.ref c.NoPlan) none H') /\
 ((∀w∈S.wares,Bq (LR S w.name) w.lag=none)->∀p H',BT H' p S (LR S)->Tb H' Pt->But Pt H H'->Q (.ref p) H')
theorem CP:Bu ["shop", "found", "name"] ["shop"] (Ap Mv):=by walk_at "sc"
theorem ag(F:Fun K "plan_of" "plan_of" Mv f fd)(T:Txt mg)(C:Exc K mg c)(Zu4:Has P w K mg base "planned" 7 ["shop"] (Ht Pt)):Aq P w K mg base (CXE P w) 8 f fd ["shop"] (Km c Pt):=by
 refine F.okX CP (λvs H Q E h=>?_) (λcdv A outer s H vs Q E hr h=>?_)
 ·let⟨v,S,sz,rfl,_⟩:=h;rfl
 ·let⟨v,S,sz,rfl,rs,g,z0,z1,nl,tb,ke,k⟩:=h;have hu:=Ao hr;refine⟨_,(A1 (B4 1 CP.nd (A9 Zu4 hr.z rfl (A2 (pv 0) A0)))
 (A1 (As (Aj (Bd hu) (Ac hu (pv 1) A5) Aa (Ak _)) (A1 (B4 2 CP.nd (Ac hu (pv 1) A5))
 (A3 (Cb Gn rfl rfl C.Zrb (C.ex .plan).1 (A2 (Vb (Va (Zx (pv 2) V9))) A0)))) Ai)
 (A3 (Ad (Ac hu (pv 1) A5))))),?_⟩
  walk_at "rd";refine⟨v,S,sz,rfl,rs,g,z0,z1,tb,λt p ys i H1 ht hp ntp so ra he tb1 b1 hcase=>?_⟩;rcases hcase with ⟨ei,ht1⟩ | ⟨w,d,hw,hy,hd,ht1⟩
  ·refine⟨_,Ag (j:=0) ht1 rfl,rfl,?_⟩;rw[GD (by decide +kernel)];refine⟨_,Ag (j:=1) ht1 rfl,?_⟩;rw[ei,Zz7] at ra he;have hm:∀nm∈Bp S,nm∈ys:=λnm h=>(Em so).1.mem_iff.mpr h;have L:=Eb g;let⟨kvs,hk1,hk2,hk3,hk4⟩:=ra;refine k (λw hw=>he w hw (hm _ (Zzt.mpr ⟨w,hw,rfl⟩))) p H1 ⟨kvs,.inl hk1,λnm hnm=>?_⟩ tb1 b1;let⟨q,e1,e2,e3,e4⟩:=hk3 nm (hm _ hnm);let⟨w,hw,rfl⟩:=Zzt.mp hnm;exact⟨q,e3,e4,Js L.toLev hw,λx hx=>⟨(gv (Mc g) _ x hx).1,Int.lt_trans (gv (Mc g) _ x hx).2 (by decide +kernel)⟩⟩
  ·refine⟨_,Ag (j:=0) ht1 rfl,rfl,?_⟩;rw[GE (by decide +kernel)];refine⟨_,Ag (j:=2) ht1 rfl,?_⟩;have hn:=nl w hw;have l21:(Str.ofString "the shop is short of ").length=21:=by decide +kernel
   exact⟨by lia,_,rfl,by lia,by lia,λ_=>⟨by decide,ke ⟨w,hw,λz=>by rw[hd] at z;cases z⟩ H1 tb1 b1⟩⟩
inductive DY (vs:List V) (H:Hp) (Q:VK) (E:XK):Prop | mk (v:V) (S:Sh) (sz:Int) (_:vs=[v]) (_:RD H S.d v) (_:AF sz S) (_:0<sz) (_:sz<=1000) (_:∀H',AB H H'->Q (.int (AD S:Nat)) H')
theorem aq(F:Fun K "days_of" "days_of" U2 f fd)(T:Txt mg)(C:Exc K mg c)(Zuq:Eh P w K mg base "check_rings" 4 ["shop"] (Bv c))(Zug:Has P w K mg base "count_days" 1 ["shop"] BI):Aq P w K mg base CX0 5 f fd ["shop"] DY:=by
 refine F.go ["shop"] ?_ ?_ ?_;walk_at "f";let⟨v,S,sz,rfl,rs,g,z0,z1,k⟩:=h;have hu:=Ao hr;let⟨n1,n2,n3,n4⟩:=g.days z0 z1;refine⟨_,(A1 (Bm (B0 Zuq Cw hr.z rfl (A2 (pv 0) A0)))
 (A3 (Ad (A9 Zug hr.z rfl (A2 (pv 0) A0))))),?_⟩
 walk_at "rd";refine⟨v,S,rfl,rs,g.ok,.inl ⟨g.no,λH1 sm1=>?_⟩⟩;refine⟨v,S,rfl,RD.same sm1 _ _ rs,by have:=g.wants.1;lia,λH2 sm2=>?_⟩;rw[<- n3];exact k _ (sm1.trans sm2)
inductive dc (Pt:Addr) (vs:List V) (H:Hp) (Q:VK) (E:XK):Prop | mk (v:V) (S:Sh) (nm:Str) (d:Int) (_:vs=[v,.str nm,.int d]) (_:RD H S.d v) (_:AF 11 S) (_:nm∈S.wares.map (·.name)) (_:Tb H Pt) (_:¬ Bn S) (_:∀t H',H' t=some (.tup [.str "none"])->Tb H' Pt->But Pt H H'->Q (.ref t) H')
theorem xg(F:Fun K "most" "most" mq f fd)(T:Txt mg)(C:Exc K mg c)(Zuq:Eh P w K mg base "check_rings" 4 ["shop"] (Bv c))(Zun:Eh P w K mg base "ware_of" 1 ["shop", "name"] (Dw c))(Zu3:Has P w K mg base "lets_plan" 8 ["shop"] (Hu Pt)):Aq P w K mg base CX0 9 f fd ["shop", "name", "day"] (dc Pt):=by
 refine F.go ["shop", "name", "day"] ?_ ?_ ?_;walk_at "f";let⟨v,S,nm,d,rfl,rs,g,hm,tb,np,k⟩:=h;have hu:=Ao hr;refine⟨_,(A1 (Bm (B0 Zuq Cw hr.z rfl (A2 (pv 0) A0)))
 (A1 (Bm (B0 Zun Cw hr.z rfl (A2 (pv 0) (A2 (pv 1) A0))))
 (A1 (As (B1 (B5 (A9 Zu3 hr.z rfl (A2 (pv 0) A0)))) (A3 (Ad (Bo (A2 Aa A0)))) Ai)
 U7))),?_⟩
 walk_at "rd";refine⟨v,S,rfl,rs,g.ok,.inl ⟨g.no,λH1 s1=>⟨v,S,nm,rfl,RD.same s1 _ _ rs,g.ok,.inl ⟨hm,λ_ _ _ _ _=>⟨v,S,11,rfl,RD.same s1 _ _ rs,g,by decide,by decide,tb.same s1,λb H2 hb t2 b2=>⟨b,rfl,?_⟩⟩⟩⟩⟩⟩;have hb:b=false:=by
  cases b with
  |false=>rfl
  |true=>exact absurd (hb.mp rfl) np
 rw[hb,GE (by decide)];refine⟨by decide,λp hp=>?_⟩;have u:=A7 (o:=.tup [.str (Str.ofString "none")]) hp;exact k p _ AA (t2.same u) ((Bc s1).trans (b2.trans (Bc u)))
end
section
variable {dk:Dk}{c:Cl}
inductive EK (vs:List V) (H:Hp) (Q:VK) (E:XK):Prop | mk (a:Addr) (_:vs=[.ref a]) (_:H a=some (.lst [.int 0,.int 0])) (_:∀l H',AB H H'->Q (.ref l) H')
theorem oz(F:Fun K "rises" "rises" dm f fd)(T:Txt mg)(C:Exc K mg c):Aq P w K mg base CX0 1 f fd ["costs"] EK:=by
 refine F.go ["costs"] ?_ ?_ ?_;walk_at "f";let⟨a,rfl,ha,k⟩:=h;have hu:=Ao hr;refine⟨_,(A3 (Ad (Bs (own:=["ahead", "after"]) (cap:=[]) rfl (Cf rfl) Nf (V8 rfl T.Zrw (A2 (pv 0) (A2 (C5 Ez (pv 0) (Cc A5) Db) A0)))
 (λ_ _ _ _ _ _=>⟨(Et (n:=2) rfl (Az (Ax (i:=0) (GA rfl) rfl (Zyr rfl) (.inr rfl)) (Az (Ax (i:=1) (GA rfl) rfl (Zyr rfl) (.inr rfl)) Df))),Bi,(Ae N1 (pv 1) (pv 0))⟩)))),?_⟩
 walk_at "rd";refine⟨_,ha,λp hp=>?_⟩;rw[show Fk [V.int 0,V.int 0] (some 1) none=[V.int 0] from rfl];have u:=A7 (o:=.lst [V.int 0]) hp;refine⟨_,u _ _ ha,_,AA,?_⟩;refine bu (bf a p _ _) (by show 1<=sizeLine;decide) (λi acc H'=>acc.length=i/\AB (upd H p (.lst [V.int 0])) H') ⟨rfl,AB.refl _⟩ (λi acc H' _ h=>⟨h.2 _ _ (u _ _ ha),h.2 _ _ AA⟩) (λi acc H' h=>Zvz h.1) (λi ys q acc H2 hi hy h hq=>?_) (λacc H2 h q hq=>?_)
 ·let⟨h1,sm2⟩:=h;let⟨y,z,ey,ez,rfl⟩:=hy;have hi:i<1:=hi;obtain rfl:i=0:=by lia
  cases ey;cases ez;refine gT2 ?_;walk_at "rd";exact⟨by rw[Zz8,h1];rfl,sm2.trans (A7 hq)⟩
 ·exact k q _ (u.trans (h.2.trans (A7 hq)))
inductive BW (vs:List V) (H:Hp) (Q:VK) (E:XK):Prop | mk (a:Addr) (_:vs=[.ref a,.int 0]) (_:Q .non H)
theorem Ls(F:Fun K "cheapest_start" "cheapest_start" Hl f fd)(T:Txt mg)(C:Exc K mg c):Aq P w K mg base CX0 1 f fd ["ways", "amount"] BW:=by
 refine F.go ["ways", "amount"] ?_ ?_ ?_;walk_at "f";let⟨a,rfl,k⟩:=h;have hu:=Ao hr;refine⟨_,(A1 (As (Aj (Bd hu) (pv 1) A5 (Ak _)) (A3 (Ad Dn)) Ai)
 U7),?_⟩
 walk_at "rd";refine⟨rfl,?_⟩;rw[GE (by decide)];exact k
inductive DF (vs:List V) (H:Hp) (Q:VK) (E:XK):Prop | mk (a b:Addr) (_:vs=[.ref a,.ref b]) (_:H a=some (.lst [.int 0])) (_:H b=some (.lst [.non])) (_:∀l H',H' l=some (.lst [.int 0])->AB H H'->Q (.ref l) H')
inductive A0r (a b l:Addr) (H:Hp) (m:Nat) (σ:St) (H':Hp):Prop | mk (o:Option V) (_:m<=1) (_:σ=[some (.ref a),some (.ref b),some (.ref l),some (.int ((m:Int) - 1)),o]) (_:H'=H)
theorem Vl(F:Fun K "orders_by" "orders_by" O2 f fd)(T:Txt mg)(C:Exc K mg c):Aq P w K mg base CX0 1 f fd ["wanted", "starts"] DF:=by
 refine F.go ["wanted", "starts", "told", "day", "start"] ?_ ?_ ?_;walk_at "f";let⟨a,b,rfl,ha,hb,k⟩:=h;have hu:=Ao hr;refine⟨_,(A1 (B4 2 Nd (Ae Qq (B7 (A2 A5 A0)) (Ah Ch rfl T.Zu7 D8 (A2 (pv 0) A0))))
 (A1 (B4 3 Nd (Ae N1 (Ah Ch rfl T.Zu7 D8 (A2 (pv 0) A0)) A5))
 (A1 (Qj PassesOwn.never (Aj Xv (pv 3) A5 (Ak _)) (A1 (B4 4 Nd (Ac hu (pv 1) (pv 3)))
 (A1 (As (Aj Jx (pv 4) Dn (Ak _)) (A1 (Ep (Ah (jq rfl) rfl T.Zqz A2c (A2 (C5 Ez (pv 0) (Cc (pv 4)) (Cc (Ae D4 (pv 3) A5))) A0)) (Fq (pv 2) (pv 4) G7))
 (A3 (B4 3 Nd (pv 4)))) Ai)
 (A3 (Gy (i:=3) Nd rfl (Zyr rfl) A5 yg)))))
 (A3 (Ad (pv 2)))))),?_⟩
 walk_at "rd";refine⟨by decide,λp hp=>⟨[.int 0],.inl (A7 hp _ _ ha),_,AA,by decide,by decide,by decide,λl hl=>⟨[.int 0],.inl (A7 hl _ _ (A7 hp _ _ ha)),?_⟩⟩⟩;rw[show (Zz4 (([V.int 0].length:Nat):Int).toNat [V.int 0]).flatten=[V.int 0] from rfl];have s1:=(A7 (o:=.lst [V.int 0]) hp).trans (A7 (o:=.lst [V.int 0]) hl);have hl1:=AA (H:=upd H p (.lst [V.int 0])) (a:=l) (o:=.lst [V.int 0]);generalize upd (upd H p (.lst [V.int 0])) l (.lst [V.int 0])=H1 at s1 hl1;refine⟨A0r a b l H1,⟨1,none,Zzu _,rfl,rfl⟩,λm σ H5 hW=>?_⟩;let⟨o,hm,rfl,rfl⟩:=hW;walk_at "rd";refine Do (λz=>?_) (λz=>?_)
 ·have z:=GA z
  obtain rfl:m=1:=by lia
  refine⟨λσ' H'=>∃m',m'<1/\A0r a b l H5 m' σ' H',λσ' H' z=>z,?_⟩;rw[show (((1:Nat):Int) - 1)=((0:Nat):Int) from rfl];refine⟨_,An (j:=0) (s1 _ _ hb) rfl,?_⟩;rw[GD (by simp)];exact⟨0,by decide,_,by decide,rfl,rfl⟩
 ·exact k l _ hl1 s1
inductive DM (vs:List V) (H:Hp) (Q:VK) (E:XK):Prop | mk (a b t:Addr) (s p n:Int) (_:vs=[.ref a,.ref b]) (_:H a=some (.lst [.int 0])) (_:H b=some (.lst [.ref t])) (_:H t=some (.tup [.int s,.int p,.int n])) (_:(∀i∈[s,p,n],0<=i/\i<10^60)) (_:∀r o v H',H' r=some (.tup [.int 0,.ref o,.ref v])->H' o=some (.lst [.int 0])->AB H H'->Q (.ref r) H')
inductive A4t (a b q1 q2 q3 q4:Addr) (H:Hp) (i:Nat) (σ:St) (H':Hp):Prop | mk (o6 o7 o8 o9:Option V) (_:σ=[some (.ref a),some (.ref b),some (.ref q1),some (.ref q2),some (.ref q3),some (.ref q4),o6,o7,o8,o9]) (_:AB H H') (_:H' q1=some (.lst (Zz4 (i+1) (V.int 0)))) (_:H' q2=some (.lst (Zz4 i V.non))) (_:(i=0->H' q3=some (.dK [])/\H' q4=some (.dK [])))
inductive A4v (a b q1 q2 q3 q4:Addr) (ob:Obj) (p0:Int) (H:Hp) (o9:Option V) (m:Nat) (σ:St) (H':Hp):Prop | mk (o8:Option V) (w:Int) (_:σ=[some (.ref a),some (.ref b),some (.ref q1),some (.ref q2),some (.ref q3),some (.ref q4),some (.int (0:Nat)),some (.int 0),o8,o9]) (_:AB H H') (_:H' q1=some (.lst [V.int 0])) (_:H' q2=some (.lst [])) (_:H' q3=some (.dK [(nk 0,V.int w)])) (_:H' q4=some (.frz ob (.dK [(nk 0,V.int p0)])))
inductive A4u (a b q1 q2 q3 q4 l:Addr) (H:Hp) (m:Nat) (σ:St) (H':Hp):Prop | mk (o8:Option V) (w:Int) (_:σ=[some (.ref a),some (.ref b),some (.ref q1),some (.ref q2),some (.ref q3),some (.ref q4),some (.int (0:Nat)),some (.int 0),o8,some .non]) (_:AB H H') (_:H' q1=some (.lst [V.int 0,V.int 0])) (_:H' q2=some (.lst [V.non])) (_:H' q4=some (.dK [(nk 0,V.int w)])) (_:H' l=some (.lst [V.int (0:Nat)]))
theorem Y7(F:Fun K "cheapest" "cheapest" Q8 f fd)(T:Txt mg)(C:Exc K mg c)(Zto:Has P w K mg base "cheapest_start" 1 ["ways", "amount"] BW)(Zri:Has P w K mg base "rises" 1 ["costs"] EK)(Zsg:Has P w K mg base "orders_by" 1 ["wanted", "starts"] DF):Aq P w K mg base CX0 2 f fd ["wanted", "terms"] DM:=by
 refine F.go ["wanted", "terms", "costs", "starts", "ways", "each", "day", "amount", "start", "last"] ?_ ?_ ?_;walk_at "f";let⟨a,b,t,s0,p0,n0,rfl,ha,hb,ht,hi,k⟩:=h;have hu:=Ao hr;refine⟨_,(A1 (B4 2 Nd (B7 (A2 A5 A0)))
 (A1 (B4 3 Nd (B7 A0))
 (A1 (B4 4 Nd Ga)
 (A1 (B4 5 Nd Ga)
 (A1 (Bj PassesOwn.never rfl (P9 rfl T.Zt6 (A2 (pv 0) A0)) (Et (n:=2) rfl (Az (Cj 6 Nd) (Az (Cj 7 Nd) Df)))
 (A1 (As (Aj Jx (Ac hu (Ac hu (pv 1) (pv 6)) (Af rfl T.Ztf)) Dn (Ak _)) (A1 (Ep (Ae D4 (Ac hu (pv 2) (pv 6)) (Ac hu (Ac hu (pv 1) (pv 6)) (Af rfl T.Ztf))) (Fq (pv 4) (pv 6) (Dp hu)))
 (A3 (Ep (Ac hu (Ac hu (pv 1) (pv 6)) (Af rfl T.Zsy)) (Fq (pv 5) (pv 6) (Dp hu))))) Ai)
 (A1 (wg (H0:=H) rfl (Bj PassesOwn.never rfl (ny (pv 5)) (Cj 8 Nd)
 (A3 (P8 (pv 4) (pv 8) (Yu hu) (Ae Jw (Ac hu (pv 5) (pv 8)) (pv 7)) Ib (Dp hu)))))
 (A1 (B4 9 Nd (A9 Zto hr.z rfl (A2 (pv 4) (A2 (pv 7) A0))))
 (A1 (Bm (D2 Zyw Zyn Zym Co (pv 3) (A2 (pv 9) A0)))
 (A1 (Bm (D2 Zyw Zyn Zym Co (pv 2) (A2 (Lq (Aj Qr (pv 9) Dn (Ak _)) (Ac hu (pv 2) (pv 6)) (Ac hu (pv 4) (pv 9))) A0)))
 (A3 (Bj PassesOwn.never rfl (Dl (Bf (Rx rfl) rfl T.Zre Wu (A2 (pv 5) A0))) (Cj 8 Nd)
 (A3 (P8 (pv 5) (pv 8) (Yu hu) (Ac hu (Ac hu (pv 1) (pv 6)) (Af rfl T.Zsa)) Ib (Dp hu)))))))))))
 (A3 (Ad (Bo (A2 (Ac hu (pv 2) (Qm Kk A5)) (A2 (A9 Zsg hr.z rfl (A2 (pv 0) (A2 (pv 3) A0))) (A2 (A9 Zri hr.z rfl (A2 (pv 2) A0)) A0))))))))))),?_⟩
 walk_at "rd";refine⟨by decide,λq1 f1=>⟨Zyl _,λq2 f2 q3 f3 q4 f4=>?_⟩⟩;have u1:=A7 (o:=.lst [V.int 0]) f1;have u2:=A7 (o:=.lst []) f2;have u3:=A7 (o:=.dK []) f3;have u4:=A7 (o:=.dK []) f4;have s4:=u1.trans (u2.trans (u3.trans u4));have h1:=u4 _ _ (u3 _ _ (u2 _ _ (AA (H:=H) (a:=q1) (o:=.lst [V.int 0]))));have h2:=u4 _ _ (u3 _ _ (AA (H:=upd H q1 (.lst [V.int 0])) (a:=q2) (o:=.lst [])));have h3:=u4 _ _ (AA (H:=upd (upd H q1 (.lst [V.int 0])) q2 (.lst [])) (a:=q3) (o:=.dK []));have h4:=AA (H:=upd (upd (upd H q1 (.lst [V.int 0])) q2 (.lst [])) q3 (.dK [])) (a:=q4) (o:=.dK []);have n34:q3≠q4:=λz=>by rw[z] at f4;exact absurd (AA.symm.trans f4) (by intro y;cases y)
 have n12:q1≠q2:=λz=>by rw[z] at f2;exact absurd (AA.symm.trans f2) (by intro y;cases y)
 have g2:H q2=none:=AB.free u1 f2;have g3:H q3=none:=AB.free (u1.trans u2) f3;have g4:H q4=none:=AB.free (u1.trans (u2.trans u3)) f4;generalize upd (upd (upd (upd H q1 (.lst [V.int 0])) q2 (.lst [])) q3 (.dK [])) q4 (.dK [])=H4 at s4 h1 h2 h3 h4;refine⟨_,s4 _ _ ha,Rm (g5 a _) (A4t a b q1 q2 q3 q4 H) ⟨_,_,_,_,rfl,s4,h1,h2,λ_=>⟨h3,h4⟩⟩ (λi σ H' _ h=>by let⟨_,_,_,_,_,s,_⟩:=h;exact s _ _ ha) (λi ys q σ H5 hi hy h hq=>?_) (λσ H5 h=>?_)⟩
 ·let⟨o6,o7,o8,o9,rfl,s5,e1,e2,e34⟩:=h;let⟨y,ey,rfl⟩:=hy;have hi:i<1:=hi;obtain rfl:i=0:=by lia
  cases ey;let⟨e3,e4⟩:=e34 rfl;have uq:=A7 (o:=.tup [V.int (0:Nat),V.int 0]) hq;refine gT2 ?_;have s6:=s5.trans uq;have e1:=uq _ _ e1;have e2:=uq _ _ e2;have e3:=uq _ _ e3;have e4:=uq _ _ e4;generalize upd H5 q (.tup [V.int (0:Nat),V.int 0])=H6 at s6 e1 e2 e3 e4;walk_at "rd";have no:∀{X:Hp} {x y:Addr} {u v:HO},X x=some u->X y=some v->u≠v->x≠y:=λh1 h2 h z=>by rw[z,h2] at h1;exact h (Zzm h1).symm
  refine⟨_,An (j:=0) (s6 _ _ hb) rfl,_,Ag (j:=0) (s6 _ _ ht) rfl,?_⟩;rw[GE (by simp)];refine⟨_,An (j:=0) e1 rfl,_,An (j:=0) (s6 _ _ hb) rfl,_,Ag (j:=0) (s6 _ _ ht) rfl,_,rfl,_,rfl,[],nk 0,rfl,e3,by decide,?_⟩;have s7:AB H (upd H6 q3 (.dK (Dx [] (nk 0) (.int (0+s0))))):=λx u e=>by rw[A6 (A8 e g3)];exact s6 _ _ e
  have d1:upd H6 q3 (.dK (Dx [] (nk 0) (.int (0+s0)))) q1=some (.lst [V.int 0]):=by rw[A6 (no e1 e3 (by intro z;cases z))];exact e1
  have d2:upd H6 q3 (.dK (Dx [] (nk 0) (.int (0+s0)))) q2=some (.lst []):=by rw[A6 (no e2 e3 (by intro z;cases z))];exact e2
  have d3:upd H6 q3 (.dK (Dx [] (nk 0) (.int (0+s0)))) q3=some (.dK [(nk 0,V.int (0+s0))]):=AA;have d4:upd H6 q3 (.dK (Dx [] (nk 0) (.int (0+s0)))) q4=some (.dK []):=by rw[A6 (Zza n34)];exact e4
  generalize upd H6 q3 (.dK (Dx [] (nk 0) (.int (0+s0))))=H7 at s7 d1 d2 d3 d4;refine⟨_,An (j:=0) (s7 _ _ hb) rfl,_,Ag (j:=1) (s7 _ _ ht) rfl,[],nk 0,rfl,d4,by decide,_,AA,λob=>?_⟩;rw[show Dx [] (nk 0) (V.int p0)=[(nk 0,V.int p0)] from rfl];have s8:AB H (upd (upd H7 q4 (.dK [(nk 0,V.int p0)])) q4 (.frz ob (.dK [(nk 0,V.int p0)]))):=λx u e=>by rw[A6 (A8 e g4),A6 (A8 e g4)];exact s7 _ _ e
  refine D7 (A0o q4 ob _) (A4v a b q1 q2 q3 q4 ob p0 H o9) ⟨_,0+s0,rfl,s8,?_,?_,?_,AA⟩ (λm σ H' _ h=>by let⟨_,_,_,_,_,_,_,h⟩:=h;exact h) (λm x σ H8 hm hx h=>?_) (λσ H8 h=>?_)
  ·rw[A6 (no d1 d4 (by intro z;cases z)),A6 (no d1 d4 (by intro z;cases z))];exact d1
  ·rw[A6 (no d2 d4 (by intro z;cases z)),A6 (no d2 d4 (by intro z;cases z))];exact d2
  ·rw[A6 n34,A6 n34];exact d3
  ·let⟨x8,ws,rfl,s9,c1,c2,c3,c4⟩:=h;let⟨ky,vv,ekv,rfl⟩:=hx;have hm:m<1:=hm;obtain rfl:m=0:=by lia
   cases ekv;walk_at "rd";refine⟨_,nk 0,rfl,c3,_,rfl,_,yf (.inr ⟨ob,c4⟩) rfl,_,rfl,.inl (.inr ⟨by decide,by decide⟩),_,rfl,_,nk 0,rfl,c3,by show 1<sizeLine;decide,_,ws+p0*0,rfl,λx u e=>by rw[A6 (A8 e g3)];exact s9 _ _ e,?_,?_,AA,?_⟩
   ·rw[A6 (no c1 c3 (by intro z;cases z))];exact c1
   ·rw[A6 (no c2 c3 (by intro z;cases z))];exact c2
   ·rw[A6 (Zza n34)];exact c4
  ·let⟨x8,ws,rfl,s9,c1,c2,c3,c4⟩:=h;refine⟨_,.inr ⟨q4,ob,_,g4,c4,rfl⟩,?_⟩;have sa:AB H (upd H8 q4 (.dK [(nk 0,V.int p0)])):=λx u e=>by rw[A6 (A8 e g4)];exact s9 _ _ e
   have b1:upd H8 q4 (.dK [(nk 0,V.int p0)]) q1=some (.lst [V.int 0]):=by rw[A6 (no c1 c4 (by intro z;cases z))];exact c1
   have b2:upd H8 q4 (.dK [(nk 0,V.int p0)]) q2=some (.lst []):=by rw[A6 (no c2 c4 (by intro z;cases z))];exact c2
   have b4:upd H8 q4 (.dK [(nk 0,V.int p0)]) q4=some (.dK [(nk 0,V.int p0)]):=AA;generalize upd H8 q4 (.dK [(nk 0,V.int p0)])=H9 at sa b1 b2 b4;walk_at "rd";refine⟨q3,rfl,E6 b2,_,b2,by decide,?_⟩;have n21:q1≠q2:=n12;have t1:upd H9 q2 (.lst ([]++[V.non])) q1=some (.lst [V.int 0]):=by rw[A6 n21];exact b1
   refine⟨E6 t1,?_⟩;rw[GE (by simp)];refine⟨_,An (j:=0) t1 rfl,_,t1,by decide,?_⟩;have n42:q4≠q2:=no b4 b2 (by intro z;cases z);have n41:q4≠q1:=no b4 b1 (by intro z;cases z);have sb:AB H (upd (upd H9 q2 (.lst ([]++[V.non]))) q1 (.lst ([V.int 0]++[V.int 0]))):=λx u e=>by rw[A6 (A8 e f1),A6 (A8 e g2)];exact sa _ _ e
   have t2:upd (upd H9 q2 (.lst ([]++[V.non]))) q1 (.lst ([V.int 0]++[V.int 0])) q2=some (.lst [V.non]):=by rw[A6 (Zza n21)];exact AA
   have t3:upd (upd H9 q2 (.lst ([]++[V.non]))) q1 (.lst ([V.int 0]++[V.int 0])) q1=some (.lst [V.int 0,V.int 0]):=AA;have t4:upd (upd H9 q2 (.lst ([]++[V.non]))) q1 (.lst ([V.int 0]++[V.int 0])) q4=some (.dK [(nk 0,V.int p0)]):=by rw[A6 n41,A6 n42];exact b4
   generalize upd (upd H9 q2 (.lst ([]++[V.non]))) q1 (.lst ([V.int 0]++[V.int 0]))=Ha at sb t2 t3 t4;refine⟨_,.inl t4,by show 1<=1000;decide,λl hl=>⟨_,AA,?_⟩⟩;have ul:=A7 (o:=.lst (Zy6 (λp=>kV p.fst) [(nk 0,V.int p0)])) hl;refine D7 (Ec l _) (A4u a b q1 q2 q3 q4 l H) ⟨_,p0,rfl,sb.trans ul,ul _ _ t3,ul _ _ t2,ul _ _ t4,AA⟩ (λm σ H' _ h=>by let⟨_,_,_,_,_,_,_,h⟩:=h;exact h) (λm x σ Hb hm hx h=>?_) (λσ Hb h=>?_)
   ·let⟨y8,wv,rfl,sc,r1,r2,r4,rl⟩:=h;have hm:m<1:=hm;obtain rfl:m=0:=by lia
    cases hx;walk_at "rd";have n4:∀{x:Addr} {u:HO},Hb x=some u->(∀z,u≠.dK z)->x≠q4:=λe z y=>by rw[y,r4] at e;exact z _ (Zzm e).symm
    refine⟨_,nk 0,rfl,r4,_,rfl,_,An (j:=0) (sc _ _ hb) rfl,_,Ag (j:=2) (sc _ _ ht) rfl,_,rfl,_,rfl,_,nk 0,rfl,r4,by show 1<sizeLine;decide,_,wv+n0,rfl,λx u e=>by rw[A6 (A8 e g4)];exact sc _ _ e,?_,?_,AA,?_⟩
    ·rw[A6 (n4 r1 λz y=>by cases y)];exact r1
    ·rw[A6 (n4 r2 λz y=>by cases y)];exact r2
    ·rw[A6 (n4 rl λz y=>by cases y)];exact rl
   ·let⟨y8,wv,rfl,sc,r1,r2,r4,rl⟩:=h;exact⟨_,_,_,_,rfl,sc,r1,r2,λz=>by cases z⟩
 ·let⟨o6,o7,o8,o9,rfl,s5,e1,e2,e34⟩:=h;walk_at "rd";refine⟨.int 0,.inl ⟨q1,_,-1,rfl,rfl,.inl e1,rfl⟩,a,q2,rfl,s5 _ _ ha,e2,λl H6 hl s6=>⟨q1,rfl,s6 _ _ e1,λl' H7 s7=>⟨by decide,λr hr'=>?_⟩⟩⟩;have u:=A7 (o:=.tup [.int 0,.ref l,.ref l']) hr';exact k r l l' _ AA (u _ _ (s7 _ _ hl)) (s5.trans (s6.trans (s7.trans u)))
end
section
variable {dk:Dk}{c:Cl}
inductive CU (vs:List V) (H:Hp) (Q:VK) (E:XK):Prop | mk (b t:Addr) (s p n:Int) (_:vs=[.ref b,.int 0]) (_:H b=some (.lst [.ref t])) (_:H t=some (.tup [.int s,.int p,.int n])) (_:∀l t' H',H' l=some (.lst [.ref t'])->H' t'=some (.tup [.int s,.int p,.int n])->AB H H'->Q (.ref l) H')
inductive A4k (b p:Addr) (s0 p0 n0:Int) (H:Hp) (i:Nat) (σ:St) (H':Hp):Prop | mk (vs:List V) (o1 o2 o3:Option V) (_:σ=[some (.ref b),some (.int 0),some (.ref p),o1,o2,o3]) (_:AB H H') (_:H' p=some (.lst vs)) (_:(i=0->vs=[])) (_:(i=1->∃t',vs=[.ref t']/\H' t'=some (.tup [.int s0,.int p0,.int n0])))
theorem S7(F:Fun K "terms_from" "terms_from" Le f fd)(T:Txt mg)(C:Exc K mg c):Aq P w K mg base CX0 1 f fd ["terms", "first"] CU:=by
 refine F.go ["terms", "first", "told", "day", "term", "setup"] ?_ ?_ ?_;walk_at "f";let⟨b,t,s0,p0,n0,rfl,hb,ht,k⟩:=h;have hu:=Ao hr;refine⟨_,(A1 (B4 2 Nd (B7 A0))
 (A1 (Bj PassesOwn.never rfl (P9 rfl T.Zt6 (A2 (pv 0) A0)) (Et (n:=2) rfl (Az (Cj 3 Nd) (Az (Cj 4 Nd) Df)))
 (A1 (B4 5 Nd (Lq (Aj Xv (pv 3) (pv 1) (Ak _)) (Ac hu (pv 4) (Af rfl T.Ztf)) Dn))
 (A3 (Bm (D2 Zyw Zyn Zym Co (pv 2) (A2 (Bo (A2 (pv 5) (A2 (Ac hu (pv 4) (Af rfl T.Zsy)) (A2 (Ac hu (pv 4) (Af rfl T.Zsa)) A0)))) A0))))))
 (A3 (Ad (pv 2))))),?_⟩
 walk_at "rd";refine⟨by decide,λp hp=>⟨_,by rw[A6 (A8 hb hp)];exact hb,?_⟩⟩;have u:=A7 (o:=.lst []) hp;refine Rm (g5 b _) (A4k b p s0 p0 n0 H) ⟨[],_,_,_,rfl,u,AA,λ_=>rfl,λz=>by cases z⟩ (λi σ H' _ h=>by let⟨_,_,_,_,_,s,_⟩:=h;exact s _ _ hb) (λi ys q σ H1 hi hy h hq=>?_) (λσ H1 h=>?_)
 ·let⟨vs,o1,o2,o3,rfl,s1,e1,e2,_⟩:=h;let⟨y,ey,rfl⟩:=hy;have hi:i<1:=hi;obtain rfl:i=0:=by lia
  cases ey;cases e2 rfl;have uq:=A7 (o:=.tup [V.int (0:Nat),V.ref t]) hq;refine gT2 ?_;have s2:=s1.trans uq;have e1:=uq _ _ e1;generalize upd H1 q (.tup [V.int (0:Nat),V.ref t])=H2 at s2 e1;walk_at "rd";rw[GE (by decide)];refine⟨_,Ag (j:=0) (s2 _ _ ht) rfl,E6 e1,_,Ag (j:=1) (s2 _ _ ht) rfl,_,Ag (j:=2) (s2 _ _ ht) rfl,by decide,λr hr'=>⟨_,A7 hr' _ _ e1,by decide,[.ref r],_,_,_,rfl,λx o e=>?_,AA,(λz=>by cases z),λ_=>⟨r,rfl,?_⟩⟩⟩
  ·rw[A6 (A8 e hp)];exact A7 hr' _ _ (s2 _ _ e)
  ·rw[A6 (Zza (A8 e1 hr'))];exact AA
 ·let⟨vs,o1,o2,o3,rfl,s1,e1,_,e2⟩:=h;let⟨t',rfl,h'⟩:=e2 rfl;walk_at "rd";exact k p t' H1 e1 h' s1
inductive BtW (S:Sh) (w:Wr):Option Ek->Prop
 |buy (h:w.parts≠[]):BtW S w (some .buy)
 |plan (h:w.parts=[]) (n:¬ Bn S):BtW S w (some .plan)
 |non (h:w.parts=[]) (n:Bn S) (l:w.lag=0) (r:LR S w.name=[0]):BtW S w none
def Tp(c:Cl)(Pt:Addr):Sp:=λvs H Q E=>∃(v:V) (S:Sh) (w:Wr) (b t:Addr) (s p n:Int) (r:Option Ek),vs=[v,.str w.name,.ref b]/\RD H S.d v/\AF 11 S/\w∈S.wares/\(H b=some (.lst [.ref t])\/r≠none)/\H t=some (.tup [.int s,.int p,.int n])/\(∀i∈[s,p,n],0<=i/\i<10^60)/\Tb H Pt/\BtW S w r/\(∀e,r=some e->∀H',Tb H' Pt->But Pt H H'->E (.ref (c.ek e)) none H')/\∀x o v H',r=none->H' x=some (.tup [.int 0,.ref o,.ref v])->H' o=some (.lst [.int 0])->Tb H' Pt->But Pt H H'->Q (.ref x) H'
theorem DG:Bu ["shop", "name", "terms", "ware", "wanted"] ["shop", "name", "terms"] (Ap Q9):=by walk_at "sc"
theorem iq(F:Fun K "bought" "bought" Q9 f fd)(T:Txt mg)(C:Exc K mg c)(Zuq:Eh P w K mg base "check_rings" 4 ["shop"] (Bv c))(Zun:Eh P w K mg base "ware_of" 1 ["shop", "name"] (Dw c))(Ztq:Eh P w K mg base "plan_of" 8 ["shop"] (Km c Pt))(Zs5:Has P w K mg base "cheapest" 2 ["wanted", "terms"] DM)(Zst:Has P w K mg base "terms_from" 1 ["terms", "first"] CU):Aq P w K mg base (CXE P w) 9 f fd ["shop", "name", "terms"] (Tp c Pt):=by
 refine F.okX DG (λvs H Q E h=>?_) (λcdv A outer s H vs Q E hr h=>?_)
 ·let⟨v,S,w,b,t,s,p,n,r,rfl,_⟩:=h;rfl
 ·let⟨v,S,w,b,t,s0,p0,n0,r,rfl,rs,g,hw,hb,ht,hi,tb,bw,ke,k⟩:=h;have hu:=Ao hr;refine⟨_,(A1 (Bm (B0 Zuq Fc hr.z rfl (A2 (pv 0) A0)))
 (A1 (N0 (i:=3) DG.nd rfl (Or.inr rfl) (B0 Zun Fc hr.z rfl (A2 (pv 0) (A2 (pv 1) A0))))
 (A1 (As (we (Ac hu (pv 3) (Af rfl T.Ztk))) (A3 (Cb Gn rfl rfl C.Zr5 (C.ex .buy).1 (A2 (Vb (Zx (pv 1) (Va V9))) A0))) Ai)
 (A1 (Dy (own:=["lots"]) (cap:=[3]) (i:=4) rfl (Cf rfl) (Av (by decide)) DG.nd rfl rfl (G9 (Ac hu (B0 Ztq Fc hr.z rfl (A2 (pv 0) A0)) (pv 1)))
 (λ_ _ _ _ _ _=>⟨(Ax (i:=0) (GA rfl) rfl (Zyr rfl) (.inr rfl)),Bi,(Ae Jw (pv 0) (Ac hu (pv 1) (Af rfl T.Ztn)))⟩))
 (A3 (Ad (A9 Zs5 hr.z rfl (A2 (pv 4) (A2 (A9 Zst hr.z rfl (A2 (pv 2) (A2 (Ac hu (pv 3) (Af rfl T.Zt5)) A0))) A0))))))))),?_⟩
  walk_at "rd";have hnm:w.name∈S.wares.map (·.name):=Zzt.mpr ⟨w,hw,rfl⟩;have nl:∀w∈S.wares,w.name.length<=800:=λw hw=>Zzp (Be (g.sd.nm w hw)) (by decide);refine⟨v,S,rfl,rs,g.ok,.inl ⟨g.no,λH1 s1=>?_⟩⟩;have rs1:=RD.same s1 _ _ rs;refine⟨v,S,w.name,rfl,rs1,g.ok,.inl ⟨hnm,λx w' hw' ew rx=>?_⟩⟩;cases X4 g.ws.nd hw' hw ew;let⟨te,c1,c2,rfl,hte,_,rpp⟩:=Ck rx;let⟨c2,pv,rfl,hpv,rpv⟩:=RD.tup_of rpp;have hpl:=B8 rpv;refine⟨_,Ag (j:=6) hte rfl,c2,rfl,pv,hpv,Do (λhne=>?_) (λhne=>?_)⟩
  ·have hp:w.parts≠[]:=λz=>by
    rw[z] at hpl;rw[List.eq_nil_of_length_eq_zero hpl] at hne;exact absurd hne (by decide)
   have l17:(Str.ofString " is made of parts").length=17:=by decide +kernel
   have nw:=nl w hw;cases bw with
   |buy _=>exact⟨by lia,by lia,by lia,λ_=>⟨by decide,ke _ rfl H1 (tb.same s1) (Bc s1)⟩⟩
   |plan z _=>exact absurd z hp
   |non z _ _ _=>exact absurd z hp
  have hp:w.parts=[]:=by
   cases e:w.parts with
   |nil=>rfl
   |cons a r =>
    rw[e] at hpl;cases pv with
    |nil=>cases hpl
    |cons _ _=>exact absurd rfl hne
  refine⟨_,S,11,rfl,rs1,g,by decide,by decide,nl,tb.same s1,λhs H2 tb2 b2=>?_,λhs p H2 pl tb2 b2=>?_⟩
  ·cases bw with
   |buy z=>exact absurd hp z
   |plan _ _=>exact ke _ rfl H2 tb2 ((Bc s1).trans b2)
   |non _ n _ _=>let⟨u,hu',z⟩:=hs;exact absurd (n u hu') z
  cases bw with
  |buy z=>exact absurd hp z
  |plan _ n=>exact absurd hs n
  |non _ n hlag hrow =>
   let⟨kvs,hk,hrows⟩:=pl;let⟨l,e1,e2,e3,e4⟩:=hrows w.name hnm;rw[hrow] at e2;have b02:=(Bc s1).trans b2;have hte2:=Nw (tb.same s1) b2 _ _ hte;refine⟨_,Hc hk e1,.inl ⟨l,rfl,_,e2,?_⟩⟩;refine By (Ec l _) (by show 1<=sizeLine;decide) (λH' s'=>s' _ _ e2) [.int 0] rfl (λi x H' hi hx s' N M hN=>?_) (λH' s' q hq=>?_)
   ·have hi:i<1:=hi
    obtain rfl:i=0:=by lia
    cases hx;walk_at "rd";refine⟨_,Ag (j:=2) (s' _ _ hte2) rfl,_,rfl,.inl (.inl ⟨by decide,by decide⟩),?_⟩;rw[Int.zero_mul];exact hN _ _ s' rfl
   ·have u3:=A7 (o:=.lst [.int 0]) hq
    have hq3:upd H' q (.lst [.int 0]) q=some (.lst [.int 0]):=AA;have s3:=s'.trans u3;generalize upd H' q (.lst [.int 0])=H3 at hq3 s3;have hb:=hb.resolve_right λz=>z rfl;have keep:∀{x:Addr} {u:HO},H x=some u->(∀z,u≠.tbl z)->H3 x=some u:=λ{x u} e z=>s3 _ _ (b02 _ _ (Im tb e z) e);refine⟨_,Ag (j:=1) (s3 _ _ hte2) rfl,b,t,s0,p0,n0,by rw[hlag],keep hb (λz y=>by cases y),keep ht (λz y=>by cases y),λl' t' H4 h1 h2 s4=>⟨q,l',t',s0,p0,n0,rfl,s4 _ _ hq3,h1,h2,hi,λx o v H5 hx ho s5=>?_⟩⟩;have s35:=s3.trans (s4.trans s5);exact k x o v H5 rfl hx ho (tb2.same s35) (b02.trans (Bc s35))
end
section
variable {dk:Dk}{c:Cl}
theorem mh:gq (.inl 0):=⟨Zz5 _,by decide +kernel⟩
theorem row0:Ry [0]:=⟨by decide,λi=>by
 match i with
 |0=>exact mh
 |i+1=>exact mh⟩
def EE:Sp:=λ_ _ _ _=>False
theorem io(F:Fun K "serves" "serves" Xj f fd)(T:Txt mg)(C:Exc K mg c):Aq P w K mg base CX0 1 f fd ["shop", "plan", "name", "day"] EE:=by
 refine F.go ["shop", "plan", "name", "day", "served", "met", "supply", "need", "amount", "numbers"] ?_ ?_ ?_;walk_at "f";exact h.elim
def Ip(c:Cl)(Pt:Addr):Sp:=λvs H Q E=>∃(v:V) (S:Sh) (w:Wr) (t:Addr) (s p n:Int) (r:Option Ek),vs=[v,.str w.name,.ref t]/\RD H S.d v/\AF 11 S/\w∈S.wares/\H t=some (.tup [.int s,.int p,.int n])/\(∀i∈[s,p,n],0<=i/\i<10^60)/\Tb H Pt/\BtW S w r/\(∀e,r=some e->∀H',Tb H' Pt->But Pt H H'->E (.ref (c.ek e)) none H')/\∀H',r=none->Tb H' Pt->But Pt H H'->Q (.str "0") H'
theorem CL:Bu ["shop", "name", "term", "found"] ["shop", "name", "term"] (Ap G8):=by walk_at "sc"
theorem Ox(F:Fun K "shown_orders" "shown_orders" G8 f fd)(T:Txt mg)(C:Exc K mg c)(Zrt:Eh P w K mg base "bought" 9 ["shop", "name", "terms"] (Tp c Pt))(Zrx:Has P w K mg base "days_of" 5 ["shop"] DY)(Zuk:Has P w K mg base "shown_words" 1 ["words"] BD)(Ztt:Has P w K mg base "days_with" 1 ["row"] CB):Aq P w K mg base (CXE P w) 10 f fd ["shop", "name", "term"] (Ip c Pt):=by
 refine F.okX CL (λvs H Q E h=>?_) (λcdv A outer s H vs Q E hr h=>?_)
 ·let⟨v,S,w,t,s,p,n,r,rfl,_⟩:=h;rfl
 ·let⟨v,S,w,t,s0,p0,n0,r,rfl,rs,g,hw,ht,hi,tb,bw,ke,k⟩:=h;have hu:=Ao hr;refine⟨_,(A1 (B4 3 CL.nd (B0 Zrt Fc hr.z rfl (A2 (pv 0) (A2 (pv 1) (A2 (Ae Qq (B7 (A2 (pv 2) A0)) (A9 Zrx hr.z rfl (A2 (pv 0) A0))) A0)))))
 (A3 (Ad (A9 Zuk hr.z rfl (A2 (Ae Hz (B7 (A2 (Ac hu (pv 3) A5) A0)) (A9 Ztt hr.z rfl (A2 (Ac hu (pv 3) A5) A0))) A0))))),?_⟩
  walk_at "rd";let⟨n1,n2,n3,n4⟩:=g.days (by decide) (by decide);refine⟨by decide,λp hp=>?_⟩;have u1:=A7 (o:=.lst [.ref t]) hp;refine⟨v,S,11,rfl,RD.same u1 _ _ rs,g,by decide,by decide,λH2 s2=>⟨_,rfl,_,s2 _ _ AA,by lia,by lia,?_,λb hb=>?_⟩⟩
  ·rw[Zwy,Zxu];exact Zzp (m:=1000) (by lia) (by decide)
  have u2:=A7 (o:=.lst (Zz4 (((AD S:Nat):Int)).toNat [V.ref t]).flatten) hb;have s3:=u1.trans (s2.trans u2);refine⟨v,S,w,b,t,s0,p0,n0,r,rfl,RD.same s3 _ _ rs,g,hw,?_,s3 _ _ ht,hi,tb.same s3,bw,λe he H' t' b'=>ke e he H' t' ((Bc s3).trans b'),λx o v' H4 hr' hx ho t4 b4=>?_⟩
  ·cases bw with
   |buy _=>exact .inr (by intro z;cases z)
   |plan _ _=>exact .inr (by intro z;cases z)
   |non _ _ _ hrow =>
    have:=Js (Eb g).toLev hw;rw[hrow] at this;rw[<- this] at *;exact .inl AA
  refine⟨_,Ag (j:=0) hx rfl,by decide,λp5 hp5=>?_⟩;have u5:=A7 (o:=.lst [.int 0]) hp5;refine⟨_,Ag (j:=1) (u5 _ _ hx) rfl,o,[0],rfl,u5 _ _ ho,row0,λp6 H6 f6 h6 s6=>⟨p6,rfl,_,s6 _ _ AA,_,h6,by decide,λp7 hp7=>?_⟩⟩;have u7:=A7 (o:=.lst ([V.int 0]++(Fw [0] [(0:Int)].length).map V.str)) hp7;have s57:=u5.trans (s6.trans u7);refine⟨p7,[.inl 0],rfl,AA,by decide,λkk hk=>by rw[Zzh.mp hk];exact mh,λH8 s8=>?_⟩;have e:Str.join (one 32) ([(.inl 0:Key)].map AJ) = "0" := by decide +kernel
  rw[e];have s58:=s57.trans s8;exact k H8 hr' (t4.same s58) ((Bc s3).trans (b4.trans (Bc s58)))
def Uz(S:Sh)(w:Wr):Str:=Str.join (one 32) ((G5 S (LR S) w).map Ba)
inductive AY (S:Sh):Str->List Key->Option Ek->(Str->Prop)->Prop
 |plan:AY S "plan" [] none (Hr S)
 |late (h:Bn (noS S)):AY S "late" [] none (λy=>∃n,S0 S n/\y=Ba n)
 |most {nm:Str} {d:Int} (hm:nm∈S.wares.map (·.name)) (n:¬ Bn S):AY S "most" [.inr nm,.inl d] none (· = "none")
 |stockX {w:Wr} (hw:w∈S.wares) (n:¬ Bn S):AY S "stock" [.inr w.name] (some .plan) (λ_=>False)
 |stock {w:Wr} (hw:w∈S.wares) (n:Bn S) (b:∀x∈G5 S (LR S) w,0<=x/\x<10^577):AY S "stock" [.inr w.name] none (·=Uz S w)
 |servesX {nm:Str} {d:Int} (n:¬ Bn S):AY S "serves" [.inr nm,.inl d] (some .plan) (λ_=>False)
 |buy {w:Wr} {s p n:Int} {r:Option Ek} (hw:w∈S.wares) (b:∀i∈[s,p,n],0<=i/\i<10^60) (h:BtW S w r):AY S "buy" [.inr w.name,.inl s,.inl p,.inl n] r (· = "0")
noncomputable def Tq(c:Cl)(Pt:Addr):Sp:=λvs H Q E=>∃(v:V) (S:Sh) (x:Str) (ks:List Key) (a:Addr) (r:Option Ek) (P:Str->Prop),vs=[v,.str x,.ref a]/\RD H S.d v/\AF 11 S/\Tb H Pt/\H a=some (.lst (ks.map kV))/\AY S x ks r P/\(∀e,r=some e->∀H',Tb H' Pt->But Pt H H'->E (.ref (c.ek e)) none H')/\∀y H',r=none->P y->Tb H' Pt->But Pt H H'->Q (.str y) H'
theorem EF:Bu ["shop", "first", "members", "days"] ["shop", "first", "members"] (Ap Qa):=by walk_at "sc"
theorem ir(F:Fun K "answer" "answer" Qa f fd)(T:Txt mg)(C:Exc K mg c)(Zss:Has P w K mg base "shown_plan" 8 ["shop"] (Kc Pt))(Zr9:Has P w K mg base "late" 9 ["shop"] (df Pt))(Zr8:Has P w K mg base "most" 9 ["shop", "name", "day"] (dc Pt))(Zuk:Has P w K mg base "shown_words" 1 ["words"] BD)(Zrs:Has P w K mg base "stocks" 5 ["shop", "plan", "name"] ED)(Ztq:Eh P w K mg base "plan_of" 8 ["shop"] (Km c Pt))(Zrr:Has P w K mg base "serves" 1 ["shop", "plan", "name", "day"] EE)(Zt9:Eh P w K mg base "shown_orders" 10 ["shop", "name", "term"] (Ip c Pt)):Aq P w K mg base (CXE P w) 11 f fd ["shop", "first", "members"] (Tq c Pt):=by
 refine F.okX EF (λvs H Q E h=>?_) (λcdv A outer s H vs Q E hr h=>?_)
 ·let⟨v,S,x,ks,a,r,P,rfl,_⟩:=h;rfl
 ·let⟨v,S,x,ks,a,r,P,rfl,rs,g,tb,ha,an,ke,k⟩:=h;have hu:=Ao hr;refine⟨_,(A1 (As (Aj (Bd hu) (pv 1) Aa (Ak _)) (A3 (Ad (A9 Zss hr.z rfl (A2 (pv 0) A0)))) Ai)
 (A1 (As (Aj (Bd hu) (pv 1) Aa (Ak _)) (A1 (B4 3 EF.nd (A9 Zr9 hr.z rfl (A2 (pv 0) A0)))
 (A3 (Ad (Lq (Aj Qr (pv 3) Dn (Ak _)) Aa (Bf Nq rfl T.Zt1 Ii (A2 (pv 3) A0)))))) Ai)
 (A1 (As (Aj (Bd hu) (pv 1) Aa (Ak _)) (A3 (Ad (Bf Uo rfl T.Zt1 Ii (A2 (Ac hu (A9 Zr8 hr.z rfl (A2 (pv 0) (A2 (Ac hu (pv 2) A5) (A2 (Ac hu (pv 2) A5) A0)))) (Qm Kk A5)) A0)))) Ai)
 (A1 (As (Aj (Bd hu) (pv 1) Aa (Ak _)) (A3 (Ad (A9 Zuk hr.z rfl (A2 (A9 Zrs hr.z rfl (A2 (pv 0) (A2 (B0 Ztq Fc hr.z rfl (A2 (pv 0) A0)) (A2 (Ac hu (pv 2) A5) A0)))) A0)))) Ai)
 (A1 (As (Aj (Bd hu) (pv 1) Aa (Ak _)) (A3 (Ad (A9 Zuk hr.z rfl (A2 (A9 Zrr hr.z rfl (A2 (pv 0) (A2 (B0 Ztq Fc hr.z rfl (A2 (pv 0) A0)) (A2 (Ac hu (pv 2) A5) (A2 (Ac hu (pv 2) A5) A0))))) A0)))) Ai)
 (A3 (Ad (B0 Zt9 Fc hr.z rfl (A2 (pv 0) (A2 (Ac hu (pv 2) A5) (A2 (Bf Cg rfl T.Ztw Ds (A2 (C5 Ez (pv 2) (Cc A5) Db) A0)) A0))))))))))),?_⟩
  have nl:∀w∈S.wares,w.name.length<=800:=λw hw=>Zzp (Be (g.sd.nm w hw)) (by decide);have no:∀{x y:Str} {a b:Prop},¬ x=y->b->if decide (x=y)=true then a else b:=λh z=>by rw[GD λe=>h (GA e)];exact z
  have ys:∀{x:Str} {a b:Prop},a->if decide (x=x)=true then a else b:=λz=>by rw[GE (GB rfl)];exact z
  walk_at "rd";cases an with
  |plan=>exact⟨rfl,ys ⟨v,S,11,rfl,rs,g,by decide,by decide,tb,λy H' h t b=>k y H' rfl h t b⟩⟩
  |late h0 =>
   refine⟨rfl,no (by decide +kernel) ⟨rfl,ys ⟨v,S,11,rfl,rs,g,by decide,by decide,tb,λH1 hno _ _=>absurd h0 hno,λn H1 hn t1 b1=>?_⟩⟩⟩;show (if decide (V.int n=V.non)=true then _ else _);rw[GD λz=>by cases GA z];have n577:0<=n/\n<10^577:=by
    let⟨n0,_,_,_,w,hw,h4⟩:=hn;have hl:∀w∈S.wares,0<=w.lag/\w.lag<=30:=λw hw=>(g.ws.wb w hw).lag;have m360:=Zl hl S.wares.length w.name;have:=g.len;have h5:tm S w.name<=360:=by unfold tm;lia
    exact⟨n0,Zx3 (b:=360) (by lia) (by decide +kernel)⟩
   exact⟨n,rfl,N7 n577,k _ H1 rfl ⟨n,hn,rfl⟩ t1 b1⟩
  |most hm n =>
   refine⟨rfl,no (by decide +kernel) ⟨rfl,no (by decide +kernel) ⟨rfl,ys ?_⟩⟩⟩;exact⟨_,An (j:=0) ha rfl,_,An (j:=1) ha rfl,v,S,_,_,rfl,rs,g,hm,tb,n,λt H1 ht t1 b1=>⟨.str "none",.inl ⟨t,_,-1,rfl,rfl,.inr ht,rfl⟩,.inr ⟨_,rfl,k _ H1 rfl rfl t1 b1⟩⟩⟩
  |stockX hw n =>
   refine⟨rfl,no (by decide +kernel) ⟨rfl,no (by decide +kernel) ⟨rfl,no (by decide +kernel) ⟨rfl,ys ?_⟩⟩⟩⟩;exact⟨v,S,11,rfl,rs,g,by decide,by decide,nl,tb,λ_ H1 t1 b1=>ke _ rfl H1 t1 b1,λz=>absurd z n⟩
  |stock hw n b =>
   refine⟨rfl,no (by decide +kernel) ⟨rfl,no (by decide +kernel) ⟨rfl,no (by decide +kernel) ⟨rfl,ys ?_⟩⟩⟩⟩;refine⟨v,S,11,rfl,rs,g,by decide,by decide,nl,tb,λz0=>by let⟨w,hw,z⟩:=z0;exact absurd (n w hw) z,λ_ p H1 pl t1 b1=>?_⟩;have ha1:=b1 _ _ (Im tb ha λu z=>by cases z) ha;refine⟨_,An (j:=0) ha1 rfl,v,p,S,LR S,_,11,rfl,RD.ku (Nw tb b1) _ _ (Fz S) rs,pl,hw,g,by decide,by decide,λq H2 _ hq s2=>⟨q,(G5 S (LR S) _).map Zwu,rfl,by rw[hq,Zyq];rfl,?_,λkk hk=>?_,λH3 s3=>?_⟩⟩
   ·rw[Zzz,G5,Au];exact(g.days (by decide) (by decide)).2.1
   ·let⟨x,hx,rfl⟩:=Zzt.mp hk;exact b x hx
   ·have s23:=s2.trans s3
    refine k _ H3 rfl ?_ (t1.same s23) (b1.trans (Bc s23));unfold Uz;rw[Zyq];rfl
  |servesX n =>
   refine⟨rfl,no (by decide +kernel) ⟨rfl,no (by decide +kernel) ⟨rfl,no (by decide +kernel) ⟨rfl,no (by decide +kernel) ⟨rfl,ys ?_⟩⟩⟩⟩⟩;exact⟨v,S,11,rfl,rs,g,by decide,by decide,nl,tb,λ_ H1 t1 b1=>ke _ rfl H1 t1 b1,λz=>absurd z n⟩
  |@buy wr s1 p1 n1 r hw b h =>
   refine⟨rfl,no (by decide +kernel) ⟨rfl,no (by decide +kernel) ⟨rfl,no (by decide +kernel) ⟨rfl,no (by decide +kernel) ⟨rfl,no (by decide +kernel) ?_⟩⟩⟩⟩⟩;refine⟨_,An (j:=0) ha rfl,_,ha,λp hp=>⟨_,.inl ⟨AA,λl hl=>?_⟩⟩⟩;have s2:=(A7 hp).trans (A7 (o:=.tup (Fk (Zy6 kV [Zyd wr.name,Zwu s1,Zwu p1,Zwu n1]) (some 1) none)) hl);exact⟨v,S,_,l,_,_,_,_,rfl,RD.same s2 _ _ rs,g,hw,AA,b,tb.same s2,h,λe he H' t' b'=>ke e he H' t' ((Bc s2).trans b'),λH' hr' t' b'=>k _ H' hr' rfl t' ((Bc s2).trans b')⟩
end
section
variable {dk:Dk}{c:Cl}
def Kp(dk:Dk)(H:Hp)(x:Addr)(v:V):Prop:=∃dx,H x=some (.ins dk.C dx [("kept",v)])
def AV(dk:Dk)(H:Hp)(x:Addr):Option Sh->Prop
 |none=>Kp dk H x .non
 |some S=>∃v,Kp dk H x v/\RD H S.d v/\AF 11 S
inductive Ke (dk:Dk) (vs:List V) (H:Hp) (Q:VK) (E:XK):Prop | mk (x dx:Addr) (_:vs=[.ref x]) (_:H x=some (.ins dk.C dx [])) (_:Q .non (upd H x (.ins dk.C dx [("kept",.non)])))
theorem Sj(F:Fun K "__init__" "Desk.__init__" E7 f fd)(T:Txt mg)(De:Dsk K mg dk)(C:Exc K mg c):Aq P w K mg base CX0 1 f fd ["self"] (Ke dk):=by
 refine F.go ["self"] ?_ ?_ ?_;walk_at "f";let⟨x,dx,rfl,hx,k⟩:=h;refine⟨_,(A3 (V6 (pv 0) Dn rfl)),?_⟩;walk_at "rd";exact⟨_,dx,_,hx,De.c,De.nk,by decide,k⟩
def Qn.text(q:Qn):Str:=Str.join (one 32) (q.first::q.keys.map AJ)
def Qn.dueO(q:Qn):Option Sh->Option Ek
 |none=>some .shop
 |some S=>q.due S
theorem Nj:∀{ks:List Key} {fs:List Str},Fit ks fs->∀k∈ks,Il k
 |_,_,.nil,_,h=>by cases h
 |_,_,.name h r,k,hk=>by
  rcases Zzw.mp hk with rfl | hk
  ·exact h
  ·exact Nj r k hk
 |_,_,.num _ h0 h1 r,k,hk=>by
  rcases Zzw.mp hk with rfl | hk
  ·exact⟨h0,h1⟩
  ·exact Nj r k hk
theorem K2:∀f∈BJ,32∉f.1.cps.toList/\f.1.length<=60/\f.2.length<=4/\f.1.cps.toList[1]?≠none/\f.1.cps.toList[1]?≠some 104:=by decide +kernel
theorem pk{t:Str}(h:t.cps.toList[1]?=some n)(ne:n≠104):Txt.startswith t "shop\n" = false:=by
 by_cases z:Txt.startswith t "shop\n" = true
 ·unfold Txt.startswith at z;rw[Zz1,StrLaws.subAt_eq,List.drop_zero] at z;have e:=eq_of_beq z.2;have:(t.cps.toList.take ("shop\n" : Str).length)[1]?=some 104:=by rw[e];decide +kernel
  rw[Zvy (by decide),h] at this;exact absurd (Zzm this) ne
 ·cases e:Txt.startswith t "shop\n" with
  |false=>rfl
  |true=>exact absurd e z
theorem r9{sep:Str}:∀r:List Str,∃y,Str.join sep (x::r)=x++y
 |[]=>⟨Str.empty,by rw[Str.append_empty];rfl⟩
 |z::r=>⟨sep++Str.join sep (z::r),by rw[<- Str.append_assoc];rfl⟩
theorem To{fs:List Str}(h:(x,fs)∈BJ):Txt.startswith (Str.join (one 32) (x::ws)) "shop\n" = false:=by
 let⟨_,_,_,h4,h5⟩:=K2 _ h;let⟨y,ey⟩:=r9 (sep:=one 32) (x:=x) ws;cases e:x.cps.toList[1]? with
 |none=>exact absurd e h4
 |some n =>
 rw[ey];refine pk (n:=n) ?_ λz=>h5 (by rw[<- z];exact e);rw[Zwv,Zxw (Zzf.mp e).1];exact e
theorem wc(q:Qn):Txt.split q.text (one 32)=q.first::q.keys.map AJ/\q.text.length<=1000/\(q.keys.map AJ).length<=100:=by
 let⟨f1,f2,f3,_⟩:=K2 _ q.isf;have f3:q.form.length<=4:=f3;have ck:=Nj q.fit;have fl:=Mg q.fit;refine⟨En (by decide) (by simp) λx hx=>?_,?_,by rw[Zzz];lia⟩
 ·rcases Zzw.mp hx with rfl | hx
  ·exact f1
  ·let⟨k,hk,rfl⟩:=Zzt.mp hx;exact(Gq (ck k hk)).1.1
 ·have:=Gd (sep:=one 32) (B:=60) (xs:=q.first::q.keys.map AJ) λx hx=>by
   rcases Zzw.mp hx with rfl | hx
   ·exact f2
   ·let⟨k,hk,rfl⟩:=Zzt.mp hx;exact(Gq (ck k hk)).2
  rw[Zyz,Zzz,show (one 32).length=1 from rfl] at this;show (Str.join (one 32) (q.first::q.keys.map AJ)).length<=1000;lia
theorem ug{s:Str}{n:Int}(hs:s ≠ "name")(h:Il (.inl n)):Fm s (Ba n)=true/\Ee s (Ba n)=.inl n/\(if s = "name" then Al (Ba n)=true\/Ba n = "A" else 1<=(Ba n).length/\(Ba n).length<=60):=by
 let⟨h1,h2,h3,h4⟩:=P5 h.1 h.2;unfold Fm Ee;rw[GD hs,GD hs,GD hs];exact⟨h1,congrArg Zwu (by show (Zxq (Ba n)).getD 0=n;rw[show Zxq (Ba n)=some n from h2];rfl),h3,h4⟩
theorem Wm:∀{ks:List Key} {fs:List Str},Fit ks fs->(∀z∈(ks.map AJ).zip fs,Fm z.2 z.1=true/\(if z.2 = "name" then Al z.1=true\/z.1 = "A" else 1<=z.1.length/\z.1.length<=60))/\Go (ks.map AJ) fs=ks
 |_,_,.nil=>⟨(λz hz=>by cases hz),rfl⟩
 |_,_,.name (nm:=nm) h r=>by
  let⟨i1,i2⟩:=Wm r;refine⟨λz hz=>?_,?_⟩
  ·rcases Zzw.mp hz with rfl | hz
   ·exact⟨(GE rfl).trans h,by show (if ("name" : Str) = "name" then _ else _);rw[GE rfl];exact .inl h⟩
   ·exact i1 z hz
  ·show Ee "name" nm::Go _ _=_
   rw[i2];rfl
 |_,_,.num (n:=n) (s:=s) hs h0 h1 r=>by
  let⟨i1,i2⟩:=Wm r;have ns:s ≠ "name" := by rcases hs with rfl | rfl | rfl<;>decide +kernel
  let⟨a1,a2,a3⟩:=ug ns (n:=n) ⟨h0,h1⟩;refine⟨λz hz=>?_,?_⟩
  ·rcases Zzw.mp hz with rfl | hz
   ·exact⟨a1,a3⟩
   ·exact i1 z hz
  ·show Ee s (Ba n)::Go _ _=_
   rw[i2,a2]
theorem A1i(q:Qn):Fi (q.keys.map AJ) q.form=true/\Go (q.keys.map AJ) q.form=q.keys/\Os (q.keys.map AJ) q.form:=by
 let⟨h1,h2⟩:=Wm q.fit;refine⟨?_,h2,λz hz=>(h1 z hz).2⟩;unfold Fi;rw[GB (by rw[Zzz];exact Mg q.fit),Zyk,Zyv];exact λz hz=>(h1 z hz).1
structure BadW(y x:Str)(ws:List Str):Prop where
 ns:Txt.startswith y "shop\n" = false
 sp:Txt.split y (one 32)=x::ws
 len:y.length<=1000
 few:ws.length<=100
 bad:x∉BJ.map (·.1)\/∃fs,(x,fs)∈BJ/\(ws.length=fs.length->Os ws fs)/\Fi ws fs=false
theorem Xd(y:Str):Txt.startswith ("shop\n" ++ y) "shop\n" = true:=by
 rw[PySem.W.KAf.starts_left (Zzu _)];decide +kernel
theorem tz(y:Str):T6 ("shop\n" ++ y) (some 5) none=y:=by
 have e:(("shop\n" : Str)++y).cps.toList=("shop\n" : Str).cps.toList++y.cps.toList:=Zwv _ _;have l:(("shop\n" : Str)++y).length=5+y.length:=strLen_append ..;unfold T6;rw[e,l];have s1:HT.sIx (5+y.length) 0 (some 5)=5:=by show min 5 _=5;lia
 rw[s1,HT.mv,show 5+y.length - 5=y.length by lia];have d:(("shop\n" : Str).cps.toList++y.cps.toList).drop 5=y.cps.toList:=rfl;rw[d,Zxl (by rw[Zy8];exact Zzu _)]
inductive Tr
 |ok (S:Sh)
 |say (P:Str->Prop)
 |no (e:Ek)
def ko(P:Str->Prop):Option Ek->Tr
 |none=>.say P
 |some e=>.no e
inductive AN (o:Option Sh):V->Tr->Prop
 |shop {S:Sh} (g:AF 11 S):AN o (.str ("shop\n" ++ Cz (C8 S))) (.ok S)
 |noshop {y:Str} {e:Ek} (l:y.length<=200000) (h:cg y e):AN o (.str ("shop\n" ++ y)) (.no e)
 |bad {y x:Str} {ws:List Str} (h:BadW y x ws):AN o (.str y) (.no .text)
 |due (q:Qn) {e:Ek} (h:q.dueO o=some e):AN o (.str q.text) (.no e)
 |drop (q:Qn) {S:Sh} {i:Nat} (h:o=some S) (f:q.first = "drop") (k:q.keys=[.inl i]) (hi:i<S.wants.length) (d:q.due S=none) (g:AF 11 (Oo i S)):AN o (.str q.text) (.ok (Oo i S))
 |ans (q:Qn) {S:Sh} {r:Option Ek} {P:Str->Prop} (h:o=some S) (n1:q.first ≠ "want") (n2:q.first ≠ "drop") (d:q.due S=none) (a:AY S q.first q.keys r P):AN o (.str q.text) (ko P r)
def Aft(dk:Dk)(Pt x:Addr)(H:Hp)(Q:VK)(N:Ek->Hp->Prop):Tr->Prop
 |.ok S=>∀H',AV dk H' x (some S)->(∀b u,b≠x->H b=some u->H' b=some u)->Q (.str "ok") H'
 |.say P=>∀y H',P y->Tb H' Pt->But Pt H H'->Q (.str y) H'
 |.no e=>∀H',Tb H' Pt->But Pt H H'->N e H'
def Da(c:Cl)(dk:Dk)(Pt:Addr):Sp:=λvs H Q E=>∃(x:Addr) (t:V) (o:Option Sh) (r:Tr),vs=[.ref x,t]/\AV dk H x o/\Tb H Pt/\AN o t r/\Aft dk Pt x H Q (λe H'=>E (.ref (c.ek e)) none H') r
theorem fu{dk:Dk}{x:Addr}:∀{o:Option Sh},AV dk H x o->∃v dx,H x=some (.ins dk.C dx [("kept",v)])/\(o=none->v=.non)/\∀S,o=some S->RD H S.d v/\AF 11 S
 |none,h=>by let⟨dx,h⟩:=h;exact⟨_,dx,h,λ_=>rfl,λS z=>by cases z⟩
 |some S,h=>by let⟨v,⟨dx,h1⟩,h2⟩:=h;exact⟨v,dx,h1,(λz=>by cases z),λS' e=>by cases e;exact h2⟩
theorem Yj{dk:Dk}{x:Addr}{fs:List (Str×V)}(hx:H x=some (.ins dk.C dx fs))(rv:RD H S.d v)(g:AF 11 S):AV dk (upd H x (.ins dk.C dx [("kept",v)])) x (some S) :=
 ⟨v,⟨dx,AA⟩,RD.ku (λb xs hb=>by rw[A6 λz=>by rw[z,hx] at hb;cases hb];exact hb) _ _ (Fz S) rv,g⟩
def A2h(dk:Dk)(Pt x:Addr)(o:Option Sh)(q:Qn)(H:Hp)(Q:VK)(E:XK)(c:Cl):Prop:=(∃e,q.dueO o=some e/\∀H',AB H H'->E (.ref (c.ek e)) none H')\/(∃S i,o=some S/\q.first = "drop" /\ q.keys=[.inl (i:Nat)]/\i<S.wants.length/\q.due S=none/\AF 11 (Oo i S)/\Aft dk Pt x H Q (λe H'=>E (.ref (c.ek e)) none H') (.ok (Oo i S)))\/∃S r P,o=some S/\q.first ≠ "want" /\ q.first ≠ "drop" /\ q.due S=none/\AY S q.first q.keys r P/\Aft dk Pt x H Q (λe H'=>E (.ref (c.ek e)) none H') (ko P r)
def A4j(dk:Dk)(Pt x:Addr)(o:Option Sh)(t:V)(H:Hp)(Q:VK)(E:XK)(c:Cl):Prop:=(∃y,t=.str ("shop\n" ++ y)/\y.length<=200000/\((∃S,y=Cz (C8 S)/\AF 11 S/\Aft dk Pt x H Q (λe H'=>E (.ref (c.ek e)) none H') (.ok S))\/∃e,cg y e/\∀H',AB H H'->E (.ref (c.ek e)) none H'))\/∃y x' ws,t=.str y/\(Txt.startswith y "shop\n" = false/\Txt.split y (one 32)=x'::ws/\y.length<=1000/\ws.length<=100)/\((x'∉BJ.map (·.1)/\∀H',AB H H'->E (.ref c.NoText) none H')\/∃fs,(x',fs)∈BJ/\(ws.length=fs.length->Os ws fs)/\((Fi ws fs=false/\∀H',AB H H'->E (.ref c.NoText) none H')\/∃q:Qn,q.first=x'/\q.form=fs/\Fi ws fs=true/\Go ws fs=q.keys/\A2h dk Pt x o q H Q E c))
theorem Gp{o:HO}(e:upd H p o=H1)(hp:H p=none):H1 p=some o/\AB H H1:=by rw[<- e];exact⟨AA,A7 hp⟩
theorem Wj{H2:Hp}{o:HO}(e:upd H1 p o=H2)(hp:H p=none)(s:AB H H1):H2 p=some o/\AB H H2:=by
 rw[<- e];exact⟨AA,λx u h=>by rw[A6 (A8 h hp)];exact s _ _ h⟩
inductive TwM (dk:Dk) (Pt x:Addr) (o:Option Sh) (t:V) (H:Hp) (Q:VK) (E:XK) (c:Cl) (σ:St) (H':Hp):Prop | mk (p p3:Addr) (q:Qn) (ws:List V) (_:σ=[some (.ref x),some t,some (.ref p),some (.ref p3)]) (_:H' p=some (.lst (V.str q.first::ws))) (_:H' p3=some (.lst (q.keys.map kV))) (_:AB H H') (_:A2h dk Pt x o q H Q E c)
inductive TwD (dk:Dk) (Pt x:Addr) (o:Option Sh) (t:V) (H:Hp) (Q:VK) (E:XK) (c:Cl) (σ:St) (H':Hp):Prop | mk (p p3:Addr) (q:Qn) (ws:List V) (S:Sh) (_:σ=[some (.ref x),some t,some (.ref p),some (.ref p3)]) (_:H' p=some (.lst (V.str q.first::ws))) (_:H' p3=some (.lst (q.keys.map kV))) (_:AB H H') (_:o=some S) (_:((q.first = "drop" /\ ∃i:Nat,q.keys=[.inl i]/\i<S.wants.length/\AF 11 (Oo i S)/\Aft dk Pt x H Q (λe H'=>E (.ref (c.ek e)) none H') (.ok (Oo i S)))\/(q.first ≠ "want" /\ q.first ≠ "drop" /\ ∃r P,AY S q.first q.keys r P/\Aft dk Pt x H Q (λe H'=>E (.ref (c.ek e)) none H') (ko P r))))
theorem CD:Bu ["self", "text", "words", "members"] ["self", "text"] (Ap E2):=by walk_at "sc"
theorem Vx(F:Fun K "tell" "Desk.tell" E2 f fd)(T:Txt mg)(Fo:Fms w K mg)(De:Dsk K mg dk)(C:Exc K mg c)(Zth:Eh P w K mg base "read_ringless" 10 ["text"] (Hj c))(Zu0:Eh P w K mg base "read_words" 3 ["words", "form"] (Gv K c))(Zsr:Eh P w K mg base "check_told" 2 ["shop", "first", "members"] (Kd c))(Zsf:Has P w K mg base "with_want" 1 ["shop", "name", "day", "amount"] DE)(Zt8:Has P w K mg base "without_want" 1 ["shop", "place"] CK)(Zrq:Eh P w K mg base "answer" 11 ["shop", "first", "members"] (Tq c Pt)):Aq P w K mg base (CXE P w) 12 f fd ["self", "text"] (Da c dk Pt):=by
 refine F.okX CD (λvs H Q E h=>?_) (λcdv A outer s H vs Q E hr h=>?_)
 ·let⟨x,t,o,r,rfl,_⟩:=h;rfl
 ·let⟨x,t,o,r,rfl,kp,tb,tl,k⟩:=h;have hu:=Ao hr;let⟨F_a,F_l,F_m,F_t,f1,f2,f3,f4,f5,f6,f7,f8,f9⟩:=Fo;refine⟨_,(A1 (As (B1 (B5 (Ah Cu rfl T.Zuo Aw (A2 (pv 1) (A2 (Fy (v:=.ty "str") rfl T.Zt1 Ii rfl) A0))))) (A3 (Cb Gn rfl rfl C.Zte (C.ex .text).1 (A2 Aa A0))) Ai)
 (A1 (As (B5 (D2 Zy9 PySem.F.slot_str_startswith PySem.F.type_str_startswith iz (pv 1) (A2 (Jf rfl T.Ztp) A0))) (A1 (V6 (pv 0) (B0 Zth Fc hr.z rfl (A2 (C5 vx (pv 1) (Cc (Ah bz rfl T.Zu7 D8 (A2 (Jf rfl T.Ztp) A0))) Db) A0)) rfl)
 (A3 (Ad Aa))) Ai)
 (A1 (B4 2 CD.nd (D2 Zy9 Zvf Zve R7 (pv 1) (A2 Aa A0)))
 (A1 (B4 3 CD.nd (B0 Zu0 Fc hr.z rfl (A2 (C5 Ez (pv 2) (Cc A5) Db) (A2 (ee F_t (Du (v:=.ref F_a) rfl F_m rfl) (Ac hu (pv 2) A5) ⟨rfl,rfl,rfl,rfl⟩) A0))))
 (A1 (Bm (B0 Zsr Fc hr.z rfl (A2 (Vd (pv 0) rfl) (A2 (Ac hu (pv 2) A5) (A2 (pv 3) A0)))))
 (A1 (As (Aj (Bd hu) (Ac hu (pv 2) A5) Aa (Ak _)) (A1 (V6 (pv 0) (A9 Zsf hr.z rfl (A2 (Vd (pv 0) rfl) (A2 (Ac hu (pv 3) A5) (A2 (Ac hu (pv 3) A5) (A2 (Ac hu (pv 3) A5) A0))))) rfl)
 (A3 (Ad Aa))) Ai)
 (A1 (As (Aj (Bd hu) (Ac hu (pv 2) A5) Aa (Ak _)) (A1 (V6 (pv 0) (A9 Zt8 hr.z rfl (A2 (Vd (pv 0) rfl) (A2 (Ac hu (pv 3) A5) A0))) rfl)
 (A3 (Ad Aa))) Ai)
 (A3 (Ad (B0 Zrq Fc hr.z rfl (A2 (Vd (pv 0) rfl) (A2 (Ac hu (pv 2) A5) (A2 (pv 3) A0))))))))))))),?_⟩
  let⟨v,dx,hx,kn,ks⟩:=fu kp;have vq:Str.ofString " " = one 32:=by decide +kernel
  have same:∀{e:Ek} {H':Hp},Aft dk Pt x H Q (λe H'=>E (.ref (c.ek e)) none H') (.no e)->AB H H'->E (.ref (c.ek e)) none H':=λk s=>k _ (tb.same s) (Bc s);have h:A4j dk Pt x o t H Q E c:=by
   have wd:∀q:Qn,A2h dk Pt x o q H Q E c->t=.str q.text->A4j dk Pt x o t H Q E c:=λq h e=>by
    let⟨s1,s2,s3⟩:=wc q;let⟨g1,g2,g3⟩:=A1i q;exact .inr ⟨_,q.first,q.keys.map AJ,e,⟨To q.isf,s1,s2,s3⟩,.inr ⟨q.form,q.isf,λ_=>g3,.inr ⟨q,rfl,rfl,g1,g2,h⟩⟩⟩
   cases tl with
   |shop g =>
    have l1:=Iy (G4 g.sd.weak);have l2:=Ln g.sd.weak;exact .inl ⟨_,rfl,by lia,.inl ⟨_,rfl,g,k⟩⟩
   |noshop l h=>exact .inl ⟨_,rfl,l,.inr ⟨_,h,λ_ s=>same k s⟩⟩
   |bad b =>
    refine .inr ⟨_,_,_,rfl,⟨b.ns,b.sp,b.len,b.few⟩,?_⟩;rcases b.bad with b | ⟨fs,b1,b2,b3⟩
    ·exact .inl ⟨b,λ_ s=>same (e:=.text) k s⟩
    ·exact .inr ⟨fs,b1,b2,.inl ⟨b3,λ_ s=>same (e:=.text) k s⟩⟩
   |due q h=>exact wd q (.inl ⟨_,h,λ_ s=>same k s⟩) rfl
   |drop q h f kk hi d g=>exact wd q (.inr (.inl ⟨_,_,h,f,kk,hi,d,g,k⟩)) rfl
   |ans q h n1 n2 d a=>exact wd q (.inr (.inr ⟨_,_,_,h,n1,n2,d,a,k⟩)) rfl
  rcases h with ⟨y,rfl,ly,h⟩ | ⟨y,x',ws,rfl,⟨ns,hsp,hly,few⟩,h⟩
  ·refine u9 (λ_ _=>False) (λ_ _ z=>z.elim) λKK hK=>?_;walk_at "rd";refine⟨_,rfl,?_⟩;rw[GD (by decide)];refine⟨rfl,?_⟩;rw[GE (Xd _)];refine⟨by decide,by rw[strLen_append];show 5+_<=16777216;lia,?_⟩;rw[show some (((Str.ofString "shop\n").length:Nat):Int)=some 5 from rfl,tz];refine⟨y,rfl,?_⟩;rcases h with ⟨S,rfl,g,k⟩ | ⟨e,no,ke⟩
   ·refine .inl ⟨S,rfl,g,λq H1 rq s1=>⟨_,dx,_,s1 _ _ hx,De.c,De.nk,(by show 1<1000;decide),k _ (Yj (s1 _ _ hx) rq g) λb u nb hb=>?_⟩⟩;rw[A6 nb];exact s1 _ _ hb
   ·exact .inr ⟨e,no,ke⟩
  refine u9 (λσ' H'=>σ'=[some (.ref x),some (.str y),none,none]/\H'=H) ?_ (λKK hK=>?_);rotate_left
  ·walk_at "rd";refine⟨_,rfl,?_⟩;rw[GD (by decide)];refine⟨rfl,?_⟩;rw[GD (by rw[show Str.ofString "shop\n" = "shop\n" from rfl,ns];decide)];exact hK _ _ ⟨rfl,rfl⟩
  rintro σ' H0 ⟨rfl,rfl⟩;refine u9 (TwM dk Pt x o (.str y) H0 Q E c) ?_ (λKK hK=>?_);rotate_left
  ·walk_at "rd";refine⟨rfl,32,by rw[vq],by lia,λp hp=>⟨_,AA,λp1 hp1=>?_⟩⟩;rw[hsp,Zzk,E4 (by decide)] at *;generalize e1:upd H0 p _=H1;let⟨h1,u1⟩:=Gp e1 hp;rw[e1] at hp1;generalize e2:upd H1 p1 _=H2;let⟨h2p1,u2⟩:=Gp e2 hp1;have h2p1:H2 p1=some (.lst (ws.map V.str)):=h2p1;have uu:=u1.trans u2;have h2p:=u2 _ _ h1;refine⟨_,An (j:=0) h2p rfl,x',rfl,?_⟩;rcases h with ⟨nf,ke⟩ | ⟨fs,isf,fine,h⟩
   ·rw[kt (by rw[f9];exact nf)];exact⟨p1,.non,ws,rfl,h2p1,few,.inl ⟨rfl,ke _ uu⟩⟩
   let⟨fa,e1,e2⟩:=nt f1 f2 f3 f4 f5 f6 f7 f8 isf;rw[e1];refine⟨p1,.ref fa,ws,rfl,h2p1,few,.inr ⟨fa,_,rfl,e2 _,fine,λgd p3 H3 _ hp3 s3=>?_,λgb H3 s3=>?_⟩⟩
   ·rcases h with ⟨gf,_⟩ | ⟨q,rfl,rfl,_,ek,h⟩
    ·rw[gf] at gd;cases gd
    rw[ek] at hp3;exact hK _ _ ⟨p,p3,q,_,rfl,s3 _ _ h2p,hp3,uu.trans s3,h⟩
   ·rcases h with ⟨_,ke⟩ | ⟨q,_,_,g1,_⟩
    ·exact ke _ (uu.trans s3)
    ·rw[g1] at gb;cases gb
  rintro σ' H3 ⟨p,p3,q,ws',rfl,hpp,hp3,s03,h⟩;have hx3:=s03 _ _ hx;have lk:Zxg (Str.ofString "kept") [(Str.ofString "kept",v)]=some v:=by simp
  refine Iv (TwD dk Pt x o (.str y) H0 Q E c) ?_ (λKK hK=>?_);rotate_left
  ·walk_at "rd";refine⟨_,dx,_,hx3,De.c,De.nk,v,lk,_,An (j:=0) hpp rfl,v,q,p3,rfl,hp3,?_⟩;cases o with
   |none =>
    rcases h with ⟨e,he,ke⟩ | ⟨S,_,z,_⟩ | ⟨S,_,_,z,_⟩
    ·cases Zzm he;exact .inl ⟨kn rfl,ke _ s03⟩
    ·cases z
    ·cases z
   |some S =>
   let⟨rv,g⟩:=ks S rfl;have w20:=g.wants.1;refine .inr ⟨S,RD.same s03 _ _ rv,g.ok,by lia,λdn H4 s4=>hK _ _ ⟨p,p3,q,ws',S,rfl,s4 _ _ hpp,s4 _ _ hp3,s03.trans s4,rfl,?_⟩,λe de H4 s4=>?_⟩
   ·rcases h with ⟨e',he,_⟩ | ⟨S',i,z,fd',kd,hi,_,g',k⟩ | ⟨S',r',P',z,n1,n2,_,an,k⟩
    ·cases dn.symm.trans he
    ·cases z;exact .inl ⟨fd',i,kd,hi,g',k⟩
    ·cases z;exact .inr ⟨n1,n2,r',P',an,k⟩
   ·rcases h with ⟨e',he,ke⟩ | ⟨S',_,z,_,_,_,dn,_⟩ | ⟨S',_,_,z,_,_,dn,_⟩
    ·cases Zzm (de.symm.trans he);exact ke _ (s03.trans s4)
    ·cases z;rw[dn] at de;cases de
    ·cases z;rw[dn] at de;cases de
  rintro σ' H4 ⟨p,p3,q,ws',S,rfl,hpp4,hp34,s04,rfl,hw⟩;let⟨rv,g⟩:=ks S rfl;have w20:=g.wants.1;have hx4:=s04 _ _ hx;have rv4:=RD.same s04 _ _ rv;walk_at "rd";rcases hw with ⟨fd',i,kd,hi,g',k⟩ | ⟨n1,n2,r',P',an,k⟩
  ·rw[kd] at hp34;refine⟨_,An (j:=0) hpp4 rfl,rfl,?_⟩;rw[GD (λz=>absurd (V.str.inj (GA z)) (by rw[fd'];decide +kernel))];refine⟨_,An (j:=0) hpp4 rfl,rfl,?_⟩;rw[GE (GB (by rw[fd']))];refine⟨_,dx,_,hx4,De.c,De.nk,v,lk,_,An (j:=0) hp34 rfl,v,S,i,rfl,rv4,by lia,hi,λv' H5 rv5 s5=>⟨_,dx,_,s5 _ _ hx4,De.c,De.nk,(by show 1<1000;decide),k _ (Yj (s5 _ _ hx4) rv5 g') λb u nb hb=>?_⟩⟩;rw[A6 nb];exact s5 _ _ (s04 _ _ hb)
  ·refine⟨_,An (j:=0) hpp4 rfl,rfl,?_⟩;rw[GD (λz=>n1 (V.str.inj (GA z)))];refine⟨_,An (j:=0) hpp4 rfl,rfl,?_⟩;rw[GD (λz=>n2 (V.str.inj (GA z)))];refine⟨_,dx,_,hx4,De.c,De.nk,v,lk,_,An (j:=0) hpp4 rfl,v,S,q.first,q.keys,p3,r',P',rfl,rv4,g,tb.same s04,hp34,an,λe he H5 t5 b5=>?_,λy H5 hr' py t5 b5=>?_⟩
   ·rw[he] at k;exact k H5 t5 ((Bc s04).trans b5)
   ·rw[hr'] at k;exact k y H5 py t5 ((Bc s04).trans b5)
end
section
variable {dk:Dk}{c:Cl}
def lets(x:Str):Prop:=∀c∈x.cps.toList,c∈AU
theorem lt26{d:Int}(h0:0<=d)(h1:d<26):∃c,("abcdefghijklmnopqrstuvwxyz" : Str).cps.toList[d.toNat]?=some c/\c∈AU:=by
 have hl:("abcdefghijklmnopqrstuvwxyz" : Str).cps.toList.length=26:=by decide +kernel
 have h:d.toNat<("abcdefghijklmnopqrstuvwxyz" : Str).cps.toList.length:=by rw[hl];lia
 exact⟨_,Zzl h,Zvc h⟩
theorem az:AU.Nodup:=by decide +kernel
theorem Oj:AU.length=26:=by decide +kernel
def Iz(bs:List Int)(a k j:Nat):Int:=(bs.getD j 0+(k:Int)*(if j=a then 1 else 0)) % 26
def nmL(bs:List Int)(a k n:Nat):List Nat:=(Zys n).map λj=>AU.getD (Iz bs a k j).toNat 0
theorem V0(bs:List Int)(a k j:Nat):0<=Iz bs a k j/\Iz bs a k j<26:=by unfold Iz;lia
theorem xn{bs:List Int}{a k k':Nat}(ha:a<n)(hk:k<26)(hk':k'<26)(h:nmL bs a k n=nmL bs a k' n):k=k':=by
 have h1:=congrArg (λl=>l[a]?) h;have e:∀q,(nmL bs a q n)[a]?=some (AU.getD (Iz bs a q a).toNat 0):=λq=>by
  unfold nmL;rw[Zzx,List.getElem?_range ha];rfl
 have h1:(nmL bs a k n)[a]?=(nmL bs a k' n)[a]?:=h1;rw[e,e] at h1;have h2:=Zzm h1;have l1:=V0 bs a k a;have l2:=V0 bs a k' a;have ll:=Oj;have g:∀{i:Nat},(hi:i<AU.length)->AU.getD i 0=AU[i]:=λ{i} hi=>by rw[Zzg,Zzl hi];rfl
 rw[g (by lia),g (by lia)] at h2;have h3:=(List.getElem_inj az).mp h2;have h4:Iz bs a k a=Iz bs a k' a:=by lia
 unfold Iz at h4;rw[GE rfl] at h4;lia
structure A2k(x:Str):Prop where
 lets:lets x
 ge:1<=x.length
 le:x.length<=8
theorem A3l{bs:List Int}{a k:Nat}(h0:1<=n)(hn:n<=8)(h:x.cps.toList=nmL bs a k n):A2k x:=by
 have hl:x.length=n:=by
  have:=congrArg Zxn h;unfold nmL at this;rw[Zzz,List.length_range] at this;rw[<- this];show x.cps.size=x.cps.toList.length;simp
 refine⟨λc hc=>?_,by lia,by lia⟩;rw[h] at hc;let⟨j,_,rfl⟩:=Zzt.mp hc;have l1:=V0 bs a k j;have ll:=Oj;rw[Zzg,Zzl (by lia)];exact Zvc _
inductive DH (vs:List V) (H:Hp) (Q:VK) (E:XK):Prop | mk (st m:_) (_:vs=[.ref st,.int m]) (_:AT H st) (_:0<=m) (_:m<=26) (_:∀(a:Addr) (xs:List Str) (H':Hp),xs.length=m.toNat->xs.Nodup->(∀x∈xs,A2k x)->H' a=some (.lst (xs.map V.str))->H a=none->AT H' st->But st H H'->Q (.ref a) H')
inductive A4w (st:Addr) (H:Hp) (i:Nat) (acc:List V) (H':Hp):Prop | mk (bs:List Int) (_:acc=bs.map V.int) (_:bs.length=i) (_:(∀x∈bs,0<=x/\x<26)) (_:AT H' st) (_:But st H H')
inductive A4n (st l b:Addr) (m sz:Int) (bs:List Int) (a:Nat) (H:Hp) (k:Nat) (σ:St) (H':Hp):Prop | mk (xs:List Str) (o1 o2 o3:Option V) (_:σ=[some (.ref st),some (.int m),some (.str "abcdefghijklmnopqrstuvwxyz"),some (.int sz),some (.ref b),some (.int a),some (.ref l),o1,o2,o3]) (_:H' l=some (.lst (xs.map V.str))) (_:xs.length=k) (_:(∀(j:Nat) (x:Str),xs[j]?=some x->x.cps.toList=nmL bs a j sz.toNat)) (_:H' b=some (.lst (bs.map V.int))) (_:AT H' st) (_:But st H H')
inductive A4o (st l b:Addr) (m sz:Int) (bs:List Int) (a k:Nat) (H:Hp) (i:Nat) (σ:St) (H':Hp):Prop | mk (x:Str) (o3:Option V) (_:σ=[some (.ref st),some (.int m),some (.str "abcdefghijklmnopqrstuvwxyz"),some (.int sz),some (.ref b),some (.int a),some (.ref l),some (.int k),some (.str x),o3]) (_:x.cps.toList=nmL bs a k i) (_:H'=H)
theorem Vp(F:Fun K "_law_names" "_law_names" O6 f fd)(T:Txt mg)(C:Exc K mg c)(Zue:Has P w K mg base "_law_next" 1 ["_law_state", "_law_many"] CM):Aq P w K mg base CX0 2 f fd ["_law_state", "_law_many"] DH:=by
 refine F.go ["_law_state", "_law_many", "_law_letters", "_law_size", "_law_base", "_law_at", "_law_names_here", "_law_k", "_law_name", "_law_i"] ?_ ?_ ?_;walk_at "f";let⟨st,m,rfl,hs,m0,m1,k⟩:=h;have hu:=Ao hr;refine⟨_,(A1 (B4 2 Nd Aa)
 (A1 (B4 3 Nd (Ae D4 A5 (A9 Zue hr.z rfl (A2 (pv 0) (A2 A5 A0)))))
 (A1 (Dy (own:=["_law_k"]) (cap:=[0]) (i:=4) rfl (Cf rfl) (Av (by decide)) Nd rfl rfl (Es rfl T.Zt0 (A2 (pv 3) A0))
 (λ_ _ _ _ _ _=>⟨(Ax (i:=0) (GA rfl) rfl (Zyr rfl) (.inr rfl)),Bi,(A9 Zue hr.z rfl (A2 (pv 1) (A2 A5 A0)))⟩))
 (A1 (B4 5 Nd (A9 Zue hr.z rfl (A2 (pv 0) (A2 (pv 3) A0))))
 (A1 (B4 6 Nd (B7 A0))
 (A1 (Bj PassesOwn.never rfl (Es rfl T.Zt0 (A2 (pv 1) A0)) (Cj 7 Nd)
 (A1 (B4 8 Nd Aa)
 (A1 (Bj PassesOwn.never rfl (Es rfl T.Zt0 (A2 (pv 3) A0)) (Cj 9 Nd)
 (A3 (Gy (i:=8) Nd rfl (Zyr rfl) (Ac hu (pv 2) (Ae Ks (Ae D4 (Ac hu (pv 4) (pv 9)) (Ae Jw (pv 7) (Bf Uq rfl T.Zrf Wv (A2 (Bt (Bd hu) (pv 9) (pv 5) (Ak _)) A0)))) A5)) yh)))
 (A3 (Bm (D2 Zyw Zyn Zym Co (pv 6) (A2 (pv 8) A0)))))))
 (A3 (Ad (pv 6))))))))),?_⟩
 walk_at "rd";refine⟨st,8,rfl,hs,by decide,by decide +kernel,λd H1 d0 d1 s1 b1=>⟨d,rfl,?_⟩⟩;refine⟨by lia,by lia,?_⟩;refine Ky (Ud 0 _) (Am (by lia)) (A4w st H) ⟨[],rfl,rfl,(λx hx=>nomatch hx),s1,b1⟩ (λ_ _ _ _ _=>trivial) (λj acc H' h=>by let⟨xs,rfl,e,_⟩:=h;rw[Zzz];exact Zvz e) (λj y acc H2 hj hy h=>?_) (λacc H2 h b hb=>?_)
 ·let⟨bs,rfl,hl,hn,s2,b2⟩:=h;walk_at "rd";refine⟨st,26,rfl,s2,by decide,by decide +kernel,λe H3 e0 e1 s3 b3=>⟨bs++[e],by rw[Zzd];rfl,by rw[Zz8,hl];rfl,λx hx=>?_,s3,b2.trans b3⟩⟩;rcases Zz3.mp hx with z | z
  ·exact hn x z
  ·rw[Zzh.mp z];exact⟨e0,e1⟩
 ·let⟨bs,rfl,hl,hn,s2,b2⟩:=h;have bst:b≠st:=Zza (s2.ne hb);have hb2:upd H2 b (.lst (bs.map V.int)) b=_:=AA;have s2:=s2.upd (o:=.lst (bs.map V.int)) (s2.ne hb);have b2:=b2.new (o:=.lst (bs.map V.int)) hb;generalize upd H2 b (.lst (bs.map V.int))=H2 at hb2 s2 b2;refine⟨st,1+d,rfl,s2,by lia,Int.lt_of_lt_of_le (b:=9) (by lia) (by decide +kernel),λa H3 a0 a1 s3 b3=>⟨Zyl _,λl hl=>⟨by lia,by lia,?_⟩⟩⟩;let⟨a,rfl⟩:=Zx9 a0;have hb3:=b3 _ _ bst hb2;have lst':l≠st:=Zza (s3.ne hl);have nbl:b≠l:=A8 hb3 hl;have fl:H l=none:=(b2.trans b3).none lst' hl;refine D7 (Ud 0 _) (A4n st l b m (1+d) bs a H) ⟨[],_,_,_,rfl,AA,rfl,(λj x e=>by simp at e),by rw[A6 nbl];exact hb3,s3.upd (s3.ne hl),(b2.trans b3).new hl⟩ (λ_ _ _ _ _=>trivial) (λq y σ H4 hq hy h=>?_) (λσ H4 h=>?_)
  ·let⟨xs,o1,o2,o3,rfl,hl4,xl,hx,hb4,s4,b4⟩:=h;subst hy;walk_at "rd";have hq':(0+(q:Int))=(q:Int):=by lia
   rw[hq'];refine⟨by lia,by lia,?_⟩;refine D7 (Ud 0 _) (A4o st l b m (1+d) bs a q H4) ⟨_,_,rfl,rfl,rfl⟩ (λ_ _ _ _ _=>trivial) (λi y σ H5 hi hy h=>?_) (λσ H5 h=>?_)
   ·let⟨x,o3,rfl,ex,rfl⟩:=h;subst hy;walk_at "rd";have hi:i<(1+d).toNat:=hi;obtain⟨bv,ebv⟩:∃bv,bs[i]?=some bv:=⟨_,Zzl (by lia)⟩;have i0:(0+(i:Int))=(i:Int):=by lia
    rw[i0];have ebd:bs.getD i 0=bv:=by rw[Zzg,ebv];rfl
    have espot:(bv+(q:Int)*if decide ((i:Int)=(a:Int))=true then 1 else 0) % 26=Iz bs a q i:=by
     unfold Iz;rw[ebd];by_cases z:i=a
     ·rw[GE (GB (by lia)),GE z]
     ·rw[GD (λw=>z (by have:=GA w;lia)),GD z]
    have l26:=V0 bs a q i;let⟨cc,ec,_⟩:=lt26 l26.1 l26.2;have xl5:x.length=i:=by
     have:=congrArg Zxn ex;unfold nmL at this;rw[Zzz,List.length_range] at this;rw[<- this];show x.cps.size=x.cps.toList.length;simp
    refine⟨_,rg (.inl hb4) (by lia) (v:=.int bv) (by rw[Zzx,Zwy,ebv];rfl),rfl,.inr ⟨?_,?_⟩,bv,rfl,by decide,?_⟩
    ·exact Zzb (m:=1000) (by lia) (by decide +kernel)
    ·exact Zzb (m:=1000) (by split<;>decide) (by decide +kernel)
    rw[espot];refine⟨_,rf (by decide +kernel) l26.1 ec,_,rfl,Zzp (m:=1000) (by show x.length+1<=1000;lia) (Am (Zzu _)),_,_,rfl,?_,rfl⟩;show (x.cps++#[cc]).toList=_;rw[Array.toList_append,ex];unfold nmL;rw[Zv6,Zzd];have:AU[(Iz bs a q i).toNat]?=some cc:=ec;rw[List.map_singleton,Zzg,this];rfl
   ·let⟨x,o3,rfl,ex,rfl⟩:=h;walk_at "rd";refine⟨E6 hl4,_,hl4,Zzb (m:=1000) (by rw[Zzz];lia) (Am (Zzu _)),xs++[x],_,_,_,rfl,by rw[AA,Zzd];rfl,by rw[Zz8,xl];rfl,λj y hy=>?_,by rw[A6 nbl];exact hb4,s4.upd (Zza lst'),b4.upd fl⟩;by_cases hj:j<xs.length
    ·rw[Zxw hj] at hy;exact hx j y hy
    ·rw[Zy2 (by lia)] at hy;have hj0:j - xs.length=0:=by
      cases e:j - xs.length with
      |zero=>rfl
      |succ n=>rw[e] at hy;simp at hy
     rw[hj0] at hy;have hy:x=y:=by simpa using hy
     have hje:j=q:=by lia
     subst hy hje;exact ex
  ·let⟨xs,o1,o2,o3,rfl,hl4,xl,hx,hb4,s4,b4⟩:=h;walk_at "rd";refine k l xs H4 xl ?_ (λx hx'=>?_) hl4 fl s4 b4
   ·refine Zxh.mpr λi j hi hj hij e=>?_;have h1:=hx i _ (Zzl hi);have h2:=hx j _ (Zzl hj);rw[e,h2] at h1;have:=xn (by lia) (by lia) (by lia) h1;lia
   ·let⟨j,hj⟩:=Zw7 hx';exact A3l (by lia) (by lia) (hx j x hj)
end
section
variable {dk:Dk}{c:Cl}
theorem Dq{dk:Dk}{x:Addr}(h:AV dk H x o):∃dx v,H x=some (.ins dk.C dx [("kept",v)]):=by
 let⟨v,dx,h,_⟩:=fu h;exact⟨dx,v,h⟩
def Ek.bits(e:Ek):List Bool:=[decide (e.ix=0),decide (e.ix=1),decide (e.ix=2),decide (e.ix=3),decide (e.ix=4),decide (e.ix=5),decide (e.ix=6)]
theorem RD.lst_mk(h:H a=some (.lst xs))(r:RDs H ds xs):RD H (.list ds) (.ref a):=by rw[RD];exact⟨a,xs,rfl,h,r⟩
theorem My:∀bs:List Bool,RDs H (bs.map .bool) (bs.map V.bl)
 |[]=>RDs.nil
 |b::r=>RDs.cons (by rw[RD]) (My r)
theorem Z6(e:Ek):okD (.list (e.bits.map .bool))=true:=by cases e<;>decide +kernel
theorem jy(e:Ek):PyData.eqv (.list (e.bits.map .bool)) (.list (e.bits.map .bool))=true:=by cases e<;>decide +kernel
inductive RfM (c:Cl) (x:Addr) (t:V) (e:Ek) (H:Hp) (Pt:Addr) (σ:St) (H':Hp):Prop | mk (ea:Addr) (o4:Option V) (_:σ=[some (.ref x),some t,some (.int (e.ix:Nat)),some (.ref ea),o4,none]) (_:H' ea=some (bi ea (.ref (c.ek e)))) (_:Tb H' Pt) (_:But Pt H H')
inductive RfS (c:Cl) (x:Addr) (t:V) (e:Ek) (ea:Addr) (o4:Option V) (H:Hp) (n:Nat) (σ:St) (H':Hp):Prop | mk (p:Addr) (_:σ=[some (.ref x),some t,some (.int (e.ix:Nat)),some (.ref ea),o4,some (.ref p)]) (_:H p=none) (_:H' p=some (.lst ((e.bits.take n).map V.bl))) (_:AB H H')
inductive G6 (dk:Dk) (Pt:Addr) (vs:List V) (H:Hp) (Q:VK) (E:XK):Prop | mk (x:Addr) (t:V) (o:Option Sh) (e:Ek) (_:vs=[.ref x,t,.int (e.ix:Nat)]) (_:AV dk H x o) (_:Tb H Pt) (_:AN o t (.no e)) (_:∀H',Tb H' Pt->But Pt H H'->Q (.bl true) H')
theorem Qu(F:Fun K "_law_refused" "_law_refused" Kg f fd)(T:Txt mg)(De:Dsk K mg dk)(C:Exc K mg c)(Zur:S2 P w K mg base dk.ft 12 ["self", "text"] (Da c dk Pt)):Aq P w K mg base CX0 13 f fd ["_law_desk", "_law_text_here", "_law_due"] (G6 dk Pt):=by
 refine F.go ["_law_desk", "_law_text_here", "_law_due", "_law_caught", "e", "_law_some"] ?_ ?_ ?_;walk_at "f";let⟨x,t,o,e,rfl,kp,tb,tl,k⟩:=h;have hu:=Ao hr;have hu4:=Wi hr;refine⟨_,(A1 (B4 3 Nd Dn)
 (A1 (A1j (i:=4) (fits:=λcls=>exmOne K cls (.ref c.NeedError)=some true) Nd rfl rfl rfl rfl rfl C.Zr6 (λ_ h=>h) (λ_ _ _ hp=>(A3 (Bm (Ce Zur hp (pv 0) De.c De.mt hr.z (A2 (pv 1) A0))))) (λ_=>(A3 (B4 3 Nd (pv 4)))))
 (A1 (As (PW.pt (E8 (Aj Qr (pv 3) Dn (Ak _)) (D1 (B1 (B5 (Ah (E5 (K0:=K) rfl) rfl T.Zuo Aw (A2 (pv 3) (A2 (Fy (v:=.ty "ValueError") rfl T.Zrd T9 rfl) A0)))))))) (A3 (Ad Di)) Ai)
 (A1 (B4 5 Nd (B7 (A2 (Ah (E5 (K0:=K) rfl) rfl T.Zuo Aw (A2 (pv 3) (A2 (Du (v:=.ref c.NoText) rfl C.Zte rfl) A0))) (A2 (Ah (E5 (K0:=K) rfl) rfl T.Zuo Aw (A2 (pv 3) (A2 (Du (v:=.ref c.NoShop) rfl C.Zs9 rfl) A0))) (A2 (Ah (E5 (K0:=K) rfl) rfl T.Zuo Aw (A2 (pv 3) (A2 (Du (v:=.ref c.Ring) rfl C.Zr3 rfl) A0))) A0)))))
 (A1 (Gy (i:=5) Nd rfl (Zyr rfl) (B7 (A2 (Ah (E5 (K0:=K) rfl) rfl T.Zuo Aw (A2 (pv 3) (A2 (Du (v:=.ref c.NoName) rfl C.Zrc rfl) A0))) (A2 (Ah (E5 (K0:=K) rfl) rfl T.Zuo Aw (A2 (pv 3) (A2 (Du (v:=.ref c.NoDay) rfl C.Zrk rfl) A0))) (A2 (Ah (E5 (K0:=K) rfl) rfl T.Zuo Aw (A2 (pv 3) (A2 (Du (v:=.ref c.NoBuy) rfl C.Zr5 rfl) A0))) A0)))) Rk)
 (A3 (Ad (Bt (ou hu4) (Ae Hz (pv 5) (B7 (A2 (Ah (E5 (K0:=K) rfl) rfl T.Zuo Aw (A2 (pv 3) (A2 (Du (v:=.ref c.NoPlan) rfl C.Zrb rfl) A0))) A0))) (Bs (own:=["_law_k"]) (cap:=[2]) rfl (Cf rfl) (Av (by decide)) (Es rfl T.Zt0 (A2 A5 A0))
 (λ_ _ _ _ _ _=>⟨(Ax (i:=0) (GA rfl) rfl (Zyr rfl) (.inr rfl)),Bi,(Bt (Bd hu) (pv 0) (pv 1) (Ak _))⟩)) (Ak _))))))))),?_⟩
 let⟨dx,v,hx⟩:=Dq kp;let⟨_,x1,x0,x9,q⟩:=C.ex e;refine A4d (RfM c x t e H Pt) ?_ (λKK hK=>?_);rotate_left
 ·walk_at "rd";refine⟨dx,_,hx,rfl,x,t,o,.no e,rfl,kp,tb,tl,λH1 t1 b1=>⟨x0,λea hea=>?_⟩⟩;rw[GD (by decide)];refine⟨_,AA,x1,_,x9,?_⟩;rw[GD (by decide)];have u:=A7 (o:=bi ea (.ref (c.ek e))) hea;exact hK _ _ ⟨ea,_,rfl,AA,t1.same u,b1.trans (Bc u)⟩
 rintro σ' H2 ⟨ea,o4,rfl,he,t1,b1⟩;refine Iv (RfS c x t e ea o4 H2 3) ?_ (λKK hK=>?_);rotate_left
 ·walk_at "rd";refine⟨_,he,x1,_,.inl (q .text),_,he,x1,_,.inl (q .shop),_,he,x1,_,.inl (q .ring),by decide,λp hp=>?_⟩;have u:=A7 (o:=.lst ((e.bits.take 3).map V.bl)) hp;exact hK _ _ ⟨p,rfl,hp,AA,u⟩
 rintro σ' H3 ⟨p,rfl,hp,hp3,s3⟩;refine Iv (RfS c x t e ea o4 H2 6) ?_ (λKK hK=>?_);rotate_left
 ·have he3:=s3 _ _ he
  walk_at "rd";refine⟨_,he3,x1,_,.inl (q .name),_,he3,x1,_,.inl (q .day),_,he3,x1,_,.inl (q .buy),by decide,λp2 hp2=>?_⟩;generalize e4:upd H3 p2 _=H4;let⟨h4,s4⟩:=Gp e4 hp2;refine⟨_,s4 _ _ hp3,_,h4,(by show 6<=sizeLine;decide),?_⟩;generalize e5:upd H4 p _=H5;let⟨hp5,s5⟩:=Wj e5 hp (s3.trans s4);exact hK _ _ ⟨p,rfl,hp,hp5,s5⟩
 rintro σ' H5 ⟨p,rfl,hp,hp5,s5⟩;walk_at "rd";refine⟨_,s5 _ _ he,x1,_,.inl (q .plan),by decide,λp3 hp3'=>?_⟩;generalize e6:upd H5 p3 _=H6;let⟨h6,s6⟩:=Gp e6 hp3';refine⟨_,s6 _ _ hp5,_,h6,by show 7<=sizeLine;decide,λp4 hp4=>⟨by decide,by decide,?_⟩⟩;generalize e7:upd H6 p4 _=H7;let⟨h7,s7⟩:=Gp e7 hp4;have h7:H7 p4=some (.lst (e.bits.map V.bl)):=h7;have sm:=s5.trans (s6.trans s7);refine By (Ud 0 _) (by show 7<=sizeLine;decide) (λ_ _=>trivial) (e.bits.map V.bl) rfl (λi y H' hi hy s' N M hN=>?_) (λH' s' q hq=>?_)
 ·subst hy;have hi:i<7:=hi;walk_at "rd";refine⟨rfl,hN _ _ s' ?_⟩;have:∀i:Nat,i<7->(e.bits.map V.bl)[i]?=some (V.bl (decide ((0+(i:Int))=((e.ix:Nat):Int)))):=by cases e<;>decide
  exact this i hi
 ·have u7:=A7 (o:=.lst (e.bits.map V.bl)) hq
  refine⟨_,RD.lst_mk (u7 _ _ (s' _ _ h7)) (My _),_,RD.lst_mk AA (My _),Z6 e,Z6 e,?_⟩;rw[jy e];have s8:=sm.trans (s'.trans u7);exact k _ (t1.same s8) (b1.trans (Bc s8))
end
section
variable {dk:Dk}{c:Cl}
theorem Ot(a b c:Str):a++b++c=a++(b++c):=Uy (by simp only[Zwv,List.append_assoc])
noncomputable def wA(a b:Str):Wr:=⟨a,1,2,0,0,[],[(b,3)]⟩
def wB(b:Str)(s:Int):Wr:=⟨b,2,1,0,s,[],[]⟩
noncomputable def wC(c:Str):Wr:=⟨c,0,5,1,3,[],[]⟩
noncomputable def S72(a b c:Str)(s:Int):Sh:=⟨[wA a b,wB b s,wC c],[(a,1,4)]⟩
theorem A1s:Ba 0 = "0" /\ Ba 1 = "1" /\ Ba 2 = "2" /\ Ba 3 = "3" /\ Ba 4 = "4" /\ Ba 5 = "5" := by decide +kernel
theorem lit:("ware " : Str) = "ware" ++ one 32/\(" 1 2 0 0" : Str)=one 32++("1" ++ (one 32++("2" ++ (one 32++("0" ++ (one 32 ++ "0"))))))/\("part " : Str) = "part" ++ one 32/\(" " : Str)=one 32/\(" 3" : Str)=one 32 ++ "3" /\ (" 2 1 0 " : Str)=one 32++("2" ++ (one 32++("1" ++ (one 32++("0" ++ one 32)))))/\(" 0 5 1 3" : Str)=one 32++("0" ++ (one 32++("5" ++ (one 32++("1" ++ (one 32 ++ "3"))))))/\("want " : Str) = "want" ++ one 32/\(" 1 4" : Str)=one 32++("1" ++ (one 32 ++ "4")):=by decide +kernel
theorem mz(a b c:Str)(s:Int):(C8 (S72 a b c s)).map (λr=>Eo (r3 r))=["ware " ++ a ++ " 1 2 0 0", "part " ++ a ++ " " ++ b ++ " 3", "ware " ++ b ++ " 2 1 0 " ++ Ba s, "ware " ++ c ++ " 0 5 1 3", "want " ++ a ++ " 1 4"]:=by
 let⟨n0,n1,n2,n3,n4,n5⟩:=A1s;let⟨l1,l2,l3,l4,l5,l6,l7,l8,l9⟩:=lit;show ["ware" ++ one 32++(a++one 32++(Ba 1++one 32++(Ba 2++one 32++(Ba 0++one 32++Ba 0)))), "part" ++ one 32++(a++one 32++(b++one 32++Ba 3)), "ware" ++ one 32++(b++one 32++(Ba 2++one 32++(Ba 1++one 32++(Ba 0++one 32++Ba s)))), "ware" ++ one 32++(c++one 32++(Ba 0++one 32++(Ba 5++one 32++(Ba 1++one 32++Ba 3)))), "want" ++ one 32++(a++one 32++(Ba 1++one 32++Ba 4))]=_;rw[n0,n1,n2,n3,n4,n5,l1,l2,l3,l4,l5,l6,l7,l8,l9];simp only[Ot]
theorem xx:(Str.ofString "ware ").length<=9/\(Str.ofString " 1 2 0 0").length<=9/\(Str.ofString "part ").length<=9/\(Str.ofString " ").length<=9/\(Str.ofString " 3").length<=9/\(Str.ofString " 2 1 0 ").length<=9/\(Str.ofString " 0 5 1 3").length<=9/\(Str.ofString "want ").length<=9/\(Str.ofString " 1 4").length<=9:=by decide +kernel
theorem yt(h:n<=300000):n<=sizeLine:=Zzp h (by decide)
local macro_rules | `(tactic| walk_at "l")=>`(tactic| (refine yt ?_;(try simp only[strLen_append]);lia))
inductive BS (vs:List V) (H:Hp) (Q:VK) (E:XK):Prop | mk (l:Addr) (a b c d:Str) (s:Int) (_:vs=[.ref l,.int s]) (_:H l=some (.lst [.str a,.str b,.str c,.str d])) (_:(a.length<=8/\b.length<=8/\c.length<=8)) (_:(0<=s/\s<=14)) (_:∀H',AB H H'->Q (.str (Cz (C8 (S72 a b c s)))) H')
theorem Y0(F:Fun K "_law_text" "_law_text" Q1 f fd)(T:Txt mg)(C:Exc K mg c):Aq P w K mg base CX0 1 f fd ["_law_names_here", "_law_stock"] BS:=by
 refine F.go ["_law_names_here", "_law_stock", "_law_rows_here"] ?_ ?_ ?_;walk_at "f";let⟨l,na,nb,nc,nd,s0,rfl,hl,⟨la,lb,lc⟩,hs,k⟩:=h;have hu:=Ao hr;refine⟨_,(A1 (B4 2 Nd (B7 (A2 (Ae Ab (Ae Ab Aa (Ac hu (pv 0) A5)) Aa) (A2 (Ae Ab (Ae Ab (Ae Ab (Ae Ab Aa (Ac hu (pv 0) A5)) Aa) (Ac hu (pv 0) A5)) Aa) A0))))
 (A1 (Gy (i:=2) Nd rfl (Zyr rfl) (B7 (A2 (Ae Ab (Ae Ab (Ae Ab Aa (Ac hu (pv 0) A5)) Aa) (Bf Nq rfl T.Zt1 Ii (A2 (pv 1) A0))) (A2 (Ae Ab (Ae Ab Aa (Ac hu (pv 0) A5)) Aa) A0))) Rk)
 (A1 (Gy (i:=2) Nd rfl (Zyr rfl) (B7 (A2 (Ae Ab (Ae Ab Aa (Ac hu (pv 0) A5)) Aa) A0)) Rk)
 (A3 (Ad (D2 Zy9 Zwd Zwc Pc Aa (A2 (pv 2) A0))))))),?_⟩
 walk_at "rd";let⟨k1,k2,k3,k4,k5,k6,k7,k8,k9⟩:=xx;have s7:0<=s0/\s0<10^577:=⟨hs.1,Zx3 hs.2 (by decide +kernel)⟩;have ns:(Str.ofString (toString s0)).length<=600:=Zzp (Nl s7).2.2.2 (by decide);refine⟨_,An (j:=0) hl rfl,na,rfl,by walk_at "l",by walk_at "l",_,An (j:=0) hl rfl,na,rfl,by walk_at "l",by walk_at "l",_,An (j:=1) hl rfl,nb,rfl,by walk_at "l",by walk_at "l",by decide,λp hp=>?_⟩;generalize e1:upd H p _=H1;let⟨h1,s1⟩:=Gp e1 hp;have hl1:=s1 _ _ hl;refine⟨_,An (j:=1) hl1 rfl,nb,rfl,by walk_at "l",by walk_at "l",N7 s7,by walk_at "l",_,An (j:=2) hl1 rfl,nc,rfl,by walk_at "l",by walk_at "l",by decide,λp2 hp2=>?_⟩;generalize e2:upd H1 p2 _=H2;let⟨h2,s2⟩:=Gp e2 hp2;refine⟨_,s2 _ _ h1,_,h2,(by show 4<=sizeLine;decide),?_⟩;generalize e3:upd H2 p _=H3;let⟨h3,s3⟩:=Wj e3 hp (s1.trans s2);refine⟨_,An (j:=0) (s3 _ _ hl) rfl,na,rfl,by walk_at "l",by walk_at "l",by decide,λp3 hp3=>?_⟩;generalize e4:upd H3 p3 _=H4;let⟨h4,s4⟩:=Gp e4 hp3;refine⟨_,s4 _ _ h3,_,h4,(by show 5<=sizeLine;decide),?_⟩;generalize e5:upd H4 p _=H5;let⟨h5,s5⟩:=Wj e5 hp (s3.trans s4);refine⟨rfl,(C8 (S72 na nb nc s0)).map (λr=>Eo (r3 r)),by rw[mz];exact h5,1000,λy hy=>?_,(by show 5*1000+5*1<=16777216;decide),k H5 s5⟩;rw[mz] at hy;simp only[Zzw,Zz2,or_false] at hy;have ns:(Ba s0).length<=600:=ns;rcases hy with rfl | rfl | rfl | rfl | rfl<;>simp only[strLen_append]<;>lia
end
section
variable {dk:Dk}{c:Cl}
section
variable {a b c:Str}
def T72(a b c:Str)(s:Int)(d:Nat):Sh:=⟨[wA a b,wB b s,wC c],[(a,1+(d:Int),4)]⟩
theorem A24(hab:a≠b)(hac:a≠c)(hbc:b≠c){s:Int}{us:List Wt}(na:Al a=true)(nb:Al b=true)(nc:Al c=true)(hs:0<=s/\s<=14){sz:Int}(h0:0<sz)(hu:X1 sz [a,b,c] us):AF sz ⟨[wA a b,wB b s,wC c],us⟩:=by
 have nd:[a,b,c].Nodup:=by simp[hab,hac,hbc]
 refine⟨⟨nd,λw hw=>?_,λw hw=>?_,λw hw p hp=>?_,λx=>if x=a then 2 else if x=b then 1 else 0,λw hw=>?_,λw hw p hp=>?_⟩,⟨by show 1<=3;decide,by show 3<=12;decide⟩,λw hw=>?_,hu⟩;all_goals simp only[Zzw,Zz2,or_false] at hw
 ·rcases hw with rfl | rfl | rfl
  ·exact⟨⟨by show (0:Int)<=1;decide,by show (1:Int)<=30;decide⟩,⟨by show (1:Int)<=2;decide,by show (2:Int)<=100;decide⟩,⟨by show (0:Int)<=0;decide,by show (0:Int)<=100;decide⟩,⟨by show (0:Int)<=0;decide,by show (0:Int)<=10^42;decide +kernel⟩,by show 1<=6;decide,λp hp=>by rw[Zzh.mp hp];exact⟨by show (1:Int)<=3;decide,by show (3:Int)<=100;decide⟩,by show [b].Nodup;simp⟩
  ·exact⟨⟨by show (0:Int)<=2;decide,by show (2:Int)<=30;decide⟩,⟨by show (1:Int)<=1;decide,by show (1:Int)<=100;decide⟩,⟨by show (0:Int)<=0;decide,by show (0:Int)<=100;decide⟩,⟨hs.1,Zxb hs.2 (by decide +kernel)⟩,by show 0<=6;decide,(λp hp=>by cases hp),Zuy⟩
  ·exact⟨⟨by show (0:Int)<=0;decide,by show (0:Int)<=30;decide⟩,⟨by show (1:Int)<=5;decide,by show (5:Int)<=100;decide⟩,⟨by show (0:Int)<=1;decide,by show (1:Int)<=100;decide⟩,⟨by show (0:Int)<=3;decide,by show (3:Int)<=10^42;decide +kernel⟩,by show 0<=6;decide,(λp hp=>by cases hp),Zuy⟩
 ·rcases hw with rfl | rfl | rfl
  ·exact na
  ·exact nb
  ·exact nc
 ·rcases hw with rfl | rfl | rfl
  ·rw[Zzh.mp hp];show b∈[a,b,c];simp
  ·cases hp
  ·cases hp
 ·show (if w.name=a then 2 else if w.name=b then 1 else 0)<3
  split
  ·decide
  ·split<;>decide
 ·rcases hw with rfl | rfl | rfl
  ·rw[Zzh.mp hp];show (if b=a then 2 else if b=b then 1 else 0)<(if a=a then 2 else if a=b then 1 else 0);rw[GD (Zza hab),GE rfl,GE rfl];decide
  ·cases hp
  ·cases hp
 ·rcases hw with rfl | rfl | rfl<;>exact⟨by show 0<=12;decide,λp hp=>by cases hp⟩
end
section
variable {a b c:Str}
theorem ka{w:Wr}(h:w.coming=[])(n:Nat):Ar n (Ci w)=Ar n λi=>if i=0 then w.stock else 0:=C3 λi _=>by
 unfold Ci;rw[h];exact Zxc _
theorem qa(hab:a≠b)(us:List Wt)(s:Int)(plan:Str->List Int)(i:Nat):Bb ⟨[wA a b,wB b s,wC c],us⟩ plan a i=Br (wAt a i) us:=by
 simp[Bb,Br,pAt,wA,wB,wC,Zza hab]
theorem A0f(hbc:b≠c)(us:List Wt)(s:Int)(plan:Str->List Int)(i:Nat):Bb ⟨[wA a b,wB b s,wC c],us⟩ plan c i=Br (wAt c i) us:=by
 simp[Bb,Br,pAt,wA,wB,wC,hbc]
theorem A0g(us:List Wt)(s:Int)(plan:Str->List Int)(i:Nat):Bb ⟨[wA a b,wB b s,wC c],us⟩ plan b i=Br (wAt b i) us+3*bAt (plan a) 1 i:=by
 simp[Bb,Br,pAt,wA,wB,wC]
end
section
variable {a b c:Str}{s:Int}
theorem Nn(d:Nat):AD (T72 a b c s d)=d+2:=by
 show (1+Ea [1+(d:Int)]).toNat=d+2;have h1:=Pf (ns:=[1+(d:Int)]) (x:=1+d) (by simp);have h2:=Pe (ns:=[1+(d:Int)]) (b:=d+2) (by lia) λx hx=>by rw[Zzh.mp hx];lia
 lia
theorem lr72(hab:a≠b)(hac:a≠c)(hbc:b≠c)(L:∀d,Lev (T72 a b c s d))(hs:s=5\/(6<=s/\s<=14)){d:Nat}(hd:d<4) :
  LR (T72 a b c s d) a=Zz4 (d+1) 0++[2]/\LR (T72 a b c s d) b=Zz4 d 0++[if s=5 then 1 else 0,0]/\LR (T72 a b c s d) c=Zz4 (d+2) 0:=by
 have w4:∀(x:Str) (i:Nat),Br (wAt x i) (T72 a b c s d).wants=if x=a/\i=d+1 then 4 else 0:=λx i=>by
  show (if a=x/\1+(d:Int)=(i:Int) then (4:Int) else 0)+0=_;by_cases h:x=a/\i=d+1
  ·rw[GE h,GE ⟨h.1.symm,by lia⟩];rfl
  ·rw[GD h,GD λz=>h ⟨z.1.symm,by lia⟩];rfl
 have d4:d=0\/d=1\/d=2\/d=3:=by lia
 have ha:LR (T72 a b c s d) a=Zz4 (d+1) 0++[2]:=by
  have e:=Jt (L d) (w:=wA a b) (by show wA a b∈[wA a b,wB b s,wC c];simp);rw[Nn,ka rfl] at e;have n:At (T72 a b c s d) (LR (T72 a b c s d)) a=Ar (d+2) λi=>if i=d+1 then 4 else 0:=by
   unfold At;rw[Nn];refine C3 λi _=>?_;rw[show Bb (T72 a b c s d) (LR (T72 a b c s d)) a i=_ from qa hab _ s _ i];exact(w4 a i).trans (by simp)
  rw[show (wA a b).name=a from rfl,n] at e;rw[e];show AQ 0 2 (Ar (d+2) λi=>if i=0 then 0 else 0) _ (d+2)=_;rcases d4 with rfl | rfl | rfl | rfl<;>decide
 have hb:LR (T72 a b c s d) b=Zz4 d 0++[if s=5 then 1 else 0,0]:=by
  have e:=Jt (L d) (w:=wB b s) (by show wB b s∈[wA a b,wB b s,wC c];simp);rw[Nn,ka rfl] at e;have n:At (T72 a b c s d) (LR (T72 a b c s d)) b=Ar (d+2) λi=>3*bAt (Zz4 (d+1) 0++[2]) 1 i:=by
   unfold At;rw[Nn];refine C3 λi _=>?_;rw[show Bb (T72 a b c s d) (LR (T72 a b c s d)) b i=_ from A0g _ s _ i,show Br (wAt b i) [(a,1+(d:Int),4)]=_ from w4 b i,ha,GD λz=>hab z.1.symm,Int.zero_add]
  rw[show (wB b s).name=b from rfl,n] at e;rw[e];show AQ 0 1 (Ar (d+2) λi=>if i=0 then s else 0) _ (d+2)=_;have s10:s=5\/s=6\/s=7\/s=8\/s=9\/s=10\/s=11\/s=12\/s=13\/s=14:=by lia
  rcases d4 with rfl | rfl | rfl | rfl<;>rcases s10 with rfl | rfl | rfl | rfl | rfl | rfl | rfl | rfl | rfl | rfl<;>decide
 have hc:LR (T72 a b c s d) c=Zz4 (d+2) 0:=by
  have e:=Jt (L d) (w:=wC c) (by show wC c∈[wA a b,wB b s,wC c];simp);rw[Nn,ka rfl] at e;have n:At (T72 a b c s d) (LR (T72 a b c s d)) c=Ar (d+2) λi=>0:=by
   unfold At;rw[Nn];refine C3 λi _=>?_;rw[show Bb (T72 a b c s d) (LR (T72 a b c s d)) c i=_ from A0f hbc _ s _ i];exact(w4 c i).trans (by simp[Zza hac])
  rw[show (wC c).name=c from rfl,n] at e;rw[e];show AQ 1 5 (Ar (d+2) λi=>if i=0 then 3 else 0) _ (d+2)=_;rcases d4 with rfl | rfl | rfl | rfl<;>decide
 exact⟨ha,hb,hc⟩
end
end
section
variable {dk:Dk}{c:Cl}
section
variable {a b c:Str}{s:Int}
structure Nm(a b c:Str)(s:Int):Prop where
 ab:a≠b
 ac:a≠c
 bc:b≠c
 na:Al a=true
 nb:Al b=true
 nc:Al c=true
 hs:s=5\/(6<=s/\s<=14)
theorem Nm.good(h:Nm a b c s){us:List Wt}{sz:Int}(h0:0<sz)(hu:X1 sz [a,b,c] us):AF sz ⟨[wA a b,wB b s,wC c],us⟩:=A24 h.ab h.ac h.bc h.na h.nb h.nc (by have:=h.hs;lia) h0 hu
theorem Nm.goodT(h:Nm a b c s)(d:Nat):AF (2+(d:Int)) (T72 a b c s d):=h.good (by lia) ⟨by show 1<=20;decide,λu hu=>by
 rw[Zzh.mp hu]
 exact⟨by show a∈[a,b,c];simp,⟨by show 0<=1+(d:Int);lia,by show 1+(d:Int)<2+(d:Int);lia⟩,by show (0:Int)<=4;decide,by show (4:Int)<10^41;decide +kernel⟩⟩
theorem Nm.goodS(h:Nm a b c s):AF 11 (S72 a b c s):=h.good (by decide) ⟨by show 1<=20;decide,λu hu=>by
 rw[Zzh.mp hu]
 exact⟨by show a∈[a,b,c];simp,⟨by show (0:Int)<=1;decide,by show (1:Int)<11;decide⟩,by show (0:Int)<=4;decide,by show (4:Int)<10^41;decide +kernel⟩⟩
theorem Nm.lr(h:Nm a b c s){d:Nat}(hd:d<4):LR (T72 a b c s d) a=Zz4 (d+1) 0++[2]/\LR (T72 a b c s d) b=Zz4 d 0++[if s=5 then 1 else 0,0]/\LR (T72 a b c s d) c=Zz4 (d+2) 0:=lr72 h.ab h.ac h.bc (λd=>(Eb (h.goodT d)).toLev) h.hs hd
theorem fh{us:List Wt}{w:Wr}(h:w∈(⟨[wA a b,wB b s,wC c],us⟩:Sh).wares):w=wA a b\/w=wB b s\/w=wC c:=by
 have h:w∈[wA a b,wB b s,wC c]:=h;simpa using h
theorem Nm.early(h:Nm a b c s){d:Nat}(hd:d<4):Bq (LR (T72 a b c s d) a) 1=none/\Bq (LR (T72 a b c s d) b) 2=(if s=5/\d<2 then some d else none)/\Bq (LR (T72 a b c s d) c) 0=none:=by
 let⟨e1,e2,e3⟩:=h.lr hd;have d4:d=0\/d=1\/d=2\/d=3:=by lia
 rw[e1,e2,e3];by_cases h5:s=5
 ·subst h5;rcases d4 with rfl | rfl | rfl | rfl<;>decide
 ·rw[GD h5,GD λz=>h5 z.1];rcases d4 with rfl | rfl | rfl | rfl<;>decide
theorem Nm.ok(h:Nm a b c s){d:Nat}(hd:d<4):Bn (T72 a b c s d)↔¬ (s=5/\d<2):=by
 let⟨e1,e2,e3⟩:=h.early hd;constructor
 ·intro p z;have:=p (wB b s) (by show wB b s∈[wA a b,wB b s,wC c];simp);rw[show Bq (LR (T72 a b c s d) (wB b s).name) (wB b s).lag=_ from e2,GE z] at this;cases this
 ·intro z w hw;rcases fh hw with rfl | rfl | rfl
  ·exact e1
  ·exact e2.trans (GD z)
  ·exact e3
theorem Nm.said(h:Nm a b c s)(p:Hr (S72 a b c s) y):y=if s=5 then "short " ++ b ++ " 0 1" else a ++ " 1:2" := by
 have p:Hr (T72 a b c s 0) y:=p;let⟨r1,r2,r3⟩:=h.lr (d:=0) (by decide);let⟨e1,e2,e3⟩:=h.early (d:=0) (by decide);let⟨ys,i,sb,he,hc⟩:=p;have pm:ys.Perm [a,b,c]:=(Em sb).1;rcases hc with ⟨hi,rfl⟩ | ⟨w,d,hw,hy,hd,rfl⟩
 ·have n5:s≠5:=λz=>by
   have:=he (wB b s) (by show wB b s∈[wA a b,wB b s,wC c];simp) (by rw[hi,Zz7];exact pm.mem_iff.mpr (by show b∈[a,b,c];simp));rw[show Bq (LR (T72 a b c s 0) (wB b s).name) (wB b s).lag=_ from e2,GE ⟨z,by decide⟩] at this;cases this
  rw[GD n5];have hf:ys.filter (Kv (T72 a b c s 0))=[a]:=by
   have f:([a,b,c]:List Str).filter (Kv (T72 a b c s 0))=[a]:=by
    have q1:Kv (T72 a b c s 0) a=true:=by unfold Kv Fj;rw[r1];decide +kernel
    have q2:Kv (T72 a b c s 0) b=false:=by unfold Kv Fj;rw[r2,GD n5];decide +kernel
    have q3:Kv (T72 a b c s 0) c=false:=by unfold Kv Fj;rw[r3];decide +kernel
    simp[Zxk,q1,q2,q3]
   have:=pm.filter (Kv (T72 a b c s 0));rw[f] at this;exact List.perm_singleton.mp this
  unfold Ji qv Fj;rw[hf];show Str.join (one 32) (a::Fw (LR (T72 a b c s 0) a) (LR (T72 a b c s 0) a).length)=_;rw[r1];have e:Fw ([0,2]:List Int) 2=[("1:2" : Str)]:=by decide +kernel
  show Str.join (one 32) (a::Fw ([0,2]:List Int) 2)=_;rw[e];show a++one 32 ++ "1:2" = _;rw[Ot,show one 32 ++ "1:2" = (" 1:2" : Str) by decide +kernel]
 ·rcases fh hw with rfl | rfl | rfl
  ·cases e1.symm.trans hd
  ·have e2':=e2.symm.trans hd
   have h5:s=5:=by
    by_cases z:s=5
    ·exact z
    ·rw[GD λy=>z y.1] at e2';cases e2'
   subst h5;rw[GE ⟨rfl,by decide⟩] at e2';cases e2';rw[GE rfl];unfold mm;show "short" ++ one 32++(b++one 32++(Ba 0++one 32++Ba ((LR (T72 a b c 5 0) b).getD 0 0)))=_;rw[r2,show ("short " : Str) = "short" ++ one 32 by decide +kernel,show (" 0 1" : Str)=one 32++(Ba 0++one 32++Ba ((Zz4 0 (0:Int)++[if (5:Int)=5 then 1 else 0,0]).getD 0 0)) by decide +kernel];simp only[Ot]
  ·cases e3.symm.trans hd
end
end
section
variable {dk:Dk}{c:Cl}
section
variable {a b c:Str}{s:Int}
def N72(a b c:Str)(s:Int):Sh:=⟨[wA a b,wB b s,wC c],[]⟩
theorem Nm.goodN(h:Nm a b c s):AF 11 (N72 a b c s):=h.good (by decide) ⟨by show 0<=20;decide,λu hu=>by cases hu⟩
theorem Nm.tm(h:Nm a b c s):∀w∈(S72 a b c s).wares,tm (S72 a b c s) w.name<=3:=by
 have L:=(Eb h.goodS).toLev;have e1:=Tm L (w:=wA a b) (by show wA a b∈[wA a b,wB b s,wC c];simp);have e2:NP.tm (S72 a b c s) b=2:=Tm L (w:=wB b s) (by show wB b s∈[wA a b,wB b s,wC c];simp);have e3:NP.tm (S72 a b c s) c=0:=Tm L (w:=wC c) (by show wC c∈[wA a b,wB b s,wC c];simp);have e1:NP.tm (S72 a b c s) a=1+Ea [NP.tm (S72 a b c s) b]:=e1;rw[e2] at e1;have e4:Ea [(2:Int)]=2:=by decide
 intro w hw;rcases fh hw with rfl | rfl | rfl
 ·show NP.tm (S72 a b c s) a<=3
  lia
 ·show NP.tm (S72 a b c s) b<=3
  lia
 ·show NP.tm (S72 a b c s) c<=3
  lia
theorem Nm.late(h:Nm a b c s){n:Int}(l:S0 (S72 a b c s) n):n=if s=5 then 2 else 0:=by
 let⟨n0,_,h2,h3,w,hw,h4⟩:=l;have n3:=h.tm w hw;let⟨d,rfl⟩:=Zx9 n0;have d4:d<4:=by lia
 have p2:=(h.ok d4).mp h2;split
 ·rename_i h5;have d2:¬ d<2:=λz=>p2 ⟨h5,z⟩;rcases h3 with z | z
  ·lia
  ·by_cases e:d=2
   ·rw[e];rfl
   ·have e3:d=3:=by lia
    subst e3;exact absurd ((h.ok (d:=2) (by decide)).mpr λy=>absurd y.2 (by decide)) z
 ·rename_i h5;rcases h3 with z | z
  ·exact z
  ·by_cases e:d=0
   ·rw[e];rfl
   ·refine absurd ?_ z;obtain⟨k,rfl⟩:∃k,d=k+1:=⟨d - 1,by lia⟩;have:Bn (T72 a b c s k):=(h.ok (by lia)).mpr λy=>h5 y.1;rw[show ((k+1:Nat):Int) - 1=(k:Nat) by lia];exact this
theorem Wn:AD (N72 a b c s)=1:=rfl
theorem Nm.lrN(h:Nm a b c s):LR (N72 a b c s) a=[0]/\LR (N72 a b c s) b=[0]/\LR (N72 a b c s) c=[0]:=by
 have L:=(Eb h.goodN).toLev;have w0:∀(x:Str) (i:Nat),Br (wAt x i) ([]:List Wt)=0:=λ_ _=>rfl;have ha:LR (N72 a b c s) a=[0]:=by
  have e:=Jt L (w:=wA a b) (by show wA a b∈[wA a b,wB b s,wC c];simp);have n:At (N72 a b c s) (LR (N72 a b c s)) a=[0]:=by
   show [Bb (N72 a b c s) (LR (N72 a b c s)) a 0]=[0];rw[show Bb (N72 a b c s) (LR (N72 a b c s)) a 0=_ from qa h.ab [] s _ 0,w0]
  rw[Wn,ka rfl,show (wA a b).name=a from rfl,n] at e;rw[e];show AQ 0 2 (Ar 1 λi=>if i=0 then 0 else 0) [0] 1=[0];decide
 have hb:LR (N72 a b c s) b=[0]:=by
  have e:=Jt L (w:=wB b s) (by show wB b s∈[wA a b,wB b s,wC c];simp);have n:At (N72 a b c s) (LR (N72 a b c s)) b=[0]:=by
   show [Bb (N72 a b c s) (LR (N72 a b c s)) b 0]=[0];rw[show Bb (N72 a b c s) (LR (N72 a b c s)) b 0=_ from A0g [] s _ 0,w0,ha];rfl
  rw[Wn,ka rfl,show (wB b s).name=b from rfl,n] at e;rw[e];show AQ 0 1 (Ar 1 λi=>if i=0 then s else 0) [0] 1=[0];have s10:s=5\/s=6\/s=7\/s=8\/s=9\/s=10\/s=11\/s=12\/s=13\/s=14:=by have:=h.hs;lia
  rcases s10 with rfl | rfl | rfl | rfl | rfl | rfl | rfl | rfl | rfl | rfl<;>decide
 have hc:LR (N72 a b c s) c=[0]:=by
  have e:=Jt L (w:=wC c) (by show wC c∈[wA a b,wB b s,wC c];simp);have n:At (N72 a b c s) (LR (N72 a b c s)) c=[0]:=by
   show [Bb (N72 a b c s) (LR (N72 a b c s)) c 0]=[0];rw[show Bb (N72 a b c s) (LR (N72 a b c s)) c 0=_ from A0f h.bc [] s _ 0,w0]
  rw[Wn,ka rfl,show (wC c).name=c from rfl,n] at e;rw[e];show AQ 1 5 (Ar 1 λi=>if i=0 then 3 else 0) [0] 1=[0];decide
 exact⟨ha,hb,hc⟩
theorem Nm.okN(h:Nm a b c s):Bn (N72 a b c s):=λw hw=>by
 let⟨e1,e2,e3⟩:=h.lrN;rcases fh hw with rfl | rfl | rfl
 ·show Bq (LR (N72 a b c s) a) 1=none
  rw[e1];decide
 ·show Bq (LR (N72 a b c s) b) 2=none
  rw[e2];decide
 ·show Bq (LR (N72 a b c s) c) 0=none
  rw[e3];decide
theorem Nm.saidN(h:Nm a b c s)(p:Hr (N72 a b c s) y):y = "" := by
 let⟨e1,e2,e3⟩:=h.lrN;let⟨ys,i,sb,he,hc⟩:=p;have pm:ys.Perm [a,b,c]:=(Em sb).1;rcases hc with ⟨hi,rfl⟩ | ⟨w,d,hw,hy,hd,rfl⟩
 ·have hf:ys.filter (Kv (N72 a b c s))=[]:=by
   rw[List.filter_eq_nil_iff];intro x hx;have hx:=pm.mem_iff.mp hx;simp only[Zzw,Zz2,or_false] at hx;unfold Kv Fj;rcases hx with rfl | rfl | rfl
   ·rw[e1];decide
   ·rw[e2];decide
   ·rw[e3];decide
  unfold Ji;rw[hf];show Str.join (one 10) []=_;decide +kernel
 ·rw[h.okN w hw] at hd;cases hd
theorem Nm.stockN(h:Nm a b c s):G5 (N72 a b c s) (LR (N72 a b c s)) (wA a b)=[0]:=by
 let⟨e1,_⟩:=h.lrN;show [0+jo (N72 a b c s) (LR (N72 a b c s)) (wA a b) 0]=[0];unfold jo;rw[show (wA a b).name=a from rfl,e1,show Bb (N72 a b c s) (LR (N72 a b c s)) a 0=_ from qa h.ab [] s _ 0];rfl
end
end
section
variable {dk:Dk}{c:Cl}
theorem Yh:∀{xs:List Str},(∀x∈xs,PyData.strOk x=true)->PyData.canLayAll0 (xs.map .str)=true/\PyData.depthAll (xs.map .str)<=1
 |[],_=>by rw[Zy1,PyData.canLayAll0,PyData.depthAll];exact⟨rfl,by decide⟩
 |x::r,h=>by
  have ih:=Yh (xs:=r) λy hy=>h y (Zzs _ hy);rw[Zzk,PyData.canLayAll0,PyData.depthAll,PyData.canLay0,h x Zzq,PyData.depth,ih.1];exact⟨rfl,Nat.max_le.mpr ⟨by decide,ih.2⟩⟩
theorem Y8{xs:List Str}(h:∀x∈xs,PyData.strOk x=true):okD (.list (xs.map .str))=true/\okD (.tuple (xs.map .str))=true:=by
 let⟨a,b⟩:=Yh h;unfold okD;rw[PyData.canLay0,PyData.depth,PyData.canLay0,PyData.depth,a,Zyk];exact⟨GB (by lia),GB (by lia)⟩
theorem Jc:∀xs:List Str,RDs H (xs.map .str) (xs.map V.str)
 |[]=>RDs.nil
 |_::r=>RDs.cons RD.str_mk (Jc r)
theorem EQ:PyData.strOk x=true↔∀c∈x.cps.toList,c<0x110000:=by
 unfold PyData.strOk;rw[<- Array.all_toList,Zyv];exact⟨λh c hc=>GA (h c hc),λh c hc=>GB (h c hc)⟩
theorem Rn:∀ys:List Str,PyData.eqvAll (ys.map .str) (ys.map .str)=true
 |[]=>by rw[Zy1,PyData.eqvAll]
 |y::r=>by rw[Zzk,PyData.eqvAll,PyData.eqv,Rn r];simp
theorem AV.ku{dk:Dk}{x:Addr}(h:AV dk H x o)(k:AZ H H')(hx:∀u,H x=some u->H' x=some u):AV dk H' x o:=by
 cases o with
 |none=>let⟨dx,h⟩:=h;exact⟨dx,hx _ h⟩
 |some S=>let⟨v,⟨dx,h1⟩,h2,h3⟩:=h;exact⟨v,⟨dx,hx _ h1⟩,RD.ku k _ _ (Fz S) h2,h3⟩
theorem AV.same{dk:Dk}{x:Addr}(h:AV dk H x o)(s:AB H H'):AV dk H' x o:=h.ku s.ku λu=>s x u
theorem AV.st{dk:Dk}{x st:Addr}(h:AV dk H x o)(s:AT H st)(b:But st H H'):AV dk H' x o:=h.ku (zc b s) λu e=>b x u (λz=>by
 let⟨dx,v,hx⟩:=Dq h
 let⟨ns,_,es⟩:=s
 rw[z,es] at hx
 cases hx) e
theorem AV.tb{dk:Dk}{x:Addr}(h:AV dk H x o)(t:Tb H Pt)(b:But Pt H H'):AV dk H' x o:=h.ku (Nw t b) λu e=>b x u (by
 let⟨dx,v,hx⟩:=Dq h
 exact Im t hx λu z=>by cases z) e
section
variable {a b c:Str}{s:Int}
def Ql(a b:Str)(s:Int):Str:=if s=5 then "short " ++ b ++ " 0 1" else a ++ " 1:2"
def Lv(s:Int):Str:=if s=5 then "2" else "0"
theorem Nm.plOk(h:Nm a b c s):PyData.strOk (Ql a b s)=true/\PyData.strOk (Lv s)=true:=by
 have ca:∀x:Str,Al x=true->∀y z:Str,(∀c∈y.cps.toList,c<0x110000)->(∀c∈z.cps.toList,c<0x110000)->PyData.strOk (y++x++z)=true:=λx hx y z hy hz=>EQ.mpr λc hc=>by
  rw[Zwv,Zwv] at hc;rcases Zz3.mp hc with hc | hc
  ·rcases Zz3.mp hc with hc | hc
   ·exact hy c hc
   ·exact Yc hx c hc
  ·exact hz c hc
 unfold Ql Lv;split
 ·exact⟨ca b h.nb _ _ (by decide +kernel) (by decide +kernel),by decide +kernel⟩
 ·refine⟨?_,by decide +kernel⟩;have:=ca a h.na Str.empty " 1:2" (by decide +kernel) (by decide +kernel);rwa [Str.empty_append] at this
def A3e:Qn:=⟨"plan",[],[],by decide +kernel,.nil⟩
def A3f:Qn:=⟨"late",[],[],by decide +kernel,.nil⟩
theorem Rp{q:Qn}(h:bo S (q.keys.zip q.form)=none)(n:q.first ≠ "want"):q.due S=none:=by
 unfold Qn.due;rw[h,GD λz=>n z.1];rfl
theorem Hg(S:Sh):AN (some S) (.str "plan") (.say (Hr S)):=AN.ans A3e rfl (by show ¬ ("plan" : Str) = "want";decide +kernel) (by show ¬ ("plan" : Str) = "drop";decide +kernel) (Rp rfl (by show ¬ ("plan" : Str) = "want";decide +kernel)) .plan
theorem Mr(h:Bn (noS S)):AN (some S) (.str "late") (.say λy=>∃n,S0 S n/\y=Ba n):=AN.ans A3f rfl (by show ¬ ("late" : Str) = "want";decide +kernel) (by show ¬ ("late" : Str) = "drop";decide +kernel) (Rp rfl (by show ¬ ("late" : Str) = "want";decide +kernel)) (.late h)
theorem Nm.late'(h:Nm a b c s)(l:∃n,S0 (S72 a b c s) n/\y=Ba n):y=Lv s:=by
 let⟨n,l,rfl⟩:=l;rw[h.late l];unfold Lv;split<;>decide +kernel
end
inductive Gj (dk:Dk) (Pt:Addr) (vs:List V) (H:Hp) (Q:VK) (E:XK):Prop | mk (x:Addr) (y a b c:Str) (s:Int) (e:Ek) (_:vs=[.ref x,.str y,.int (e.ix:Nat)]) (_:Nm a b c s) (_:AV dk H x (some (S72 a b c s))) (_:Tb H Pt) (_:AN (some (S72 a b c s)) (.str y) (.no e)) (_:∀H',Tb H' Pt->But Pt H H'->Q (.bl true) H')
theorem Y1(F:Fun K "_law_same" "_law_same" Q2 f fd)(T:Txt mg)(De:Dsk K mg dk)(C:Exc K mg c)(Zur:S2 P w K mg base dk.ft 12 ["self", "text"] (Da c dk Pt))(Zu8:Has P w K mg base "_law_refused" 13 ["_law_desk", "_law_text_here", "_law_due"] (G6 dk Pt)):Aq P w K mg base CX0 14 f fd ["_law_desk", "_law_text_here", "_law_due"] (Gj dk Pt):=by
 refine F.go ["_law_desk", "_law_text_here", "_law_due", "_law_before"] ?_ ?_ ?_;walk_at "f";let⟨x,y,na,nb,nc,s0,e,rfl,nm,kp,tb,tl,k⟩:=h;have hu:=Ao hr;have hu4:=Wi hr;refine⟨_,(A1 (B4 3 Nd (B7 (A2 (Ce Zur Cw (pv 0) De.c De.mt hr.z (A2 Aa A0)) (A2 (Ce Zur Cw (pv 0) De.c De.mt hr.z (A2 Aa A0)) A0))))
 (A3 (Ad (D3 (A9 Zu8 hr.z rfl (A2 (pv 0) (A2 (pv 1) (A2 (pv 2) A0)))) (E9 (Bt (ou hu4) (B7 (A2 (Ce Zur Cw (pv 0) De.c De.mt hr.z (A2 Aa A0)) (A2 (Ce Zur Cw (pv 0) De.c De.mt hr.z (A2 Aa A0)) A0))) (pv 3) (Ak _))))))),?_⟩
 walk_at "rd";let⟨dx,v,hx⟩:=Dq kp;refine⟨dx,_,hx,rfl,x,_,_,_,rfl,kp,tb,Hg _,λy1 H1 p1 t1 b1=>?_⟩;obtain rfl:=nm.said p1;have kp1:=kp.tb tb b1;let⟨dx1,v1,hx1⟩:=Dq kp1;refine⟨dx1,_,hx1,rfl,x,_,_,_,rfl,kp1,t1,Mr nm.okN,λy2 H2 p2 t2 b2=>⟨by decide,λp hp=>?_⟩⟩;obtain rfl:=nm.late' p2;have u:=A7 (o:=.lst [V.str (Ql na nb s0),V.str (Lv s0)]) hp;have kp3:=(kp1.tb t1 b2).same u;have t3:=t2.same u;have h3:=AA (H:=H2) (a:=p) (o:=.lst [V.str (Ql na nb s0),V.str (Lv s0)]);have b3:But Pt H (upd H2 p (.lst [V.str (Ql na nb s0),V.str (Lv s0)])):=b1.trans (b2.trans (Bc u));refine⟨x,_,_,e,rfl,kp3,t3,tl,λH4 t4 b4=>⟨true,rfl,?_⟩⟩;rw[GE rfl];have kp4:=kp3.tb t3 b4;have h4:=b4 _ _ (Im t3 h3 λu z=>by cases z) h3;have b04:=b3.trans b4;let⟨dx4,v4,hx4⟩:=Dq kp4;refine⟨dx4,_,hx4,rfl,x,_,_,_,rfl,kp4,t4,Hg _,λy5 H5 p5 t5 b5=>?_⟩;obtain rfl:=nm.said p5;have kp5:=kp4.tb t4 b5;have h5:=b5 _ _ (Im t4 h4 λu z=>by cases z) h4;let⟨dx5,v5,hx5⟩:=Dq kp5;refine⟨dx5,_,hx5,rfl,x,_,_,_,rfl,kp5,t5,Mr nm.okN,λy6 H6 p6 t6 b6=>⟨by decide,λq hq=>?_⟩⟩;obtain rfl:=nm.late' p6;have h6:=b6 _ _ (Im t5 h5 λu z=>by cases z) h5;have u7:=A7 (o:=.lst [V.str (Ql na nb s0),V.str (Lv s0)]) hq;have ok:=(Y8 (xs:=[Ql na nb s0,Lv s0]) λx hx=>by
  simp only[Zzw,Zz2,or_false] at hx
  rcases hx with rfl | rfl
  ·exact nm.plOk.1
  ·exact nm.plOk.2).1
 refine⟨_,RD.lst_mk AA (Jc [Ql na nb s0,Lv s0]),_,RD.lst_mk (u7 _ _ h6) (Jc [Ql na nb s0,Lv s0]),ok,ok,?_⟩;rw[show PyData.eqv (.list ([Ql na nb s0,Lv s0].map .str)) (.list ([Ql na nb s0,Lv s0].map .str))=true by rw[PyData.eqv];exact Rn _];exact k _ (t6.same u7) (b04.trans (b5.trans (b6.trans (Bc u7))))
end
section
variable {dk:Dk}{c:Cl}
section
variable {a b c d:Str}{s:Int}
theorem Ix(q:Qn){e:Ek}(ey:y=q.text)(h:q.dueO o=some e):AN o (.str y) (.no e):=by
 rw[ey];exact AN.due q h
theorem Pu(ey:y=Str.join (one 32) (x::ws))(ns:Txt.startswith y "shop\n" = false)(hw:∀w∈x::ws,32∉w.cps.toList/\w.length<=60)(few:ws.length<=5)(bad:x∉BJ.map (·.1)\/∃fs,(x,fs)∈BJ/\(ws.length=fs.length->Os ws fs)/\Fi ws fs=false):AN o (.str y) (.no .text):=by
 refine AN.bad (x:=x) (ws:=ws) ⟨ns,by rw[ey];exact En (by decide) (by simp) λw hm=>(hw w hm).1,?_,by lia,bad⟩;have:=Gd (sep:=one 32) (B:=60) (xs:=x::ws) λw hm=>(hw w hm).2;rw[ey];rw[Zyz,show (one 32).length=1 from rfl] at this;lia
def dy(x:Str)(h:Al x=true):Qn:=⟨"stock",["name"],[.inr x],by decide +kernel,.name h .nil⟩
def nu(x:Str)(h:Al x=true)(n:Int)(h0:0<=n)(h1:n<10^60):Qn:=⟨"most",["name", "day"],[.inr x,.inl n],by decide +kernel,.name h (.num (.inl rfl) h0 h1 .nil)⟩
def V5(x:Str)(h:Al x=true)(n:Int)(h0:0<=n)(h1:n<10^60):Qn:=⟨"serves",["name", "day"],[.inr x,.inl n],by decide +kernel,.name h (.num (.inl rfl) h0 h1 .nil)⟩
def A0c(n:Nat)(h1:(n:Int)<10^60):Qn:=⟨"drop",["place"],[.inl n],by decide +kernel,.num (.inr (.inr rfl)) (by lia) h1 .nil⟩
def A3d(x:Str)(h:Al x=true)(n m:Int)(h0:0<=n)(h1:n<10^60)(g0:0<=m)(g1:m<10^60):Qn:=⟨"want",["name", "day", "number"],[.inr x,.inl n,.inl m],by decide +kernel,.name h (.num (.inl rfl) h0 h1 (.num (.inr (.inl rfl)) g0 g1 .nil))⟩
def i9(x:Str)(h:Al x=true)(n:Int)(h0:0<=n)(h1:n<10^60):Qn:=⟨"buy",["name", "number", "number", "number"],[.inr x,.inl n,.inl n,.inl n],by decide +kernel,.name h (.num (.inr (.inl rfl)) h0 h1 (.num (.inr (.inl rfl)) h0 h1 (.num (.inr (.inl rfl)) h0 h1 .nil)))⟩
theorem fc{α:Type}{P:α->Prop}{x:α}{r:List α}(h:P x)(k:∀w∈r,P w):∀w∈x::r,P w:=λw hm=>by
 rcases Zzw.mp hm with rfl | hm
 ·exact h
 ·exact k w hm
theorem fn{α:Type}{P:α->Prop}:∀w∈([]:List α),P w:=λw hm=>by cases hm
theorem nmW(h:Al x=true):32∉x.cps.toList/\x.length<=60:=(Gq (k:=.inr x) h).imp (·.1) id
theorem tx3{p f:Str}(h1:p=f++one 32)(h2:q=one 32++Str.join (one 32) (y::ws)):p++x++q=Str.join (one 32) (f::x::y::ws):=by
 rw[h1,h2];show _=f++one 32++(x++one 32++Str.join (one 32) (y::ws));simp only[Ot]
theorem tx2{p f:Str}(h1:p=f++one 32):p++x=Str.join (one 32) [f,x]:=by
 rw[h1];rfl
theorem G2{fs:List Str}(ey:y=Str.join (one 32) (x::ws))(hf:(x,fs)∈BJ)(hw:∀w∈ws,32∉w.cps.toList/\w.length<=60)(few:ws.length<=5)(fine:ws.length=fs.length->Os ws fs)(bad:Fi ws fs=false):AN o (.str y) (.no .text) :=
 Pu ey (by rw[ey];exact To hf) (fc ⟨(K2 _ hf).1,(K2 _ hf).2.1⟩ hw) few (.inr ⟨fs,hf,fine,bad⟩)
theorem Mh{q:Qn}{fs:List Str}(k:q.keys=.inr x::ks)(f:q.form=("name" : Str)::fs)(h:x∉S.wares.map (·.name)):q.due S=some .name:=by
 unfold Qn.due;rw[k,f];show ((if x∈S.wares.map (·.name) then none else some Ek.name).or _).or _=_;rw[GD h];rfl
theorem Pi{q:Qn}{n:Int}{fs:List Str}(k:q.keys=.inr x::.inl n::ks)(f:q.form=("name" : Str)::("day" : Str)::fs)(h:x∈S.wares.map (·.name))(hn:400<n):q.due S=some .day:=by
 unfold Qn.due;rw[k,f];show ((if x∈S.wares.map (·.name) then none else some Ek.name).or ((if (("day" : Str) = "day" /\ 400<n)\/_ then some Ek.day else none).or _)).or _=_;rw[GE h,GE (.inl ⟨rfl,hn⟩)];rfl
noncomputable def txs(a b d:Str):List (Str×Ek):=[("buy " ++ a ++ " 1 1",.text),("buy A 1 1 1",.text),("most " ++ a ++ " 1 ",.text),("serves " ++ a ++ " x",.text),("stock " ++ d,.name),("most " ++ d ++ " 401",.name),("buy " ++ d ++ " 1 1 1",.name),("most " ++ a ++ " 401",.day),("serves " ++ a ++ " 500",.day),("drop 1",.day),("want " ++ b ++ " 999 0",.day),("buy " ++ a ++ " 0 0 0",.buy),("late x",.text),("plan plan",.text),("late\n",.text),(" late",.text)]
def Ek.ahead:Ek->Ek
 |.text=>.text
 |_=>.shop
def zo(a b c:Str)(z:Str×Ek):Prop:=AN none (.str z.1) (.no z.2.ahead)/\∀s,AN (some (S72 a b c s)) (.str z.1) (.no z.2)
theorem Gk(h:∀o,AN o (.str y) (.no .text)):zo a b c (y,.text):=⟨h _,λs=>h _⟩
theorem Kq{e:Ek}(q:Qn)(ey:y=q.text)(ne:e.ahead=.shop)(h:∀s,q.due (S72 a b c s)=some e):zo a b c (y,e):=⟨by
 show AN none (.str y) (.no e.ahead)
 rw[ne]
 exact Ix q ey rfl,λs=>Ix q ey (h s)⟩
theorem zb(h:Al x=true){n:Int}(h0:0<=n)(h1:n<10^60)(hm:x∈S.wares.map (·.name)):(i9 x h n h0 h1).due S=none:=by
 have nd:¬ ((("number" : Str) = "day" /\ 400<n)\/(("number" : Str) = "place" /\ ((S.wants.length:Nat):Int)<=n)):=λz=>by
  rcases z with ⟨z,_⟩ | ⟨z,_⟩<;>exact absurd z (by decide +kernel)
 have e:K8 S (.inl n, "number")=none:=GD (t:=some Ek.day) nd;have e0:K8 S (.inr x, "name")=none:=GE (e:=some Ek.name) hm;exact Rp (Ed (fc e0 (fc e (fc e (fc e fn))))) (by show ¬ ("buy" : Str) = "want";decide +kernel)
theorem A0z(na:Al a=true)(nb:Al b=true)(nd:Al d=true)(hd:d∉[a,b,c]):∀z∈txs a b d,zo a b c z:=by
 have ma:∀s,a∈(S72 a b c s).wares.map (·.name):=λs=>by show a∈[a,b,c];simp
 have mb:∀s,b∈(S72 a b c s).wares.map (·.name):=λs=>by show b∈[a,b,c];simp
 have lw:∀{x:Str},(32∉x.cps.toList/\x.length<=60)->32∉x.cps.toList/\x.length<=60:=λh=>h;refine fc ?_ (fc ?_ (fc ?_ (fc ?_ (fc ?_ (fc ?_ (fc ?_ (fc ?_ (fc ?_ (fc ?_ (fc ?_ (fc ?_ (fc ?_ (fc ?_ (fc ?_ (fc ?_ fn)))))))))))))))
 ·exact Gk λo=>G2 (x := "buy") (ws:=[a, "1", "1"]) (fs:=["name", "number", "number", "number"]) (tx3 (by decide +kernel) (by decide +kernel)) (by decide +kernel) (fc (nmW na) (by decide +kernel)) (by show 3<=5;decide) (λz=>by cases z) (Md (by show 3≠4;decide))
 ·exact Gk λo=>G2 (x := "buy") (ws:=["A", "1", "1", "1"]) (fs:=["name", "number", "number", "number"]) (by decide +kernel) (by decide +kernel) (by decide +kernel) (by decide) (λ_=>by unfold Os;decide +kernel) (by decide +kernel)
 ·exact Gk λo=>G2 (x := "most") (ws:=[a, "1", ""]) (fs:=["name", "day"]) (tx3 (by decide +kernel) (by decide +kernel)) (by decide +kernel) (fc (nmW na) (by decide +kernel)) (by show 3<=5;decide) (λz=>by cases z) (Md (by show 3≠2;decide))
 ·refine Gk λo=>G2 (x := "serves") (ws:=[a, "x"]) (fs:=["name", "day"]) (tx3 (by decide +kernel) (by decide +kernel)) (by decide +kernel) (fc (nmW na) (by decide +kernel)) (by show 2<=5;decide) (λ_=>fc ?_ (by decide +kernel)) ?_
  ·show if ("name" : Str) = "name" then _ else _
   rw[GE rfl];exact .inl na
  ·show (true&&(Fm "name" a&&(Fm "day" "x" && true)))=false
   rw[show Fm "day" "x" = false by decide +kernel,Zx6,Zwt,Zwt]
 ·exact Kq (dy d nd) (tx2 (f := "stock") (by decide +kernel)) rfl λs=>Mh rfl rfl hd
 ·exact Kq (nu d nd 401 (by decide) (by decide +kernel)) (tx3 (f := "most") (y:=Ba 401) (ws:=[]) (by decide +kernel) (by decide +kernel)) rfl λs=>Mh rfl rfl hd
 ·exact Kq (i9 d nd 1 (by decide) (by decide +kernel)) (tx3 (f := "buy") (y:=Ba 1) (ws:=[Ba 1,Ba 1]) (by decide +kernel) (by decide +kernel)) rfl λs=>Mh rfl rfl hd
 ·exact Kq (nu a na 401 (by decide) (by decide +kernel)) (tx3 (f := "most") (y:=Ba 401) (ws:=[]) (by decide +kernel) (by decide +kernel)) rfl λs=>Pi rfl rfl (ma s) (by decide)
 ·exact Kq (V5 a na 500 (by decide) (by decide +kernel)) (tx3 (f := "serves") (y:=Ba 500) (ws:=[]) (by decide +kernel) (by decide +kernel)) rfl λs=>Pi rfl rfl (ma s) (by decide)
 ·refine Kq (A0c 1 (by decide +kernel)) (by decide +kernel) rfl λs=>?_;show ((if (("place" : Str) = "day" /\ (400:Int)<((1:Nat):Int))\/(("place" : Str) = "place" /\ ((1:Nat):Int)<=((1:Nat):Int)) then some Ek.day else none).or none).or _=_;rw[GE (.inr ⟨rfl,Zz5 _⟩)];rfl
 ·exact Kq (A3d b nb 999 0 (by decide) (by decide +kernel) (by decide) (by decide +kernel)) (tx3 (f := "want") (y:=Ba 999) (ws:=[Ba 0]) (by decide +kernel) (by decide +kernel)) rfl λs=>Pi rfl rfl (mb s) (by decide)
 ·have e : "buy " ++ a ++ " 0 0 0" = (i9 a na 0 (by decide) (by decide +kernel)).text:=tx3 (f := "buy") (y:=Ba 0) (ws:=[Ba 0,Ba 0]) (by decide +kernel) (by decide +kernel)
  refine⟨Ix _ e rfl,λs=>?_⟩;show AN _ (.str ("buy " ++ a ++ " 0 0 0")) (ko (· = "0") (some .buy));rw[e];exact .ans _ rfl (by show ¬ ("buy" : Str) = "want";decide +kernel) (by show ¬ ("buy" : Str) = "drop";decide +kernel) (zb na _ _ (ma s)) (AY.buy (w:=wA a b) (by show wA a b∈[wA a b,wB b s,wC c];simp) (fc ⟨by decide,by decide +kernel⟩ (fc ⟨by decide,by decide +kernel⟩ (fc ⟨by decide,by decide +kernel⟩ fn))) (.buy (by show [(b,(3:Int))]≠[];simp)))
 ·exact Gk λo=>G2 (x := "late") (ws:=["x"]) (fs:=[]) (by decide +kernel) (by decide +kernel) (by decide +kernel) (by decide) (λz=>by cases z) (Md (by decide))
 ·exact Gk λo=>G2 (x := "plan") (ws:=["plan"]) (fs:=[]) (by decide +kernel) (by decide +kernel) (by decide +kernel) (by decide) (λz=>by cases z) (Md (by decide))
 ·exact Gk λo=>Pu (x := "late\n") (ws:=[]) (by decide +kernel) (by decide +kernel) (by decide +kernel) (by decide) (.inl (by decide +kernel))
 ·exact Gk λo=>Pu (x := "") (ws:=["late"]) (by decide +kernel) (by decide +kernel) (by decide +kernel) (by decide) (.inl (by decide +kernel))
end
end
section
variable {dk:Dk}{c:Cl}
section
variable {a b c d:Str}
theorem Hn{sep x:Str}:∀{xs:List Str},xs≠[]->Str.join sep (xs++[x])=Str.join sep xs++sep++x
 |[],h=>absurd rfl h
 |[y],_=>rfl
 |y::z::r,_=>by
  show y++sep++Str.join sep (z::r++[x])=y++sep++Str.join sep (z::r)++sep++x;rw[Hn (xs:=z::r) (by simp)];simp only[Ot]
def wD(a b:Str):Wr:=⟨b,2,1,0,6,[],[(a,1)]⟩
def rsB(a b c:Str)(us:List Wt):List R3:=C8 (S72 a b c 6)++Ct b (a,1)::us.map AS
def SB(a b c:Str)(us:List Wt):Sh:=⟨[wA a b,wD a b,wC c],(a,1,4)::us⟩
theorem Nm.sdB(h:Nm a b c 6){us:List Wt}(hu:us=[]\/(us=[(d,1,1)]/\Al d=true)):SD0 (SB a b c us):=by
 have sd:=h.goodS.sd.weak;refine⟨⟨by show 1<=3;decide,by show 3<=12;decide⟩,fc (sd.wv (wA a b) (by show wA a b∈[wA a b,wB b 6,wC c];simp)) (fc ?_ (fc (sd.wv (wC c) (by show wC c∈[wA a b,wB b 6,wC c];simp)) fn)),?_,fc (sd.us (a,1,4) (by show (a,(1:Int),(4:Int))∈[(a,1,4)];simp)) ?_⟩
 ·let⟨q1,⟨q2,q3,q4,q5,_,_,_,q8⟩,_⟩:=sd.wv (wB b 6) (by show wB b 6∈[wA a b,wB b 6,wC c];simp);exact⟨q1,⟨q2,q3,q4,q5,by show 1<=6;decide,fc ⟨by show (1:Int)<=1;decide,by show (1:Int)<=100;decide⟩ fn,by show [a].Nodup;simp,q8⟩,fc h.na fn⟩
 ·rcases hu with rfl | ⟨rfl,_⟩
  ·show 1<=20;decide
  ·show 2<=20;decide
 ·rcases hu with rfl | ⟨rfl,hd⟩
  ·exact fn
  ·exact fc ⟨hd,⟨by show (0:Int)<=1;decide,by show (1:Int)<=400;decide⟩,by show (0:Int)<=1;decide,by show (1:Int)<10^41;decide +kernel⟩ fn
theorem Nm.rowsB(h:Nm a b c 6){us:List Wt}(hu:us=[]\/(us=[(d,1,1)]/\Al d=true))(own:okS (SB a b c us)=true->us=[]):Jr (rsB a b c us) (SB a b c us):=by
 have sd:=h.sdB hu;have ab:=h.ab;have ac:=h.ac;have bc:=h.bc;have ok:∀r∈C8 (SB a b c us),Fn (r3 r):=G4 sd;have ok0:∀r∈C8 (S72 a b c 6),Fn (r3 r):=G4 h.goodS.sd.weak;have nn:("ware" : Str) ≠ "want" /\ ("ware" : Str) ≠ "coming" /\ ("ware" : Str) ≠ "part" /\ ("part" : Str) ≠ "ware" /\ ("part" : Str) ≠ "want" /\ ("part" : Str) ≠ "coming" /\ ("want" : Str) ≠ "ware" /\ ("want" : Str) ≠ "coming" /\ ("want" : Str) ≠ "part" := by decide +kernel
 have sub:∀r∈Ct b (a,1)::us.map AS,r∈C8 (SB a b c us):=λr hr=>by
  rcases Zzw.mp hr with rfl | hr
  ·exact Zyi _ (by show Ct b (a,1)∈[AL (wA a b),Ct a (b,3),AL (wD a b),Ct b (a,1),AL (wC c)];simp)
  ·exact Zze _ (Zzs _ hr)
 have eq:wrD (rsB a b c us)=(SB a b c us).d:=by
  rcases hu with rfl | ⟨rfl,_⟩
  ·show wrD [AL (wA a b),Ct a (b,3),AL (wB b 6),AL (wC c),AS (a,1,4),Ct b (a,1)]=_
   simp only[wrD,Zxk,Zv4,isS,Gu,Fx,AL,Ct,AS,wA,wB,wC,nn,ab,ac,bc,Zza ab,Zza ac,Zza bc,decide_true,decide_false,Zwz,Zwt,Zyk,Zx6,if_true,ite_false,ite_true,Zvu,Zzk,Zy1];rfl
  ·show wrD [AL (wA a b),Ct a (b,3),AL (wB b 6),AL (wC c),AS (a,1,4),Ct b (a,1),AS (d,1,1)]=_
   simp only[wrD,Zxk,Zv4,isS,Gu,Fx,AL,Ct,AS,wA,wB,wC,nn,ab,ac,bc,Zza ab,Zza ac,Zza bc,decide_true,decide_false,Zwz,Zwt,Zyk,Zx6,if_true,ite_false,ite_true,Zvu,Zzk,Zy1];rfl
 refine⟨(λz=>by cases z),?_,λr hr=>?_,eq,sd,λob r hr=>?_⟩
 ·rcases hu with rfl | ⟨rfl,_⟩
  ·show 6<=400;decide
  ·show 7<=400;decide
 ·rcases Zz3.mp hr with hr | hr
  ·exact ok0 r hr
  ·exact ok r (sub r hr)
 ·cases own ob;have hr:r∈[AL (wA a b),Ct a (b,3),AL (wB b 6),AL (wC c),AS (a,1,4),Ct b (a,1)]:=hr;show r.2.1∈[a,b,c];simp only[Zzw,Zz2,or_false] at hr;rcases hr with rfl | rfl | rfl | rfl | rfl | rfl<;>simp[AL,Ct,AS,wA,wB,wC]
theorem Yg:("\npart " : Str)=one 10++("part" ++ one 32)/\(" " : Str)=one 32/\(" 1" : Str)=one 32 ++ "1" /\ ("\nwant " : Str)=one 10++("want" ++ one 32)/\(" 1 1" : Str)=one 32++("1" ++ (one 32 ++ "1")):=by decide +kernel
def Wx(a b c:Str):Str:=Cz (C8 (S72 a b c 6)) ++ "\npart " ++ b ++ " " ++ a ++ " 1"
theorem Z8:Wx a b c=Cz (rsB a b c []):=by
 unfold Wx Cz;rw[show (rsB a b c []).map (λr=>Eo (r3 r))=(C8 (S72 a b c 6)).map (λr=>Eo (r3 r))++[Eo (r3 (Ct b (a,1)))] from Zzd,Hn (λz=>by cases z)];show _=_++one 10++("part" ++ one 32++(b++one 32++(a++one 32++Ba 1)));rw[A1s.2.1,Yg.1,Yg.2.1,Yg.2.2.1];simp only[Ot]
theorem jz:Wx a b c ++ "\nwant " ++ d ++ " 1 1" = Cz (rsB a b c [(d,1,1)]):=by
 rw[Z8];unfold Cz;rw[show (rsB a b c [(d,1,1)]).map (λr=>Eo (r3 r))=(rsB a b c []).map (λr=>Eo (r3 r))++[Eo (r3 (AS (d,1,1)))] from Zzd (l₁:=rsB a b c []) (l₂:=[AS (d,1,1)]),Hn (λz=>by cases z)];show _=_++one 10++("want" ++ one 32++(d++one 32++(Ba 1++one 32++Ba 1)));rw[A1s.2.1,Yg.2.2.2.1,Yg.2.2.2.2];simp only[Ot]
theorem A3p{rs:List R3}(h:Jr rs S):(Cz rs).length<=200000:=by
 have l1:=Iy h.ok;have l2:=h.len;lia
theorem Nm.ring(h:Nm a b c 6):AN o (.str ("shop\n" ++ Wx a b c)) (.no .ring):=by
 have ab:=h.ab;have ac:=h.ac;have bc:=h.bc;have sr:=h.rowsB (d:=a) (us:=[]) (.inl rfl) λ_=>rfl;have nd:((SB a b c []).wares.map (·.name)).Nodup:=by show [a,b,c].Nodup;simp[ab,ac,bc]
 rw[Z8];refine .noshop (A3p sr) (.inr ⟨_,_,rfl,sr,.inr ⟨?_,⟨nd,by show 3<=1000;decide,fc ⟨by show 1<=1000;decide,by show 0<=1000;decide⟩ (fc ⟨by show 1<=1000;decide,by show 0<=1000;decide⟩ (fc ⟨by show 0<=1000;decide,by show 0<=1000;decide⟩ fn))⟩,a,b,⟨ab,Be h.na,Be h.nb,?_⟩,rfl⟩⟩)
 ·unfold okS;rw[GB nd,Zyk,Zyv];intro z hz;have hz:z∈[a,b,a]:=hz;refine GB ?_;show z∈[a,b,c];simp only[Zzw,Zz2,or_false] at hz ⊢;rcases hz with z | z | z
  ·exact .inl z
  ·exact .inr (.inl z)
  ·exact .inl z
 ·show Mj 3 [(a,[b]),(b,[a]),(c,[])]=_
  simp[Mj,br,Cp,P3,Ay]
theorem Nm.noname(h:Nm a b c 6)(hd:d∉[a,b,c])(nd:Al d=true):AN o (.str ("shop\n" ++ (Wx a b c ++ "\nwant " ++ d ++ " 1 1"))) (.no .shop):=by
 have no:okS (SB a b c [(d,1,1)])=false:=Zvm.mpr λz=>by
  unfold okS at z;rw[Zz1,Zyv] at z;exact hd (GA (z.2 d (Zyi _ (by show d∈[a,d];simp))))
 have sr:=h.rowsB (us:=[(d,1,1)]) (.inr ⟨rfl,nd⟩) λz=>by rw[no] at z;cases z
 rw[jz];exact .noshop (A3p sr) (.inr ⟨_,_,rfl,sr,.inl ⟨no,rfl⟩⟩)
theorem Nm.noform(h:Nm a b c 6):AN o (.str ("shop\n" ++ (Wx a b c ++ " "))) (.no .text):=by
 let⟨n1,n2⟩:=(Gq (k:=.inr a) h.na).1;let⟨m1,m2⟩:=(Gq (k:=.inr b) h.nb).1;have la:a.length<=8:=Be h.na;have lb:b.length<=8:=Be h.nb;have e:Wx a b c ++ " " = Str.join (one 10) ((C8 (S72 a b c 6)).map (λr=>Eo (r3 r))++[Str.join (one 32) ["part",b,a, "1", ""]]):=by
  rw[Hn (λz=>by cases z)];unfold Wx Cz;show _=_++one 10++("part" ++ one 32++(b++one 32++(a++one 32++("1" ++ one 32 ++ ""))));rw[Yg.1,Yg.2.1,Yg.2.2.1];simp only[Ot];rw[show one 32++("" : Str)=one 32 by decide +kernel]
 have wd:∀w∈(["part",b,a, "1", ""]:List Str),(32∉w.cps.toList/\10∉w.cps.toList)/\w.length<=60:=fc (by decide +kernel) (fc ⟨⟨m1,m2⟩,by lia⟩ (fc ⟨⟨n1,n2⟩,by lia⟩ (by decide +kernel)));have sd:=h.goodS.sd.weak;have hl:(Str.join (one 32) ["part",b,a, "1", ""]).length<=5*60+5*1:=Gd (sep:=one 32) (B:=60) λw hw=>(wd w hw).2;have l1:=Iy (G4 sd);have l2:=(Ln sd).2;have lt:(Wx a b c ++ " ").length<=200000:=by
  rw[e,Hn (λz=>by cases z),strLen_append,strLen_append];show (Cz (C8 (S72 a b c 6))).length+1+_<=_;lia
 refine .noshop lt (.inl ⟨⟨C8 (S72 a b c 6),_, "part",[b,a, "1", ""],e,l2,G4 sd,⟨En (by decide) (by simp) λw hw=>(wd w hw).1.1,by lia,(by show 4<=100;decide),rfl,by show 4≠3;decide⟩,U8 _ λw hw=>(wd w hw).1.2,lt⟩,rfl⟩)
end
end
section
variable {dk:Dk}{c:Cl}
def txD(z:Str×Ek):PyData:=.tuple [.str z.1,.int ((z.2.ix:Nat):Int)]
theorem A3m(z:Str×Ek):D5 (txD z)=true:=rfl
theorem Dj{t:Addr}(y:Str)(n:Int)(ht:H t=none)(r:RDs H ds xs):∃H1,upd H t (.tup [.str y,.int n])=H1/\RDs H1 (ds++[.tuple [.str y,.int n]]) (xs++[.ref t])/\AB H H1:=by
 have u:=A7 (o:=.tup [.str y,.int n]) ht;exact⟨_,rfl,RDs.app (RDs.same u _ _ r) (RDs.one (RD.tup_mk AA (RDs.cons RD.str_mk (RDs.one RD.int_mk)))),u⟩
theorem Hd(hx:x.length<=30)(hy:y.length<=30):x.length+y.length<=sizeLine:=Zzp (m:=60) (by lia) (by decide)
theorem K7{z:Str}(hx:x.length<=30)(hy:y.length<=30)(hz:z.length<=30):(x++y).length+z.length<=sizeLine:=by
 rw[strLen_append];exact Zzp (m:=90) (by lia) (by decide)
inductive DN (vs:List V) (H:Hp) (Q:VK) (E:XK):Prop | mk (l:Addr) (a b c d:Str) (_:vs=[.ref l]) (_:H l=some (.lst [.str a,.str b,.str c,.str d])) (_:(a.length<=30/\b.length<=30/\d.length<=30)) (_:∀p xs H',H p=none->H' p=some (.lst xs)->RDs H' ((txs a b d).map txD) xs->AB H H'->Q (.ref p) H')
inductive TxI (l:Addr) (a b d:Str) (H:Hp) (i:Nat) (σ:St) (H':Hp):Prop | mk (p:Addr) (xs:List V) (_:σ=[some (.ref l),some (.str a),some (.str b),some (.ref p)]) (_:H p=none) (_:H' p=some (.lst xs)) (_:RDs H' (((txs a b d).take i).map txD) xs) (_:AB H H')
theorem d7{H2:Hp}{q:Addr}{l:Addr}{a b d:Str}{ys:List V}(hp:H p=none)(h1:H1 p=some (.lst xs))(r1:RDs H1 (((txs a b d).take i).map txD) xs)(s1:AB H H1)(r2:RDs H2 ds ys)(s2:AB H1 H2)(hq:H2 q=none)(ej:((txs a b d).take i).map txD++ds=((txs a b d).take j).map txD):∃x,upd H2 q (.lst ys) p=some (.lst x)/\∃y,upd H2 q (.lst ys) q=some (.lst y)/\x.length+y.length<=sizeLine/\TxI l a b d H j [some (.ref l),some (.str a),some (.str b),some (.ref p)] (upd (upd H2 q (.lst ys)) p (.lst (x++y))):=by
 have u:=A7 (o:=.lst ys) hq;have hp2:=u _ _ (s2 _ _ h1);have l1:=RDs.len r1;have l2:=RDs.len r2;have lj:=congrArg Zxn ej;have lt:(((txs a b d).take j).map txD).length<=16:=by rw[Zzz,Zyy];exact Nat.min_le_right _ _
 rw[Zz8] at lj;refine⟨xs,hp2,ys,AA,Zzp (m:=16) (by lia) (by decide),p,_,rfl,hp,AA,?_,λx o e=>by rw[A6 (A8 e hp)];exact u _ _ (s2 _ _ (s1 _ _ e))⟩;have k:=A1v (ys:=xs++ys) hp2;have nl:Cn (((txs a b d).take j).map txD)=true:=Fs txD A3m _;rw[<- ej] at nl ⊢;exact RDs.ku k _ _ nl (RDs.same u _ _ (RDs.app (RDs.same s2 _ _ r1) r2))
theorem Y2(F:Fun K "_law_rows" "_law_rows" Q3 f fd)(T:Txt mg)(C:Exc K mg c):Aq P w K mg base CX0 1 f fd ["_law_names_here"] DN:=by
 refine F.go ["_law_names_here", "_law_one", "_law_two", "_law_texts"] ?_ ?_ ?_;walk_at "f";let⟨l,na,nb,nc,nd,rfl,hl,⟨la,lb,ld⟩,k⟩:=h;have hu:=Ao hr;refine⟨_,(A1 (B4 1 Nd (Ac hu (pv 0) A5))
 (A1 (B4 2 Nd (Ac hu (pv 0) A5))
 (A1 (B4 3 Nd (B7 (A2 (Bo (A2 (Ae Ab (Ae Ab Aa (pv 1)) Aa) (A2 A5 A0))) (A2 (Bo (A2 Aa (A2 A5 A0))) (A2 (Bo (A2 (Ae Ab (Ae Ab Aa (pv 1)) Aa) (A2 A5 A0))) (A2 (Bo (A2 (Ae Ab (Ae Ab Aa (pv 1)) Aa) (A2 A5 A0))) A0))))))
 (A1 (Gy (i:=3) Nd rfl (Zyr rfl) (B7 (A2 (Bo (A2 (Ae Ab Aa (Ac hu (pv 0) A5)) (A2 A5 A0))) (A2 (Bo (A2 (Ae Ab (Ae Ab Aa (Ac hu (pv 0) A5)) Aa) (A2 A5 A0))) (A2 (Bo (A2 (Ae Ab (Ae Ab Aa (Ac hu (pv 0) A5)) Aa) (A2 A5 A0))) A0)))) Rk)
 (A1 (Gy (i:=3) Nd rfl (Zyr rfl) (B7 (A2 (Bo (A2 (Ae Ab (Ae Ab Aa (pv 1)) Aa) (A2 A5 A0))) (A2 (Bo (A2 (Ae Ab (Ae Ab Aa (pv 1)) Aa) (A2 A5 A0))) (A2 (Bo (A2 Aa (A2 A5 A0))) (A2 (Bo (A2 (Ae Ab (Ae Ab Aa (pv 2)) Aa) (A2 A5 A0))) A0))))) Rk)
 (A3 (Ad (Ae Hz (pv 3) (B7 (A2 (Bo (A2 (Ae Ab (Ae Ab Aa (pv 1)) Aa) (A2 A5 A0))) (A2 (Bo (A2 Aa (A2 A5 A0))) (A2 (Bo (A2 Aa (A2 A5 A0))) (A2 (Bo (A2 Aa (A2 A5 A0))) (A2 (Bo (A2 Aa (A2 A5 A0))) A0)))))))))))))),?_⟩
 refine A4d (TxI l na nb nd H 4) ?_ (λKK hK=>?_);rotate_left
 ·walk_at "rd";refine⟨_,An (j:=0) hl rfl,_,An (j:=1) hl rfl,na,rfl,Hd (by decide +kernel) la,K7 (by decide +kernel) la (by decide +kernel),by decide,λp1 h1=>?_⟩;let⟨H1,e1,r1,s1⟩:=Dj ("buy " ++ na ++ " 1 1") 0 h1 RDs.nil;rw[e1];refine⟨by decide,λp2 h2=>?_⟩;let⟨H2,e2,r2,s2⟩:=Dj "buy A 1 1 1" 0 h2 r1;rw[e2];refine⟨na,rfl,Hd (by decide +kernel) la,K7 (by decide +kernel) la (by decide +kernel),by decide,λp3 h3=>?_⟩;let⟨H3,e3,r3,s3⟩:=Dj ("most " ++ na ++ " 1 ") 0 h3 r2;rw[e3];refine⟨na,rfl,Hd (by decide +kernel) la,K7 (by decide +kernel) la (by decide +kernel),by decide,λp4 h4=>?_⟩;let⟨H4,e4,r4,s4⟩:=Dj ("serves " ++ na ++ " x") 0 h4 r3;rw[e4];refine⟨by decide,λp hp=>?_⟩;have s04:=s1.trans (s2.trans (s3.trans s4));have u:=A7 (o:=.lst [V.ref p1,V.ref p2,V.ref p3,V.ref p4]) hp;exact hK _ _ ⟨p,_,rfl,AB.free s04 hp,AA,RDs.same u _ _ r4,s04.trans u⟩
 rintro σ' H1 ⟨p,xs,rfl,hp,hp1,r1,s1⟩;refine Iv (TxI l na nb nd H 7) ?_ (λKK hK=>?_);rotate_left
 ·have hl1:=s1 _ _ hl
  walk_at "rd";refine⟨_,An (j:=3) hl1 rfl,nd,rfl,Hd (by decide +kernel) ld,by decide,λq1 h2=>?_⟩;let⟨H2,e2,r2,s2⟩:=Dj ("stock " ++ nd) 3 h2 RDs.nil;rw[e2];have hl2:=s2 _ _ hl1;refine⟨_,An (j:=3) hl2 rfl,nd,rfl,Hd (by decide +kernel) ld,K7 (by decide +kernel) ld (by decide +kernel),by decide,λq2 h3=>?_⟩;let⟨H3,e3,r3,s3⟩:=Dj ("most " ++ nd ++ " 401") 3 h3 r2;rw[e3];refine⟨_,An (j:=3) (s3 _ _ hl2) rfl,nd,rfl,Hd (by decide +kernel) ld,K7 (by decide +kernel) ld (by decide +kernel),by decide,λq3 h4=>?_⟩;let⟨H4,e4,r4,s4⟩:=Dj ("buy " ++ nd ++ " 1 1 1") 3 h4 r3;rw[e4];refine⟨by decide,λq hq=>?_⟩;let⟨x,hx,y,hy,hxy,t⟩:=d7 (l:=l) (j:=7) hp hp1 r1 s1 r4 (s2.trans (s3.trans s4)) hq rfl;exact⟨x,hx,y,hy,hxy,hK _ _ t⟩
 rintro σ' H1 ⟨p,xs,rfl,hp,hp1,r1,s1⟩;refine Iv (TxI l na nb nd H 11) ?_ (λKK hK=>?_);rotate_left
 ·walk_at "rd";refine⟨Hd (by decide +kernel) la,K7 (by decide +kernel) la (by decide +kernel),by decide,λq1 h2=>?_⟩;let⟨H2,e2,r2,s2⟩:=Dj ("most " ++ na ++ " 401") 4 h2 RDs.nil;rw[e2];refine⟨Hd (by decide +kernel) la,K7 (by decide +kernel) la (by decide +kernel),by decide,λq2 h3=>?_⟩;let⟨H3,e3,r3,s3⟩:=Dj ("serves " ++ na ++ " 500") 4 h3 r2;rw[e3];refine⟨by decide,λq3 h4=>?_⟩;let⟨H4,e4,r4,s4⟩:=Dj "drop 1" 4 h4 r3;rw[e4];refine⟨Hd (by decide +kernel) lb,K7 (by decide +kernel) lb (by decide +kernel),by decide,λq4 h5=>?_⟩;let⟨H5,e5,r5,s5⟩:=Dj ("want " ++ nb ++ " 999 0") 4 h5 r4;rw[e5];refine⟨by decide,λq hq=>?_⟩;let⟨x,hx,y,hy,hxy,t⟩:=d7 (l:=l) (j:=11) hp hp1 r1 s1 r5 (s2.trans (s3.trans (s4.trans s5))) hq rfl;exact⟨x,hx,y,hy,hxy,hK _ _ t⟩
 rintro σ' H1 ⟨p,xs,rfl,hp,hp1,r1,s1⟩;walk_at "rd";refine⟨Hd (by decide +kernel) la,K7 (by decide +kernel) la (by decide +kernel),by decide,λq1 h2=>?_⟩;let⟨H2,e2,r2,s2⟩:=Dj ("buy " ++ na ++ " 0 0 0") 5 h2 RDs.nil;rw[e2];refine⟨by decide,λq2 h3=>?_⟩;let⟨H3,e3,r3,s3⟩:=Dj "late x" 0 h3 r2;rw[e3];refine⟨by decide,λq3 h4=>?_⟩;let⟨H4,e4,r4,s4⟩:=Dj "plan plan" 0 h4 r3;rw[e4];refine⟨by decide,λq4 h5=>?_⟩;let⟨H5,e5,r5,s5⟩:=Dj "late\n" 0 h5 r4;rw[e5];refine⟨by decide,λq5 h6=>?_⟩;let⟨H6,e6,r6,s6⟩:=Dj " late" 0 h6 r5;rw[e6];have s26:=s2.trans (s3.trans (s4.trans (s5.trans s6)));refine⟨by decide,λq hq=>?_⟩;have u:=A7 (o:=.lst [V.ref q1,V.ref q2,V.ref q3,V.ref q4,V.ref q5]) hq;have l1:=B8 r1;have l1:xs.length=11:=l1;refine⟨_,u _ _ (s26 _ _ hp1),_,AA,Zzp (m:=16) (by rw[l1];show 11+5<=16;decide) (by decide),λz hz=>?_⟩;have u2:=A7 (o:=.lst (xs++[V.ref q1,V.ref q2,V.ref q3,V.ref q4,V.ref q5])) hz;exact k z _ _ (AB.free ((s1.trans s26).trans u) hz) AA (RDs.same (u.trans u2) _ _ (RDs.app (RDs.same s26 _ _ r1) r6)) ((s1.trans s26).trans (u.trans u2))
end
section
variable {dk:Dk}{c:Cl}
structure L72(dk:Dk)(Pt x l:Addr)(a b c d:Str)(o:Option Sh)(H:Hp):Prop where
 hl:H l=some (.lst [.str a,.str b,.str c,.str d])
 kp:AV dk H x o
 tb:Tb H Pt
section
variable {x l:Addr}{a b c d:Str}
theorem L72.pt(h:L72 dk Pt x l a b c d o H)(t:Tb H' Pt)(b':But Pt H H'):L72 dk Pt x l a b c d o H':=⟨b' _ _ (Im h.tb h.hl λu z=>by cases z) h.hl,h.kp.tb h.tb b',t⟩
theorem L72.same(h:L72 dk Pt x l a b c d o H)(s:AB H H'):L72 dk Pt x l a b c d o H':=⟨s _ _ h.hl,h.kp.same s,h.tb.same s⟩
theorem L72.told(h:L72 dk Pt x l a b c d o H)(k:AV dk H' x (some S))(b':∀b u,b≠x->H b=some u->H' b=some u):L72 dk Pt x l a b c d (some S) H':=by
 let⟨dx,v,hx⟩:=Dq h.kp;have ne:∀{p:Addr} {u:HO},H p=some u->(∀y z w,u≠.ins y z w)->p≠x:=λe n z=>by rw[z,hx] at e;exact n _ _ _ (Zzm e).symm
 refine⟨b' _ _ (ne h.hl λ_ _ _ z=>by cases z) h.hl,k,?_⟩;rcases h.tb with e | ⟨c,e,e2⟩
 ·exact .inl (b' _ _ (ne e λ_ _ _ z=>by cases z) e)
 ·exact .inr ⟨c,b' _ _ (ne e λ_ _ _ z=>by cases z) e,b' _ _ (ne e2 λ_ _ _ z=>by cases z) e2⟩
theorem L72.ins(h:L72 dk Pt x l a b c d o H):∃dx v,H x=some (.ins dk.C dx [("kept",v)]):=Dq h.kp
structure N4(a b c d:Str):Prop where
 ab:a≠b
 ac:a≠c
 bc:b≠c
 na:Al a=true
 nb:Al b=true
 nc:Al c=true
 nd:Al d=true
 hd:d∉[a,b,c]
theorem N4.nm(h:N4 a b c d){s:Int}(hs:s=5\/(6<=s/\s<=14)):Nm a b c s:=⟨h.ab,h.ac,h.bc,h.na,h.nb,h.nc,hs⟩
theorem N4.len(h:N4 a b c d):a.length<=30/\b.length<=30/\c.length<=30/\d.length<=30:=by
 have:=Be h.na;have:=Be h.nb;have:=Be h.nc;have:=Be h.nd;exact⟨by lia,by lia,by lia,by lia⟩
theorem G3(q:Qn){r:Option Ek}{P:Str->Prop}(ey:y=q.text)(n:q.first ≠ "want" /\ q.first ≠ "drop")(dn:bo S (q.keys.zip q.form)=none)(an:AY S q.first q.keys r P):AN (some S) (.str y) (ko P r):=by
 rw[ey];exact .ans q rfl n.1 n.2 (Rp dn n.1) an
theorem Kx(h:y∈S.wares.map (·.name)):K8 S (.inr y, "name")=none:=GE (e:=some Ek.name) h
theorem sx{n:Int}(h:n<=400):K8 S (.inl n, "day")=none:=GD (t:=some Ek.day) λz=>by
 rcases z with ⟨_,z⟩ | ⟨z,_⟩
 ·lia
 ·exact absurd z (by decide +kernel)
theorem Ie{n:Int}:K8 S (.inl n, "number")=none:=by
 show (if (("number" : Str) = "day" /\ 400<n)\/(("number" : Str) = "place" /\ ((S.wants.length:Nat):Int)<=n) then some Ek.day else none)=none;exact GD λz=>by rcases z with ⟨z,_⟩ | ⟨z,_⟩<;>exact absurd z (by decide +kernel)
theorem mA{s:Int}{us:List Wt}:a∈(⟨[wA a b,wB b s,wC c],us⟩:Sh).wares.map (·.name):=by show a∈[a,b,c];simp
theorem mC{s:Int}{us:List Wt}:c∈(⟨[wA a b,wB b s,wC c],us⟩:Sh).wares.map (·.name):=by show c∈[a,b,c];simp
theorem iA{s:Int}{us:List Wt}:wA a b∈(⟨[wA a b,wB b s,wC c],us⟩:Sh).wares:=by show wA a b∈[wA a b,wB b s,wC c];simp
theorem iC{s:Int}{us:List Wt}:wC c∈(⟨[wA a b,wB b s,wC c],us⟩:Sh).wares:=by show wC c∈[wA a b,wB b s,wC c];simp
theorem ow:∀i∈[(1:Int),1,1],0<=i/\i<10^60:=fc ⟨by decide,by decide +kernel⟩ (fc ⟨by decide,by decide +kernel⟩ (fc ⟨by decide,by decide +kernel⟩ fn))
theorem nwd:(("stock" : Str) ≠ "want" /\ ("stock" : Str) ≠ "drop")/\(("serves" : Str) ≠ "want" /\ ("serves" : Str) ≠ "drop")/\(("buy" : Str) ≠ "want" /\ ("buy" : Str) ≠ "drop")/\(("most" : Str) ≠ "want" /\ ("most" : Str) ≠ "drop"):=by decide +kernel
theorem A16 : "buy " ++ y ++ " 1 1 1" = Str.join (one 32) ("buy" :: y::[Ba 1,Ba 1,Ba 1]):=tx3 (by decide +kernel) (by decide +kernel)
theorem N4.no(h:N4 a b c d):¬ Bn (S72 a b c 5):=λz=>((h.nm (.inl rfl)).ok (d:=0) (by decide)).mp z ⟨rfl,by decide⟩
theorem N4.plans(h:N4 a b c d):∀v∈[V.str ("stock " ++ a),V.str ("serves " ++ a ++ " 1"),V.str ("buy " ++ c ++ " 1 1 1")],∃y,v=.str y/\AN (some (S72 a b c 5)) (.str y) (.no .plan):=by
 let⟨n1,n2,n3,_⟩:=nwd;refine fc ⟨_,rfl,?_⟩ (fc ⟨_,rfl,?_⟩ (fc ⟨_,rfl,?_⟩ fn))
 ·exact G3 (r:=some .plan) (dy a h.na) (tx2 (f := "stock") (by decide +kernel)) n1 (Ed (fc (Kx mA) fn)) (AY.stockX (w:=wA a b) iA h.no)
 ·exact G3 (r:=some .plan) (V5 a h.na 1 (by decide) (by decide +kernel)) (tx3 (f := "serves") (y:=Ba 1) (ws:=[]) (by decide +kernel) (by decide +kernel)) n2 (Ed (fc (Kx mA) (fc (sx (by decide)) fn))) (.servesX h.no)
 ·exact G3 (r:=some .plan) (i9 c h.nc 1 (by decide) (by decide +kernel)) A16 n3 (Ed (fc (Kx mC) (fc Ie (fc Ie (fc Ie fn))))) (AY.buy (w:=wC c) iC ow (.plan rfl h.no))
theorem N4.day(h:N4 a b c d){s:Int}:AN (some (S72 a b c s)) (.str ("serves " ++ a ++ " 401")) (.no .day):=Ix (V5 a h.na 401 (by decide) (by decide +kernel)) (tx3 (f := "serves") (y:=Ba 401) (ws:=[]) (by decide +kernel) (by decide +kernel)) (Pi rfl rfl mA (by decide))
theorem N4.name(h:N4 a b c d){s:Int}:AN (some (S72 a b c s)) (.str ("stock " ++ d)) (.no .name):=Ix (dy d h.nd) (tx2 (f := "stock") (by decide +kernel)) (Mh rfl rfl h.hd)
theorem N4.buy(h:N4 a b c d){s:Int}:AN (some (S72 a b c s)) (.str ("buy " ++ a ++ " 1 1 1")) (.no .buy):=G3 (r:=some .buy) (i9 a h.na 1 (by decide) (by decide +kernel)) A16 nwd.2.2.1 (Ed (fc (Kx mA) (fc Ie (fc Ie (fc Ie fn))))) (AY.buy (w:=wA a b) iA ow (.buy (by show [(b,(3:Int))]≠[];simp)))
theorem N4.most(h:N4 a b c d):AN (some (S72 a b c 5)) (.str ("most " ++ c ++ " 0")) (.say (· = "none")):=G3 (r:=none) (nu c h.nc 0 (by decide) (by decide +kernel)) (tx3 (f := "most") (y:=Ba 0) (ws:=[]) (by decide +kernel) (by decide +kernel)) nwd.2.2.2 (Ed (fc (Kx mC) (fc (sx (by decide)) fn))) (.most mC h.no)
theorem N4.drop(h:N4 a b c d){s:Int}(hs:s=5\/(6<=s/\s<=14)):AN (some (S72 a b c s)) (.str "drop 0") (.ok (N72 a b c s)):=by
 have e:("drop 0" : Str)=(A0c 0 (by decide +kernel)).text:=by decide +kernel
 rw[e];refine AN.drop (S:=S72 a b c s) (i:=0) _ rfl rfl rfl (by show 0<1;decide) (Rp (Ed (fc ?_ fn)) (by show ¬ ("drop" : Str) = "want";decide +kernel)) (h.nm hs).goodN;show (if (("place" : Str) = "day" /\ (400:Int)<((0:Nat):Int))\/(("place" : Str) = "place" /\ ((1:Nat):Int)<=((0:Nat):Int)) then some Ek.day else none)=none;decide +kernel
theorem N4.stock0(h:N4 a b c d):AN (some (N72 a b c 5)) (.str ("stock " ++ a)) (.say (· = "0")):=by
 have e:=(h.nm (s:=5) (.inl rfl)).stockN;have t:Uz (N72 a b c 5) (wA a b) = "0" := by unfold Uz;rw[e];decide +kernel
 rw[<- t];exact G3 (r:=none) (dy a h.na) (tx2 (f := "stock") (by decide +kernel)) nwd.1 (Ed (fc (Kx mA) fn)) (AY.stock (w:=wA a b) iA (h.nm (.inl rfl)).okN (by rw[e];exact fc ⟨by decide,by decide +kernel⟩ fn))
theorem N4.buy0(h:N4 a b c d):AN (some (N72 a b c 5)) (.str ("buy " ++ c ++ " 1 1 1")) (.say (· = "0")):=G3 (r:=none) (i9 c h.nc 1 (by decide) (by decide +kernel)) A16 nwd.2.2.1 (Ed (fc (Kx mC) (fc Ie (fc Ie (fc Ie fn))))) (AY.buy (w:=wC c) iC ow (.non rfl (h.nm (.inl rfl)).okN rfl (h.nm (.inl rfl)).lrN.2.2))
theorem nh:(Str.ofString "\npart ").length<=6/\(Str.ofString " ").length<=1/\(Str.ofString " 1").length<=2/\(Str.ofString "shop\n").length<=5/\(Str.ofString "\nwant ").length<=6/\(Str.ofString " 1 1").length<=4:=by decide +kernel
theorem Uw(h:N4 a b c d){s:Int}(hs:s=5\/(6<=s/\s<=14)):(Cz (C8 (S72 a b c s))).length<=200000:=by
 have sd:=(h.nm hs).goodS.sd.weak;have l1:=Iy (G4 sd);have l2:=(Ln sd).2;lia
end
local macro_rules | `(tactic| walk_at "l")=>`(tactic| (refine yt ?_;(try simp only[strLen_append]);lia))
inductive Lb (dk:Dk) (Pt:Addr) (vs:List V) (H:Hp) (Q:VK) (E:XK):Prop | mk (x l:Addr) (a b c d:Str) (o:Option Sh) (_:vs=[.ref x,.ref l]) (_:N4 a b c d) (_:L72 dk Pt x l a b c d o H) (_:∀H',Q (.bl true) H')
theorem Vo(F:Fun K "_law_short" "_law_short" O5 f fd)(T:Txt mg)(De:Dsk K mg dk)(C:Exc K mg c)(Zur:S2 P w K mg base dk.ft 12 ["self", "text"] (Da c dk Pt))(Zud:Has P w K mg base "_law_text" 1 ["_law_names_here", "_law_stock"] BS)(Zuj:Has P w K mg base "_law_same" 14 ["_law_desk", "_law_text_here", "_law_due"] (Gj dk Pt)):Aq P w K mg base CX0 15 f fd ["_law_desk", "_law_names_here"] (Lb dk Pt):=by
 refine F.go ["_law_desk", "_law_names_here", "_law_text_here"] ?_ ?_ ?_;walk_at "f";let⟨x,l,na,nb,nc,nd,o,rfl,N,L,k⟩:=h;have hu:=Ao hr;let⟨la,lb,lc,ld⟩:=N.len;have nm:=N.nm (s:=5) (.inl rfl);refine⟨_,(A1 (As (PW.pt (E8 (Aj (Hy hu) (Ce Zur Cw (pv 0) De.c De.mt hr.z (A2 (Ae Ab Aa (A9 Zud hr.z rfl (A2 (pv 1) (A2 A5 A0)))) A0)) Aa (Ak _)) (D1 (Aj (Hy hu) (Ce Zur Cw (pv 0) De.c De.mt hr.z (A2 Aa A0)) (Ae Ab (Ae Ab Aa (Ac hu (pv 1) A5)) Aa) (Ak _))))) (A3 (Ad Di)) Ai)
 (A1 (Bj PassesOwn.never rfl (Dl (B7 (A2 (Ae Ab Aa (Ac hu (pv 1) A5)) (A2 (Ae Ab (Ae Ab Aa (Ac hu (pv 1) A5)) Aa) (A2 (Ae Ab (Ae Ab Aa (Ac hu (pv 1) A5)) Aa) A0))))) (Cj 2 Nd)
 (A3 (As (B1 (B5 (A9 Zuj hr.z rfl (A2 (pv 0) (A2 (pv 2) (A2 A5 A0)))))) (A3 (Ad Di)) Ai)))
 (A1 (As (PW.pt (E8 (B1 (B5 (A9 Zuj hr.z rfl (A2 (pv 0) (A2 (Ae Ab (Ae Ab Aa (Ac hu (pv 1) A5)) Aa) (A2 A5 A0)))))) (D1 (B1 (B5 (A9 Zuj hr.z rfl (A2 (pv 0) (A2 (Ae Ab Aa (Ac hu (pv 1) A5)) (A2 A5 A0))))))))) (A3 (Ad Di)) Ai)
 (A1 (As (PW.pt (E8 (B1 (B5 (A9 Zuj hr.z rfl (A2 (pv 0) (A2 (Ae Ab (Ae Ab Aa (Ac hu (pv 1) A5)) Aa) (A2 A5 A0)))))) (D1 (Aj (Hy hu) (Ce Zur Cw (pv 0) De.c De.mt hr.z (A2 Aa A0)) Aa (Ak _))))) (A3 (Ad Di)) Ai)
 (A1 (As (PW.pt (E8 (Aj (Hy hu) (Ce Zur Cw (pv 0) De.c De.mt hr.z (A2 (Ae Ab (Ae Ab Aa (Ac hu (pv 1) A5)) Aa) A0)) Aa (Ak _)) (D1 (Aj (Hy hu) (Ce Zur Cw (pv 0) De.c De.mt hr.z (A2 Aa A0)) Aa (Ak _))))) (A3 (Ad Di)) Ai)
 (A3 (Ad (D3 (Bt (Bd hu) (Ce Zur Cw (pv 0) De.c De.mt hr.z (A2 (Ae Ab Aa (Ac hu (pv 1) A5)) A0)) Aa (Ak _)) (E9 (Bt (Bd hu) (Ce Zur Cw (pv 0) De.c De.mt hr.z (A2 (Ae Ab (Ae Ab Aa (Ac hu (pv 1) A5)) Aa) A0)) Aa (Ak _))))))))))),?_⟩
 refine Iv (λσ' H'=>∃o2,σ'=[some (.ref x),some (.ref l),o2]/\L72 dk Pt x l na nb nc nd (some (S72 na nb nc 5)) H') ?_ (λKK hK=>?_);rotate_left
 ·walk_at "rd";let⟨dx,v,hx⟩:=L.ins;have tl:=Uw N (s:=5) (.inl rfl);refine⟨dx,_,hx,rfl,l,na,nb,nc,nd,5,rfl,L.hl,⟨Be N.na,Be N.nb,Be N.nc⟩,by decide,λH1 s1=>⟨_,rfl,Zzp (m:=200005) (by show 5+_<=_;lia) (by decide),x,_,_,_,rfl,(L.same s1).kp,(L.same s1).tb,.shop nm.goodS,λH2 k2 b2=>⟨rfl,?_⟩⟩⟩;rw[show decide (V.str (Str.ofString "ok")=V.str (Str.ofString "ok"))=true from GB rfl,GD (by decide)];have M2:=(L.same s1).told k2 b2;let⟨dx2,v2,hx2⟩:=M2.ins;refine⟨dx2,_,hx2,rfl,x,_,_,_,rfl,k2,M2.tb,Hg _,λy H3 p3 t3 b3=>?_⟩;obtain rfl:=nm.said p3;have M3:=M2.pt t3 b3;refine⟨_,An (j:=1) M3.hl rfl,nb,rfl,Hd (by decide +kernel) lb,K7 (by decide +kernel) lb (by decide +kernel),rfl,?_⟩;rw[GE rfl,GB rfl,GD (by decide)];exact hK _ _ ⟨_,rfl,M3⟩
 rintro σ' H1 ⟨o2,rfl,M1⟩;refine Iv (λσ' H'=>∃o2,σ'=[some (.ref x),some (.ref l),o2]/\L72 dk Pt x l na nb nc nd (some (S72 na nb nc 5)) H') ?_ (λKK hK=>?_);rotate_left
 ·walk_at "rd";refine⟨_,An (j:=0) M1.hl rfl,na,rfl,Hd (by decide +kernel) la,_,An (j:=0) M1.hl rfl,na,rfl,Hd (by decide +kernel) la,K7 (by decide +kernel) la (by decide +kernel),_,An (j:=2) M1.hl rfl,nc,rfl,Hd (by decide +kernel) lc,K7 (by decide +kernel) lc (by decide +kernel),by decide,λp hp=>⟨_,AA,?_⟩⟩;have u:=A7 (o:=.lst [V.str ("stock " ++ na),V.str ("serves " ++ na ++ " 1"),V.str ("buy " ++ nc ++ " 1 1 1")]) hp;refine D7 (Ec p _) (λ_ σ' H'=>∃o2,σ'=[some (.ref x),some (.ref l),o2]/\L72 dk Pt x l na nb nc nd (some (S72 na nb nc 5)) H'/\H' p=some (.lst [V.str ("stock " ++ na),V.str ("serves " ++ na ++ " 1"),V.str ("buy " ++ nc ++ " 1 1 1")])) ⟨_,rfl,M1.same u,AA⟩ (λi σ H' _ h=>by let⟨_,_,_,h⟩:=h;exact h) (λi y σ H2 hi hy h=>?_) (λσ H2 h=>?_)
  ·let⟨o2,rfl,M2,hp2⟩:=h;let⟨y,rfl,tl⟩:=N.plans _ (Zzn hy);walk_at "rd";refine⟨x,y,na,nb,nc,5,.plan,rfl,nm,M2.kp,M2.tb,tl,λH3 t3 b3=>⟨true,rfl,?_⟩⟩;rw[GD (by decide)];exact⟨M2.pt t3 b3,b3 _ _ (Im M2.tb hp2 λu z=>by cases z) hp2⟩
  ·let⟨o2,rfl,M2,_⟩:=h;exact hK _ _ ⟨_,rfl,M2⟩
 rintro σ' H1 ⟨o2,rfl,M1⟩;refine Iv (λσ' H'=>σ'=[some (.ref x),some (.ref l),o2]/\L72 dk Pt x l na nb nc nd (some (S72 na nb nc 5)) H') ?_ (λKK hK=>?_);rotate_left
 ·walk_at "rd";refine⟨_,An (j:=0) M1.hl rfl,na,rfl,Hd (by decide +kernel) la,K7 (by decide +kernel) la (by decide +kernel),x,_,na,nb,nc,5,.day,rfl,nm,M1.kp,M1.tb,N.day,λH2 t2 b2=>⟨true,rfl,?_⟩⟩;rw[GD (by decide)];have M2:=M1.pt t2 b2;refine⟨_,An (j:=3) M2.hl rfl,nd,rfl,Hd (by decide +kernel) ld,x,_,na,nb,nc,5,.name,rfl,nm,M2.kp,M2.tb,N.name,λH3 t3 b3=>⟨true,rfl,?_⟩⟩;rw[GD (by decide)];exact hK _ _ ⟨rfl,M2.pt t3 b3⟩
 rintro σ' H3 ⟨rfl,M3⟩;refine Iv (λσ' H'=>σ'=[some (.ref x),some (.ref l),o2]/\L72 dk Pt x l na nb nc nd (some (S72 na nb nc 5)) H') ?_ (λKK hK=>?_);rotate_left
 ·walk_at "rd";refine⟨_,An (j:=0) M3.hl rfl,na,rfl,Hd (by decide +kernel) la,K7 (by decide +kernel) la (by decide +kernel),x,_,na,nb,nc,5,.buy,rfl,nm,M3.kp,M3.tb,N.buy,λH4 t4 b4=>⟨true,rfl,?_⟩⟩;rw[GD (by decide)];have M4:=M3.pt t4 b4;let⟨dx4,v4,hx4⟩:=M4.ins;refine⟨dx4,_,hx4,rfl,x,_,_,_,rfl,M4.kp,M4.tb,Mr nm.okN,λy5 H5 p5 t5 b5=>?_⟩;obtain rfl:=nm.late' p5;refine⟨rfl,?_⟩;rw[show Lv 5=Str.ofString "2" from rfl,GB rfl,GD (by decide)];exact hK _ _ ⟨rfl,M4.pt t5 b5⟩
 rintro σ' H5 ⟨rfl,M5⟩;refine Iv (λσ' H'=>σ'=[some (.ref x),some (.ref l),o2]/\L72 dk Pt x l na nb nc nd (some (N72 na nb nc 5)) H') ?_ (λKK hK=>?_);rotate_left
 ·walk_at "rd";let⟨dx5,v5,hx5⟩:=M5.ins;refine⟨dx5,_,hx5,rfl,_,An (j:=2) M5.hl rfl,nc,rfl,Hd (by decide +kernel) lc,K7 (by decide +kernel) lc (by decide +kernel),x,_,_,_,rfl,M5.kp,M5.tb,N.most,λy6 H6 p6 t6 b6=>?_⟩;obtain rfl:=p6;refine⟨rfl,?_⟩;rw[GB rfl,GD (by decide)];have M6:=M5.pt t6 b6;let⟨dx6,v6,hx6⟩:=M6.ins;refine⟨dx6,_,hx6,rfl,x,_,_,_,rfl,M6.kp,M6.tb,N.drop (.inl rfl),λH7 k7 b7=>⟨rfl,?_⟩⟩;rw[GB rfl,GD (by decide)];exact hK _ _ ⟨rfl,M6.told k7 b7⟩
 rintro σ' H7 ⟨rfl,M7⟩;walk_at "rd";let⟨dx7,v7,hx7⟩:=M7.ins;refine⟨dx7,_,hx7,rfl,_,An (j:=0) M7.hl rfl,na,rfl,Hd (by decide +kernel) la,x,_,_,_,rfl,M7.kp,M7.tb,N.stock0,λy8 H8 p8 t8 b8=>?_⟩;obtain rfl:=p8;refine⟨rfl,?_⟩;rw[GB rfl,GE rfl];have M8:=M7.pt t8 b8;let⟨dx8,v8,hx8⟩:=M8.ins;refine⟨dx8,_,hx8,rfl,_,An (j:=2) M8.hl rfl,nc,rfl,Hd (by decide +kernel) lc,K7 (by decide +kernel) lc (by decide +kernel),x,_,_,_,rfl,M8.kp,M8.tb,N.buy0,λy9 H9 p9 t9 b9=>?_⟩;obtain rfl:=p9;exact⟨rfl,k H9⟩
inductive Nz (dk:Dk) (Pt:Addr) (vs:List V) (H:Hp) (Q:VK) (E:XK):Prop | mk (x l:Addr) (a b c d:Str) (s:Int) (_:vs=[.ref x,.ref l]) (_:N4 a b c d) (_:(6<=s/\s<=14)) (_:L72 dk Pt x l a b c d (some (S72 a b c s)) H) (_:∀H',L72 dk Pt x l a b c d (some (S72 a b c 6)) H'->Q (.bl true) H')
theorem Y3(F:Fun K "_law_ring" "_law_ring" Q4 f fd)(T:Txt mg)(De:Dsk K mg dk)(C:Exc K mg c)(Zud:Has P w K mg base "_law_text" 1 ["_law_names_here", "_law_stock"] BS)(Zuj:Has P w K mg base "_law_same" 14 ["_law_desk", "_law_text_here", "_law_due"] (Gj dk Pt))(Zur:S2 P w K mg base dk.ft 12 ["self", "text"] (Da c dk Pt)):Aq P w K mg base CX0 15 f fd ["_law_desk", "_law_names_here"] (Nz dk Pt):=by
 refine F.go ["_law_desk", "_law_names_here", "_law_good", "_law_bad"] ?_ ?_ ?_;walk_at "f";let⟨x,l,na,nb,nc,nd,s0,rfl,N,hs,L,k⟩:=h;have hu:=Ao hr;let⟨la,lb,lc,ld⟩:=N.len;have nm:=N.nm (s:=s0) (.inr hs);have n6:=N.nm (s:=6) (.inr (by decide));refine⟨_,(A1 (B4 2 Nd (A9 Zud hr.z rfl (A2 (pv 1) (A2 A5 A0))))
 (A1 (B4 3 Nd (Ae Ab (Ae Ab (Ae Ab (Ae Ab (Ae Ab (pv 2) Aa) (Ac hu (pv 1) A5)) Aa) (Ac hu (pv 1) A5)) Aa))
 (A1 (As (PW.pt (E8 (B1 (B5 (A9 Zuj hr.z rfl (A2 (pv 0) (A2 (Ae Ab Aa (pv 3)) (A2 A5 A0)))))) (D1 (B1 (B5 (A9 Zuj hr.z rfl (A2 (pv 0) (A2 (Ae Ab (Ae Ab Aa (pv 3)) Aa) (A2 A5 A0))))))))) (A3 (Ad Di)) Ai)
 (A1 (As (B1 (B5 (A9 Zuj hr.z rfl (A2 (pv 0) (A2 (Ae Ab (Ae Ab (Ae Ab (Ae Ab Aa (pv 3)) Aa) (Ac hu (pv 1) A5)) Aa) (A2 A5 A0)))))) (A3 (Ad Di)) Ai)
 (A3 (Ad (Bt (Bd hu) (Ce Zur Cw (pv 0) De.c De.mt hr.z (A2 (Ae Ab Aa (pv 2)) A0)) Aa (Ak _)))))))),?_⟩
 walk_at "rd";have tl:=Uw N (s:=6) (.inr (by decide));let⟨k1,k2,k3,k4,k5,k6⟩:=nh;refine⟨l,na,nb,nc,nd,6,rfl,L.hl,⟨Be N.na,Be N.nb,Be N.nc⟩,by decide,λH1 s1=>?_⟩;have M1:=L.same s1;refine⟨_,rfl,by walk_at "l",_,An (j:=1) M1.hl rfl,nb,rfl,by walk_at "l",by walk_at "l",_,An (j:=0) M1.hl rfl,na,rfl,by walk_at "l",by walk_at "l",by walk_at "l",x,_,na,nb,nc,s0,.ring,rfl,nm,M1.kp,M1.tb,n6.ring,λH2 t2 b2=>⟨true,rfl,?_⟩⟩;rw[GD (by decide)];have M2:=M1.pt t2 b2;refine⟨by walk_at "l",by walk_at "l",x,_,na,nb,nc,s0,.text,rfl,nm,M2.kp,M2.tb,?_,λH3 t3 b3=>⟨true,rfl,?_⟩⟩
 ·rw[Ot];exact n6.noform
 rw[GD (by decide)];have M3:=M2.pt t3 b3;refine⟨by walk_at "l",by walk_at "l",_,An (j:=3) M3.hl rfl,nd,rfl,by walk_at "l",by walk_at "l",x,_,na,nb,nc,s0,.shop,rfl,nm,M3.kp,M3.tb,?_,λH4 t4 b4=>⟨true,rfl,?_⟩⟩
 ·have e:=n6.noname N.hd N.nd (o:=some (S72 na nb nc s0))
  rw[<- Ot,<- Ot,<- Ot] at e;exact e
 rw[GD (by decide)];have M4:=M3.pt t4 b4;let⟨dx4,v4,hx4⟩:=M4.ins;refine⟨dx4,_,hx4,rfl,_,rfl,yt (by lia),x,_,_,_,rfl,M4.kp,M4.tb,.shop n6.goodS,λH5 k5 b5=>⟨rfl,?_⟩⟩;rw[GB rfl];exact k H5 (M4.told k5 b5)
end
section
variable {dk:Dk}{c:Cl}
inductive V1 (K:Zzy) (Pt:Addr) (vs:List V) (H:Hp) (Q:VK) (E:XK):Prop | mk (a:Addr) (ns:List Int) (_:vs=[.ref a]) (_:SqL K H a (ns.map V.int)) (_:ns.length<=63) (_:Tb H Pt) (_:∀H',Q (.bl true) H')
theorem cut4{t t2 t3 t4 u:TS}{D:AX}(M:St->Hp->Prop)(hrest:∀σ' H',M σ' H'->u D σ' H')(h:∀KK:St->Hp->Prop,(∀σ' H',M σ' H'->KK σ' H')->Kl t (Kl t2 (Kl t3 t4)) {D with nx:=KK} σ H):Kl t (Kl t2 (Kl t3 (Kl t4 u))) D σ H:=h (u D) hrest
theorem pz{x:Addr}(h1:H x=none)(h2:H dx=none):AB H (upd (upd (upd H dx (.own x)) x (.ins dk.C dx [])) x (.ins dk.C dx [("kept",.non)]))/\AV dk (upd (upd (upd H dx (.own x)) x (.ins dk.C dx [])) x (.ins dk.C dx [("kept",.non)])) x none:=by
 refine⟨λb u e=>?_,dx,AA⟩;have n1:=A8 e h1;rw[A6 n1,A6 n1,A6 (A8 e h2)];exact e
structure BK(dk:Dk)(Pt st x l:Addr)(a b c d:Str)(o:Option Sh)(H:Hp):Prop where
 hs:AT H st
 ls:l≠st
 L:L72 dk Pt x l a b c d o H
section
variable {st x l:Addr}{a b c d:Str}
theorem BK.same(h:BK dk Pt st x l a b c d o H)(s:AB H H'):BK dk Pt st x l a b c d o H':=⟨h.hs.same s,h.ls,h.L.same s⟩
theorem BK.draw(h:BK dk Pt st x l a b c d o H)(s:AT H' st)(b':But st H H'):BK dk Pt st x l a b c d o H':=⟨s,h.ls,b' _ _ h.ls h.L.hl,h.L.kp.st h.hs b',kq h.L.tb b' h.hs⟩
theorem BK.pt(h:BK dk Pt st x l a b c d o H)(t:Tb H' Pt)(b':But Pt H H'):BK dk Pt st x l a b c d o H':=⟨A18 h.hs h.L.tb b',h.ls,h.L.pt t b'⟩
theorem BK.told(h:BK dk Pt st x l a b c d o H)(k:AV dk H' x (some S))(b':∀b u,b≠x->H b=some u->H' b=some u):BK dk Pt st x l a b c d (some S) H':=by
 refine⟨?_,h.ls,h.L.told k b'⟩;let⟨dx,v,hx⟩:=Dq h.L.kp;let⟨ns,h1,h2⟩:=h.hs;exact⟨ns,h1,b' _ _ (λz=>by rw[z,hx] at h2;cases h2) h2⟩
end
def LwM(dk:Dk)(Pt a st x l q:Addr)(y:Str)(e:Ek)(na nb nc nd:Str)(o:Option Sh)(σ:St)(H:Hp):Prop:=σ=[some (.ref a),some (.ref st),some (.ref l),some (.ref x),some (.ref q),some (.str y),some (.int ((e.ix:Nat):Int))]/\BK dk Pt st x l na nb nc nd o H
theorem N4.of{xs:List Str}(hl:xs.length=4)(nd:xs.Nodup)(nm:∀x∈xs,A2k x):∃a b c d,xs=[a,b,c,d]/\N4 a b c d:=by
 match xs,hl with
 |[a,b,c,d],_ =>
  have n:∀x∈[a,b,c,d],Al x=true:=λx hx=>by
   have h:=nm x hx;unfold Al;rw[GB h.ge,GB h.le,Zyk,Zyk,Zyv];exact λc hc=>GB (h.lets c hc)
  simp only[Zye,Zzw,Zz2,or_false,not_or] at nd;let⟨⟨ab,ac,ad⟩,⟨bc,bd⟩,cd,_⟩:=nd;exact⟨a,b,c,d,rfl,ab,ac,bc,n a (by simp),n b (by simp),n c (by simp),n d (by simp),by simp[Zza ad,Zza bd,Zza cd]⟩
theorem A1r(F:Fun K "law" "law" Tv f fd)(T:Txt mg)(De:Dsk K mg dk)(C:Exc K mg c)(Zse:Has P w K mg base "_law_drawn" 1 ["_law_script"] (Lc K))(Zsd:Has P w K mg base "_law_names" 2 ["_law_state", "_law_many"] DH)(Zsq:A2p P w K mg base dk.fi 1 ["self"] (Ke dk))(Zs4:Has P w K mg base "_law_rows" 1 ["_law_names_here"] DN)(Zue:Has P w K mg base "_law_next" 1 ["_law_state", "_law_many"] CM)(Zu8:Has P w K mg base "_law_refused" 13 ["_law_desk", "_law_text_here", "_law_due"] (G6 dk Pt))(Zur:S2 P w K mg base dk.ft 12 ["self", "text"] (Da c dk Pt))(Zud:Has P w K mg base "_law_text" 1 ["_law_names_here", "_law_stock"] BS)(Zuj:Has P w K mg base "_law_same" 14 ["_law_desk", "_law_text_here", "_law_due"] (Gj dk Pt))(Zsc:Has P w K mg base "_law_short" 15 ["_law_desk", "_law_names_here"] (Lb dk Pt))(Zs3:Has P w K mg base "_law_ring" 15 ["_law_desk", "_law_names_here"] (Nz dk Pt)):Aq P w K mg base CX0 16 f fd ["_law_script"] (V1 K Pt):=by
 refine F.go ["_law_script", "_law_state", "_law_names_here", "_law_desk", "_law_texts", "_law_text_here", "_law_due"] ?_ ?_ ?_;walk_at "f";let⟨a,ns,rfl,hS,hlen,tb,k⟩:=h;have hu:=Ao hr;have hu4:=Wi hr;refine⟨_,(A1 (B4 1 Nd (A9 Zse hr.z rfl (A2 (pv 0) A0)))
 (A1 (B4 2 Nd (A9 Zsd hr.z rfl (A2 (pv 1) (A2 A5 A0))))
 (A1 (B4 3 Nd (A1p Zsq De.me hr.z rfl De.md))
 (A1 (B4 4 Nd (A9 Zs4 hr.z rfl (A2 (pv 2) A0)))
 (A1 (Ep (Ac hu (pv 4) (A9 Zue hr.z rfl (A2 (pv 1) (A2 A5 A0)))) (Et (n:=2) rfl (Az (Cj 5 Nd) (Az (Cj 6 Nd) Df))))
 (A1 (As (B1 (B5 (A9 Zu8 hr.z rfl (A2 (pv 3) (A2 (pv 5) (A2 (Ac hu (B7 (A2 A5 (A2 A5 A0))) (Bf Uq rfl T.Zrf Wv (A2 (Bt (Bd hu) (pv 6) A5 (Ak _)) A0))) A0)))))) (A3 (Ad Di)) Ai)
 (A1 (As (Aj (Hy hu) (Ce Zur Cw (pv 3) De.c De.mt hr.z (A2 (Ae Ab Aa (A9 Zud hr.z rfl (A2 (pv 2) (A2 (Ae D4 A5 (A9 Zue hr.z rfl (A2 (pv 1) (A2 A5 A0)))) A0)))) A0)) Aa (Ak _)) (A3 (Ad Di)) Ai)
 (A1 (As (PW.pt (E8 (Aj (Hy hu) (Ce Zur Cw (pv 3) De.c De.mt hr.z (A2 Aa A0)) (Ae Ab (Ac hu (pv 2) A5) Aa) (Ak _)) (D1 (B1 (B5 (A9 Zuj hr.z rfl (A2 (pv 3) (A2 (pv 5) (A2 (pv 6) A0))))))))) (A3 (Ad Di)) Ai)
 (A1 (As (Aj (Bd hu) (A9 Zue hr.z rfl (A2 (pv 1) (A2 A5 A0))) A5 (Ak _)) (A3 (Ad (A9 Zsc hr.z rfl (A2 (pv 3) (A2 (pv 2) A0))))) Ai)
 (A3 (Ad (D3 (A9 Zs3 hr.z rfl (A2 (pv 3) (A2 (pv 2) A0))) (D3 (Bt (Bd hu) (Ce Zur Cw (pv 3) De.c De.mt hr.z (A2 Aa A0)) Aa (Ak _)) (E9 (Bt (Bd hu) (Ce Zur Cw (pv 3) De.c De.mt hr.z (A2 Aa A0)) Aa (Ak _)))))))))))))))),?_⟩
 refine cut4 (λσ' H'=>∃(st l x q:Addr) (na nb nc nd:Str) (xs:List V),σ'=[some (.ref a),some (.ref st),some (.ref l),some (.ref x),some (.ref q),none,none]/\N4 na nb nc nd/\BK dk Pt st x l na nb nc nd none H'/\H' q=some (.lst xs)/\q≠st/\RDs H' ((txs na nb nd).map txD) xs) ?_ (λKK hK=>?_);rotate_left
 ·walk_at "rd";refine⟨a,ns,rfl,hS,hlen,λst H1 s1 sm1=>⟨st,4,rfl,s1,by decide,by decide,λl xs H2 xl nd nm hl fl s2 b2 x0 dx0 f0 g0 _=>⟨x0,dx0,rfl,AA,rfl,?_⟩⟩⟩;let⟨m3,k3⟩:=pz (dk:=dk) f0 g0;generalize upd (upd (upd H2 dx0 (.own x0)) x0 (.ins dk.C dx0 [])) x0 (.ins dk.C dx0 [("kept",.non)])=H3 at m3 k3;let⟨na,nb,nc,n4,rfl,N⟩:=N4.of xl nd nm;let⟨la,lb,lc,ld⟩:=N.len;have hl3:=m3 _ _ hl;refine⟨l,na,nb,nc,n4,rfl,hl3,⟨la,lb,ld⟩,λq xs H4 fq hq rq s4=>?_⟩;have s23:=m3.trans s4;exact hK _ _ ⟨st,l,x0,q,na,nb,nc,n4,xs,rfl,N,⟨s2.same s23,Zza (s1.ne fl),s23 _ _ hl,k3.same s4,(kq (tb.same sm1) b2 s1).same s23⟩,hq,Zza ((s2.same m3).ne fq),rq⟩
 rintro σ' H1 ⟨st,l,x,q,na,nb,nc,nd,xs,rfl,N,L,hq,qs,rq⟩;refine Iv (λσ' H'=>∃(y:Str) (e:Ek),σ'=[some (.ref a),some (.ref st),some (.ref l),some (.ref x),some (.ref q),some (.str y),some (.int ((e.ix:Nat):Int))]/\zo na nb nc (y,e)/\BK dk Pt st x l na nb nc nd none H') ?_ (λKK hK=>?_);rotate_left
 ·walk_at "rd";refine⟨st,16,rfl,L.hs,by decide,by decide +kernel,λi H2 i0 i1 s2 b2=>?_⟩;have rl:=B8 rq;have rl:xs.length=16:=rl;let⟨i,rfl⟩:=Zx9 i0;obtain⟨v,ev⟩:∃v,xs[i]?=some v:=⟨_,Zzl (by lia)⟩;let⟨z,hz,rz⟩:=Bl rq ev;obtain⟨t,rfl,ht⟩:∃t,v=.ref t/\H1 t=some (.tup [.str z.1,.int ((z.2.ix:Nat):Int)]):=by
   let⟨t,ys,rfl,ht,r⟩:=RD.tup_of rz;let⟨y1,r1,rfl,q1,r⟩:=RDs.cons_of r;let⟨y2,r2,rfl,q2,r⟩:=RDs.cons_of r;cases RDs.nil_of r;rw[RD.str_of q1,RD.int_of q2] at ht;exact⟨t,rfl,ht⟩
  refine⟨_,rg (.inl (b2 _ _ qs hq)) i0 (by rw[Zwy];exact ev),gt2 (b2 _ _ (λz=>?_) ht) ?_⟩
  ·let⟨ms,_,es⟩:=L.hs;rw[z,es] at ht;cases ht
  ·exact hK _ _ ⟨_,_,rfl,A0z N.na N.nb N.nd N.hd _ (Zzn hz),L.draw s2 b2⟩
 rintro σ' H2 ⟨y,e,rfl,rw',L⟩;refine Iv (LwM dk Pt a st x l q y e na nb nc nd none) ?_ (λKK hK=>?_);rotate_left
 ·walk_at "rd";refine⟨by decide,λp hp=>⟨rfl,?_⟩⟩;have it:Tc (upd H2 p (.lst [V.int 1,V.int 0])) (V.ref p) (V.int (if decide (((e.ix:Nat):Int)=0)=true then 1 else 0)) (.int ((e.ahead.ix:Nat):Int)):=by
   cases e
   ·exact An (j:=1) AA rfl
   all_goals exact An (j:=0) AA rfl
  have L:=L.same (A7 (o:=.lst [V.int 1,V.int 0]) hp);refine⟨_,it,x,_,_,e.ahead,rfl,L.L.kp,L.L.tb,rw'.1,λH3 t3 b3=>⟨true,rfl,?_⟩⟩;rw[GD (by decide)];exact hK _ _ ⟨rfl,L.pt t3 b3⟩
 rintro σ' H3 ⟨rfl,L⟩;refine Iv (λσ' H'=>∃n,0<=n/\n<9/\LwM dk Pt a st x l q y e na nb nc nd (some (S72 na nb nc (6+n))) σ' H') ?_ (λKK hK=>?_);rotate_left
 ·walk_at "rd";let⟨dx,v,hx⟩:=L.L.ins;refine⟨dx,_,hx,rfl,st,9,rfl,L.hs,by decide,by decide +kernel,λn H4 n0 n1 s4 b4=>⟨n,rfl,?_⟩⟩;have L:=L.draw s4 b4;have hn:6+n=5\/(6<=6+n/\6+n<=14):=by lia
  have tl:=Uw N hn;refine⟨l,na,nb,nc,nd,6+n,rfl,L.L.hl,⟨Be N.na,Be N.nb,Be N.nc⟩,by lia,λH5 s5=>⟨_,rfl,yt (by show 5+_<=_;lia),?_⟩⟩;have L:=L.same s5;refine⟨x,_,_,_,rfl,L.L.kp,L.L.tb,.shop (N.nm hn).goodS,λH6 k6 b6=>⟨rfl,?_⟩⟩;rw[GB rfl,GD (by decide)];exact hK _ _ ⟨n,n0,n1,rfl,L.told k6 b6⟩
 rintro σ' H6 ⟨n,n0,n1,rfl,L⟩;have nm:=N.nm (s:=6+n) (by lia);refine Iv (LwM dk Pt a st x l q y e na nb nc nd (some (S72 na nb nc (6+n)))) ?_ (λKK hK=>?_);rotate_left
 ·walk_at "rd";let⟨dx,v,hx⟩:=L.L.ins;refine⟨dx,_,hx,rfl,x,_,_,_,rfl,L.L.kp,L.L.tb,Hg _,λy7 H7 p7 t7 b7=>?_⟩;obtain rfl:=nm.said p7;have L:=L.pt t7 b7;let⟨la,lb,lc,ld⟩:=N.len;refine⟨_,An (j:=0) L.L.hl rfl,na,rfl,Hd la (by decide +kernel),rfl,?_⟩;rw[GD (show ¬ 6+n=5 by lia),GB rfl,GD (by decide)];refine⟨x,y,na,nb,nc,6+n,e,rfl,nm,L.L.kp,L.L.tb,rw'.2 _,λH8 t8 b8=>⟨true,rfl,?_⟩⟩;rw[GD (by decide)];exact hK _ _ ⟨rfl,L.pt t8 b8⟩
 rintro σ' H8 ⟨rfl,L⟩;refine Iv (LwM dk Pt a st x l q y e na nb nc nd (some (S72 na nb nc (6+n)))) ?_ (λKK hK=>?_);rotate_left
 ·walk_at "rd";refine⟨st,2,rfl,L.hs,by decide,by decide +kernel,λm H9 m0 m1 s9 b9=>⟨rfl,Do (λ_=>⟨x,l,na,nb,nc,nd,_,rfl,N,(L.draw s9 b9).L,λH'=>k H'⟩) λ_=>hK _ _ ⟨rfl,L.draw s9 b9⟩⟩⟩
 rintro σ' H9 ⟨rfl,L⟩;walk_at "rd";refine⟨x,l,na,nb,nc,nd,6+n,rfl,N,by lia,L.L,λH10 L=>⟨true,rfl,?_⟩⟩;rw[GE rfl];let⟨dx,v,hx⟩:=L.ins;refine⟨dx,_,hx,rfl,x,_,_,_,rfl,L.kp,L.tb,N.drop (.inr (by decide)),λH11 k11 b11=>⟨rfl,?_⟩⟩;rw[GB rfl,GE rfl];have L:=L.told k11 b11;let⟨dx,v,hx⟩:=L.ins;refine⟨dx,_,hx,rfl,x,_,_,_,rfl,L.kp,L.tb,Hg _,λy12 H12 p12 t12 b12=>?_⟩;obtain rfl:=(N.nm (s:=6) (.inr (by decide))).saidN p12;exact⟨rfl,k H12⟩
end
abbrev aI(K:Zzy)(x:Str)(f:Addr):Prop:=Zz9 K mainGlobals x=some (some (.ref f))
abbrev lI(K:Zzy)(x:Str)(s:Stmt)(f:Addr)(o:Value)(d:Option Addr)(k c p:Value)(n:Option Addr)(v t:Value)(l:Array (Option Value)):Prop:=K.lookup f=some ⟨o,d,.func (Zxm x x (G1 s) (Dg s) (Ap s) .none k c p n v t),l⟩
abbrev cI(K:Zzy)(v:Value)(x:Str):Prop:=Zuz K v x=true
abbrev kI(K:Zzy)(f:Addr):Prop:=Zxj K (.ref f)=true
abbrev zI(K:Zzy)(x:Str):Prop:=Zz9 K mainGlobals x=some none
inductive Dm (P:Program) (w:World) (base:Heap) (K:Zzy) (mg:Str->Option Value):Prop | mk (h:Heap) (_:K.In h) (_:h.Ns mainGlobals mg)
def BA(x q:Str)(st:Stmt)(ps:List Str):Prop:=∀(kV doc pm:Value) (an:Option Addr) (cdv ct:Value) (us:List Value),us.length=ps.length->bindArgs (Zxm x q (G1 st) (Dg st) (Ap st) .none kV doc pm an cdv ct) ⟨us,[]⟩=pure (ps.zip us)
theorem A42{k:Nat}{st:Stmt}(D:Dm P w base K mg)(a:aI K x f)(F:Fun K x x st f fd)(o:Aq P w K mg base CX0 k f fd ps sp)
  (h:BA x x st ps:=by walk_at "n"):Has P w K mg base x k ps sp:=by let⟨_,X,G⟩:=D;exact⟨f,fd,Zzc X G a,F.2,F.binds h,o⟩
theorem hasM{k:Nat}{st:Stmt}(F:Fun K x q st f fd)(o:Aq P w K mg base CX0 k f fd ps sp)(h:BA x q st ps:=by walk_at "n"):A2p P w K mg base f k ps sp:=⟨fd,F.binds h,o⟩
inductive QI (K:Zzy) (x:Str) (s:Stmt):Prop | mk (f:Addr) (fd:FuncData) (_:aI K x f) (_:Fun K x x s f fd)
theorem q_mk{s:Stmt}{o:Value}{d:Option Addr}{k c p:Value}{n:Option Addr}{v t:Value}{l:Array (Option Value)}(a:aI K x f)(b:lI K x s f o d k c p n v t l)(e:cI K v x)(g:kI K f):QI K x s:=⟨f,_,a,Rl b e g⟩
theorem Bk{k:Nat}{st:Stmt}(D:Dm P w base K mg)(q:QI K x st)(o:∀{f:Addr} {fd:FuncData},Fun K x x st f fd->Aq P w K mg base CX0 k f fd ps sp)(h:BA x x st ps:=by walk_at "n"):Has P w K mg base x k ps sp:=by
 let⟨f,fd,a,F⟩:=q;exact A42 D a F (o F) h
theorem A41{k:Nat}{st:Stmt}(F:Fun K x q st f fd)(o:Aq P w K mg base (CXE P w) k f fd ps sp)(h:BA x q st ps:=by walk_at "n"):S2 P w K mg base f k ps sp:=⟨fd,F.binds h,o⟩
theorem Ho{k:Nat}{st:Stmt}(D:Dm P w base K mg)(q:QI K x st)(o:∀{f:Addr} {fd:FuncData},Fun K x x st f fd->Aq P w K mg base (CXE P w) k f fd ps sp)(h:BA x x st ps:=by walk_at "n"):Eh P w K mg base x k ps sp:=by
 let⟨f,fd,a,F⟩:=q;let⟨_,X,G⟩:=D;exact⟨f,fd,Zzc X G a,F.2,F.binds h,o F⟩
theorem DZ{C:List Value->Prop}(h:∀(a:Value) (r:List Value),r.length=n->C (a::r)):∀us:List Value,us.length=n+1->C us:=λus e=>by
 cases us with
 |nil=>cases e
 |cons a r=>exact h a r (Nat.succ.inj e)
theorem A3s{C:List Value->Prop}(h:∀a:Value,C [a]):∀us:List Value,us.length=1->C us:=DZ λa r e=>by
 cases r with
 |nil=>exact h a
 |cons=>cases e
theorem A3r{C:List Value->Prop}(h:∀a b:Value,C [a,b]):∀us:List Value,us.length=2->C us:=DZ λa r e=>A3s (C:=λr=>C (a::r)) (h a) r e
theorem A3q{C:List Value->Prop}(h:∀a b c:Value,C [a,b,c]):∀us:List Value,us.length=3->C us:=DZ λa r e=>A3r (C:=λr=>C (a::r)) (h a) r e
theorem len4{C:List Value->Prop}(h:∀a b c d:Value,C [a,b,c,d]):∀us:List Value,us.length=4->C us:=DZ λa r e=>A3q (C:=λr=>C (a::r)) (h a) r e
local macro_rules | `(tactic| walk_at "n")=>`(tactic| (intro _ _ _ _ _ _;first | exact A3s λ_=>rfl | exact A3r λ_ _=>rfl | exact A3q λ_ _ _=>rfl | exact len4 λ_ _ _ _=>rfl))
theorem all_mk{l:PySem.W.OpenLaw}{fa:Addr}(X:K.In h)(G:h.Ns mainGlobals mg)(hfa:mg "law" = some (.ref fa))
  {f4 f42 f74 f80:Addr} {d4 n4 d42 n42 d74 n74 d80 n80:Option Addr} {s4 s42 s74 s80:Array (Option Value)} {o4 v4 e4 p4 g4 t4 o42 v42 e42 p42 g42 t42 o74 v74 e74 p74 g74 t74 o80 v80 e80 p80 g80 t80:Value} {t_COMING:Tok} {t_FIGURES:Tok} {t_FLOOR:Tok} {t_GIVES:Tok} {t_KEEP:Tok} {t_LAG:Tok} {t_LAST_DAY:Tok} {t_LETTERS:Tok} {t_MEMBERS:Tok} {t_MOST_COMING:Tok} {t_MOST_FIGURES:Tok} {t_MOST_LAG:Tok} {t_MOST_LETTERS:Tok} {t_MOST_PARTS:Tok} {t_MOST_WANTS:Tok} {t_MOST_WARES:Tok} {t_NAME:Tok} {t_PARTS:Tok} {t_PRICE:Tok} {t_SETUP:Tok} {t_SHOP_ROW:Tok} {t_STOCK:Tok} {t_WANT_AMOUNT:Tok} {t_WANT_DAY:Tok} {t_WANT_NAME:Tok} {Ra R1 R2 R3 R4:Addr} {Re Rn1 Rn2 Rn3 Rn4:Nat} {Rt1 Rt2 Rt3 Rt4 Rt1_0 Rt1_1 Rt1_2 Rt1_3 Rt1_4 Rt2_0 Rt2_1 Rt2_2 Rt3_0 Rt3_1 Rt3_2 Rt4_0 Rt4_1 Rt4_2:Tok} {Fa F1 F2 F3 F4 F5 F6 F7 F8:Addr} {Fe Fn1 Fn2 Fn3 Fn4 Fn5 Fn6 Fn7 Fn8:Nat} {Ft1 Ft2 Ft3 Ft4 Ft5 Ft6 Ft7 Ft8 Ft1_0 Ft1_1 Ft1_2 Ft2_0 Ft5_0 Ft5_1 Ft6_0 Ft7_0 Ft7_1 Ft8_0 Ft8_1 Ft8_2 Ft8_3:Tok} {Dc:Addr} {Zsb:Addr} {Zrp:Addr} {Zro:Addr} {Zr7:Addr} {Zrn:Addr} {Zrh:Addr} {Zrg:Addr} {Zrm:Addr} {ct Pt:Addr} {odc:Option Addr} {vsc:Array Value} {slc:Array (Option Value)}
  (q1:QI K "_law_drawn" O7)
  (q2:QI K "_law_next" Q5)
  (q3:QI K "_law_names" O6)
  (A4:Zyc K (.ref Dc) "__init__" = some (some (.ref f4))) (I4:Zv9 K (.ref f4)=true) (L4:K.lookup f4=some ⟨o4,d4,.func (Zxm "__init__" "Desk.__init__" (G1 E7) (Dg E7) (Ap E7) .none v4 e4 p4 n4 g4 t4),s4⟩) (c4:cI K g4 "Desk.__init__") (k4:kI K f4)
  (q5:QI K "_law_rows" Q3)
  (q6:QI K "is_name" U0)
  (q7:QI K "read_name" J8)
  (q8:QI K "is_number" O8)
  (q9:QI K "read_number" Gw)
  (q10:QI K "read_words" Hv)
  (q11:QI K "read_row" Ko)
  (q12:QI K "rows_of" Ts)
  (q13:QI K "written_shop" J4)
  (q14:QI K "names_of" Pz)
  (q15:QI K "is_tuple" Q7)
  (q16:QI K "is_whole" Q6)
  (q17:QI K "is_from" U1)
  (q18:QI K "is_between" Lj)
  (q19:QI K "is_want" Tx)
  (q20:QI K "are_wants" Oc)
  (q21:QI K "is_part" Tz)
  (q22:QI K "are_unlike" Lm)
  (q23:QI K "are_parts" Od)
  (q24:QI K "is_arrival" Lk)
  (q25:QI K "are_arrivals" Jb)
  (q26:QI K "is_ware" Tw)
  (q27:QI K "are_wares" Ob)
  (q28:QI K "part_names" Lh)
  (q29:QI K "needed_names" J9)
  (q30:QI K "is_shop" Ty)
  (q31:QI K "read_shop" J7)
  (q32:QI K "without_ends" J6)
  (q33:QI K "endless_parts" Iq)
  (q34:QI K "ring" mo)
  (q35:QI K "check_rings" Gx)
  (q36:QI K "read_ringless" Fp)
  (q37:QI K "ware_of" Mu)
  (q38:QI K "check_told" Hw)
  (q39:QI K "with_want" O0)
  (q40:QI K "without_want" J5)
  (q41:QI K "levels" Xk)
  (a42:aI K "worked" f42) (l42:lI K "worked" Ld f42 o42 d42 v42 e42 p42 n42 g42 t42 s42) (c42:cI K g42 "worked") (k42:kI K f42)
  (q43:QI K "lots_for" Q0)
  (q44:QI K "least_lots" Li)
  (q45:QI K "count_days" Ll)
  (q46:QI K "wants_row" O1)
  (q47:QI K "begun_row" Oa)
  (q48:QI K "needs_row" O3)
  (q49:QI K "arrivals_row" Ja)
  (q50:QI K "first_early" Kh)
  (q51:QI K "planned" Tu)
  (q52:QI K "shown_words" Kf)
  (q53:QI K "days_with" O9)
  (q54:QI K "shown_plan" Lg)
  (q55:QI K "lets_plan" O4)
  (q56:QI K "times" dj)
  (q57:QI K "put_off" Tt)
  (q58:QI K "late" mr)
  (q59:QI K "most" mq)
  (q60:QI K "so_far" Xi)
  (q61:QI K "stocks_row" Lf)
  (q62:QI K "stocks" Xh)
  (q63:QI K "plan_of" Mv)
  (q64:QI K "serves" Xj)
  (q65:QI K "cheapest_start" Hl)
  (q66:QI K "rises" dm)
  (q67:QI K "orders_by" O2)
  (q68:QI K "cheapest" Q8)
  (q69:QI K "terms_from" Le)
  (q70:QI K "bought" Q9)
  (q71:QI K "days_of" U2)
  (q72:QI K "shown_orders" G8)
  (q73:QI K "answer" Qa)
  (A74:Zyc K (.ref Dc) "tell" = some (some (.ref f74))) (I74:Zv9 K (.ref f74)=true) (L74:K.lookup f74=some ⟨o74,d74,.func (Zxm "tell" "Desk.tell" (G1 E2) (Dg E2) (Ap E2) .none v74 e74 p74 n74 g74 t74),s74⟩) (c74:cI K g74 "Desk.tell") (k74:kI K f74)
  (q75:QI K "_law_refused" Kg)
  (q76:QI K "_law_text" Q1)
  (q77:QI K "_law_same" Q2)
  (q78:QI K "_law_short" O5)
  (q79:QI K "_law_ring" Q4)
  (a80:aI K "law" f80) (l80:lI K "law" Tv f80 o80 d80 v80 e80 p80 n80 g80 t80 s80) (c80:cI K g80 "law") (k80:kI K f80)
  (z_len:zI K "len")
  (z_isinstance:zI K "isinstance")
  (z_str:zI K "str")
  (z_all:zI K "all")
  (z_bool:zI K "bool")
  (z_int:zI K "int")
  (z_tuple:zI K "tuple")
  (z_range:zI K "range")
  (z_list:zI K "list")
  (z_max:zI K "max")
  (z_sorted:zI K "sorted")
  (z_reversed:zI K "reversed")
  (z_zip:zI K "zip")
  (z_min:zI K "min")
  (z_enumerate:zI K "enumerate")
  (z_sum:zI K "sum")
  (z_ValueError:zI K "ValueError")
  (Ztg:Zz9 K mainGlobals "COMING" = some (some (.int 5 t_COMING)))
  (Zt4:Zz9 K mainGlobals "FIGURES" = some (some (.str "0123456789" t_FIGURES)))
  (Zsz:Zz9 K mainGlobals "FLOOR" = some (some (.int 3 t_FLOOR)))
  (Ztn:Zz9 K mainGlobals "GIVES" = some (some (.int 2 t_GIVES)))
  (Zsa:Zz9 K mainGlobals "KEEP" = some (some (.int 2 t_KEEP)))
  (Zt5:Zz9 K mainGlobals "LAG" = some (some (.int 1 t_LAG)))
  (Zu6:Zz9 K mainGlobals "LAST_DAY" = some (some (.int 400 t_LAST_DAY)))
  (Ztm:Zz9 K mainGlobals "LETTERS" = some (some (.str "abcdefghijklmnopqrstuvwxyz" t_LETTERS)))
  (Ztl:Zz9 K mainGlobals "MEMBERS" = some (some (.int 7 t_MEMBERS)))
  (Ztx:Zz9 K mainGlobals "MOST_COMING" = some (some (.int 12 t_MOST_COMING)))
  (Zu2:Zz9 K mainGlobals "MOST_FIGURES" = some (some (.int 60 t_MOST_FIGURES)))
  (Ztj:Zz9 K mainGlobals "MOST_LAG" = some (some (.int 30 t_MOST_LAG)))
  (Zuc:Zz9 K mainGlobals "MOST_LETTERS" = some (some (.int 8 t_MOST_LETTERS)))
  (Zts:Zz9 K mainGlobals "MOST_PARTS" = some (some (.int 6 t_MOST_PARTS)))
  (Zua:Zz9 K mainGlobals "MOST_WANTS" = some (some (.int 20 t_MOST_WANTS)))
  (Ztr:Zz9 K mainGlobals "MOST_WARES" = some (some (.int 12 t_MOST_WARES)))
  (Zu5:Zz9 K mainGlobals "NAME" = some (some (.int 0 t_NAME)))
  (Ztk:Zz9 K mainGlobals "PARTS" = some (some (.int 6 t_PARTS)))
  (Zsy:Zz9 K mainGlobals "PRICE" = some (some (.int 1 t_PRICE)))
  (Ztf:Zz9 K mainGlobals "SETUP" = some (some (.int 0 t_SETUP)))
  (Ztp:Zz9 K mainGlobals "SHOP_ROW" = some (some (.str "shop\n" t_SHOP_ROW)))
  (Zsx:Zz9 K mainGlobals "STOCK" = some (some (.int 4 t_STOCK)))
  (Zu9:Zz9 K mainGlobals "WANT_AMOUNT" = some (some (.int 2 t_WANT_AMOUNT)))
  (Ztz:Zz9 K mainGlobals "WANT_DAY" = some (some (.int 1 t_WANT_DAY)))
  (Ztv:Zz9 K mainGlobals "WANT_NAME" = some (some (.int 0 t_WANT_NAME)))
  (r_g:Zz9 K mainGlobals "ROWS" = some (some (.ref Ra))) (r_l:K.lookup Ra=some {cls:=.type "dict",data:=.dict #[{hash:=PyData.keyHash w.params "ware",key:=.str "ware" Rt1,val:=.ref R1},{hash:=PyData.keyHash w.params "coming",key:=.str "coming" Rt2,val:=.ref R2},{hash:=PyData.keyHash w.params "part",key:=.str "part" Rt3,val:=.ref R3},{hash:=PyData.keyHash w.params "want",key:=.str "want" Rt4,val:=.ref R4}] Re}) (r_n:(Ra == sysModules)=false)
  (r_1:K.lookup R1=some {cls:=.type "tuple",data:=.seq #[Value.str "name" Rt1_0,Value.str "number" Rt1_1,Value.str "number" Rt1_2,Value.str "number" Rt1_3,Value.str "number" Rt1_4] Rn1})
  (r_2:K.lookup R2=some {cls:=.type "tuple",data:=.seq #[Value.str "name" Rt2_0,Value.str "number" Rt2_1,Value.str "number" Rt2_2] Rn2})
  (r_3:K.lookup R3=some {cls:=.type "tuple",data:=.seq #[Value.str "name" Rt3_0,Value.str "name" Rt3_1,Value.str "number" Rt3_2] Rn3})
  (r_4:K.lookup R4=some {cls:=.type "tuple",data:=.seq #[Value.str "name" Rt4_0,Value.str "number" Rt4_1,Value.str "number" Rt4_2] Rn4})
  (o_g:Zz9 K mainGlobals "FORMS" = some (some (.ref Fa))) (o_l:K.lookup Fa=some {cls:=.type "dict",data:=.dict #[{hash:=PyData.keyHash w.params "want",key:=.str "want" Ft1,val:=.ref F1},{hash:=PyData.keyHash w.params "drop",key:=.str "drop" Ft2,val:=.ref F2},{hash:=PyData.keyHash w.params "plan",key:=.str "plan" Ft3,val:=.ref F3},{hash:=PyData.keyHash w.params "late",key:=.str "late" Ft4,val:=.ref F4},{hash:=PyData.keyHash w.params "most",key:=.str "most" Ft5,val:=.ref F5},{hash:=PyData.keyHash w.params "stock",key:=.str "stock" Ft6,val:=.ref F6},{hash:=PyData.keyHash w.params "serves",key:=.str "serves" Ft7,val:=.ref F7},{hash:=PyData.keyHash w.params "buy",key:=.str "buy" Ft8,val:=.ref F8}] Fe}) (o_n:(Fa == sysModules)=false)
  (o_1:K.lookup F1=some {cls:=.type "tuple",data:=.seq #[Value.str "name" Ft1_0,Value.str "day" Ft1_1,Value.str "number" Ft1_2] Fn1})
  (o_2:K.lookup F2=some {cls:=.type "tuple",data:=.seq #[Value.str "place" Ft2_0] Fn2})
  (o_3:K.lookup F3=some {cls:=.type "tuple",data:=.seq #[] Fn3})
  (o_4:K.lookup F4=some {cls:=.type "tuple",data:=.seq #[] Fn4})
  (o_5:K.lookup F5=some {cls:=.type "tuple",data:=.seq #[Value.str "name" Ft5_0,Value.str "day" Ft5_1] Fn5})
  (o_6:K.lookup F6=some {cls:=.type "tuple",data:=.seq #[Value.str "name" Ft6_0] Fn6})
  (o_7:K.lookup F7=some {cls:=.type "tuple",data:=.seq #[Value.str "name" Ft7_0,Value.str "day" Ft7_1] Fn7})
  (o_8:K.lookup F8=some {cls:=.type "tuple",data:=.seq #[Value.str "name" Ft8_0,Value.str "number" Ft8_1,Value.str "number" Ft8_2,Value.str "number" Ft8_3] Fn8})
  (d_g:Zz9 K mainGlobals "Desk" = some (some (.ref Dc))) (d_1:Zwb K Dc Str.empty=true) (d_2:Zvn K Dc=true) (d_3:PySem.W.plainOver K Dc=true) (d_4:Zyc K (.ref Dc) "__setattr__" = some (some (.builtin "object.__setattr__"))) (d_5:PySem.W.makesIn K Dc=true) (d_6:Zxj K (.ref Dc)=true) (d_7:Zyc K (.ref Dc) "kept" = some none)
  (q_NeedError:Zz9 K mainGlobals "NeedError" = some (some (.ref Zsb)))
  (q_NoText:Zz9 K mainGlobals "NoText" = some (some (.ref Zrp)))
  (q_NoShop:Zz9 K mainGlobals "NoShop" = some (some (.ref Zro)))
  (q_Ring:Zz9 K mainGlobals "Ring" = some (some (.ref Zr7)))
  (q_NoName:Zz9 K mainGlobals "NoName" = some (some (.ref Zrn)))
  (q_NoDay:Zz9 K mainGlobals "NoDay" = some (some (.ref Zrh)))
  (q_NoBuy:Zz9 K mainGlobals "NoBuy" = some (some (.ref Zrg)))
  (q_NoPlan:Zz9 K mainGlobals "NoPlan" = some (some (.ref Zrm)))
  (ex:Xf K ⟨Zsb,Zrp,Zro,Zr7,Zrn,Zrh,Zrg,Zrm⟩)
  (tq:g42=.ref ct) (tl:K.lookup ct=some ⟨.type "code",odc,.fields vsc,slc⟩) (tv:vsc[11]?=some (.ref Pt)) (tw:ud vsc ct Pt=true) (tp:K.lookup Pt=none) :
  ∃(fd:FuncData) (ct Pt:Addr),(∀(s:Shared) (v:Value),BindsTo s fd ⟨[v],[]⟩ [("_law_script",v)])/\PySem.W.tabIn K "worked" = some (ct,Pt)/\K.lookup Pt=none/\∀base:Heap,K.In base->base.Ns mainGlobals mg->Kj mg base->Aq l.prog w K mg base CX0 16 fa fd ["_law_script"] (V1 K Pt):=by
 have e:=hfa.symm.trans (Zzc X G a80);cases e;have T:Txt mg:=⟨Zyu X G z_len,Zyu X G z_isinstance,Zyu X G z_str,Zyu X G z_all,Zyu X G z_bool,Zyu X G z_int,Zyu X G z_tuple,Zyu X G z_range,Zyu X G z_list,Zyu X G z_max,Zyu X G z_sorted,Zyu X G z_reversed,Zyu X G z_zip,Zyu X G z_min,Zyu X G z_enumerate,Zyu X G z_sum,Zyu X G z_ValueError,⟨_,Zzc X G Ztg⟩,⟨_,Zzc X G Zt4⟩,⟨_,Zzc X G Zsz⟩,⟨_,Zzc X G Ztn⟩,⟨_,Zzc X G Zsa⟩,⟨_,Zzc X G Zt5⟩,⟨_,Zzc X G Zu6⟩,⟨_,Zzc X G Ztm⟩,⟨_,Zzc X G Ztl⟩,⟨_,Zzc X G Ztx⟩,⟨_,Zzc X G Zu2⟩,⟨_,Zzc X G Ztj⟩,⟨_,Zzc X G Zuc⟩,⟨_,Zzc X G Zts⟩,⟨_,Zzc X G Zua⟩,⟨_,Zzc X G Ztr⟩,⟨_,Zzc X G Zu5⟩,⟨_,Zzc X G Ztk⟩,⟨_,Zzc X G Zsy⟩,⟨_,Zzc X G Ztf⟩,⟨_,Zzc X G Ztp⟩,⟨_,Zzc X G Zsx⟩,⟨_,Zzc X G Zu9⟩,⟨_,Zzc X G Ztz⟩,⟨_,Zzc X G Ztv⟩⟩;refine⟨Zxm "law" "law" (G1 Tv) (Dg Tv) (Ap Tv) .none v80 e80 p80 n80 g80 t80,ct,Pt,λs v=>.of_eq rfl,lf a42 l42 tq tl tv,tp,λbase _ _ hB=>?_⟩;have D:Dm l.prog w base K mg:=⟨_,X,G⟩;have tb:=lf a42 l42 tq tl tv;have tc:=jn tl tv tw;have R:Rws w K mg:=⟨Ra,[("ware",Rt1,R1),("coming",Rt2,R2),("part",Rt3,R3),("want",Rt4,R4)],Zzc X G r_g,⟨⟨Re,r_l⟩,by show (["ware", "coming", "part", "want"]:List Str).Nodup;decide +kernel,r_n⟩,⟨R1,[("name",Rt1_0),("number",Rt1_1),("number",Rt1_2),("number",Rt1_3),("number",Rt1_4)],rfl,⟨Rn1,r_1⟩,rfl⟩,⟨R2,[("name",Rt2_0),("number",Rt2_1),("number",Rt2_2)],rfl,⟨Rn2,r_2⟩,rfl⟩,⟨R3,[("name",Rt3_0),("name",Rt3_1),("number",Rt3_2)],rfl,⟨Rn3,r_3⟩,rfl⟩,⟨R4,[("name",Rt4_0),("number",Rt4_1),("number",Rt4_2)],rfl,⟨Rn4,r_4⟩,rfl⟩,rfl⟩;have Fo:Fms w K mg:=⟨Fa,[("want",Ft1,F1),("drop",Ft2,F2),("plan",Ft3,F3),("late",Ft4,F4),("most",Ft5,F5),("stock",Ft6,F6),("serves",Ft7,F7),("buy",Ft8,F8)],Zzc X G o_g,⟨⟨Fe,o_l⟩,by show (["want", "drop", "plan", "late", "most", "stock", "serves", "buy"]:List Str).Nodup;decide +kernel,o_n⟩,⟨F1,[("name",Ft1_0),("day",Ft1_1),("number",Ft1_2)],rfl,⟨Fn1,o_1⟩,rfl⟩,⟨F2,[("place",Ft2_0)],rfl,⟨Fn2,o_2⟩,rfl⟩,⟨F3,[],rfl,⟨Fn3,o_3⟩,rfl⟩,⟨F4,[],rfl,⟨Fn4,o_4⟩,rfl⟩,⟨F5,[("name",Ft5_0),("day",Ft5_1)],rfl,⟨Fn5,o_5⟩,rfl⟩,⟨F6,[("name",Ft6_0)],rfl,⟨Fn6,o_6⟩,rfl⟩,⟨F7,[("name",Ft7_0),("day",Ft7_1)],rfl,⟨Fn7,o_7⟩,rfl⟩,⟨F8,[("name",Ft8_0),("number",Ft8_1),("number",Ft8_2),("number",Ft8_3)],rfl,⟨Fn8,o_8⟩,rfl⟩,rfl⟩;have Dd:Dsk K mg ⟨Dc,f4,f74⟩:=⟨⟨d_1,d_2,d_3,d_4⟩,d_7,⟨A74,I74,k74⟩,⟨d_5,A4,I4,d_6⟩,Zzc X G d_g⟩;have C:Exc K mg ⟨Zsb,Zrp,Zro,Zr7,Zrn,Zrh,Zrg,Zrm⟩:=⟨Zzc X G q_NeedError,Zzc X G q_NoText,Zzc X G q_NoShop,Zzc X G q_Ring,Zzc X G q_NoName,Zzc X G q_NoDay,Zzc X G q_NoBuy,Zzc X G q_NoPlan,ex⟩;have Zse:=Bk D q1 (Vq · T);have Zue:=Bk D q2 (Y4 · T C);have Zsd:=Bk D q3 (Vp · T C Zue);have F4:=Rl (st:=E7) L4 c4 k4;have Zsq:=hasM (P:=l.prog) (w:=w) (base:=base) F4 (Sj F4 T Dd C);have Zs4:=Bk D q5 (Y2 · T C);have Zuf:=Bk D q6 (am · T C);have Zsk:=Ho D q7 (Vk · T C Zuf);have Zsl:=Bk D q8 (Vr · T C);have Zt3:=Ho D q9 (Qt · T C Zsl);have Zu0:=Ho D q10 (Sa · T C Zsk Zt3);have Zs7:=Ho D q11 (Xx · T R C Zu0);have Zsp:=Bk D q12 (aa · T C);have Zta:=Bk D q13 (Ou · T C Zsp);have Zui:=Bk D q14 (Xy · T C);have Zup:=Bk D q15 (Y6 · T C);have Zs8:=Bk D q16 (Y5 · T C);have Zum:=Bk D q17 (ao · T C Zs8);have Zuh:=Bk D q18 (Sd · T C Zum);have Zs0:=Bk D q19 (ai · T C Zup Zum Zuh Zuf);have Zsn:=Bk D q20 (Vv · T C Zs0 Zup);have Zs2:=Bk D q21 (ak · T C Zum Zuf Zup);have Zu1:=Bk D q22 (Si · T C);have Zso:=Bk D q23 (Vw · T C Zs2 Zup Zu1);have Zsw:=Bk D q24 (Se · T C Zum Zuh Zup);have Ztd:=Bk D q25 (P0 · T C Zsw Zup);have Zs1:=Bk D q26 (ah · T C Zup Zum Zuh Zuf Zso Ztd);have Zsm:=Bk D q27 (Vu · T C Zs1 Zup Zu1);have Zul:=Bk D q28 (Sb · T C);have Ztb:=Bk D q29 (Oy · T C Zul);have Zrz:=Bk D q30 (aj · T C Zsn Zsm Zup Zui Ztb);have Zsh:=Ho D q31 (Vj · T C Zs7 Zta Zui Zrz);have Ztc:=Bk D q32 (Ow · T C);have Zti:=Bk D q33 (N6 · T C Zul Ztc);have Zra:=Bk D q34 (xf · T C Zti);have Zuq:=Ho D q35 (Qw · T C Zra);have Zth:=Ho D q36 (N5 · T C Zsh Zuq);have Zun:=Ho D q37 (a9 · T C);have Zsr:=Ho D q38 (Sg · T Fo C Zun);have Zsf:=Bk D q39 (Vh · T C);have Zt8:=Bk D q40 (Ov · T C);have Zrv:=Bk D q41 (ip · T C Zuq Zui Zul);have F42:=Rl (st:=Ld) l42 c42 k42;have Zty:=A42 D a42 F42 (ik F42 T C Zrv Zui ⟨λ_ _ _ _ e=>Z2 tb a42 e,tc⟩ hB);have Zs6:=Bk D q43 (Xz · T C);have Zsv:=Bk D q44 (Sc · T C Zs6);have Zug:=Bk D q45 (Sf · T C);have Zsj:=Bk D q46 (Vi · T C Zug);have Zsi:=Bk D q47 (Vt · T C);have Ztu:=Bk D q48 (Vm · T C Zsj Zsi);have Zub:=Bk D q49 (Oz · T C Zug);have Zt2:=Bk D q50 (Qv · T C);have Zu4:=Bk D q51 (af · T C Zty Zun Zsv Ztu Zub Zt2);have Zuk:=Bk D q52 (Qs · T C);have Ztt:=Bk D q53 (Vs · T C);have Zss:=Bk D q54 (S9 · T C Zu4 Zuk Zty Ztt);have Zu3:=Bk D q55 (Vn · T C Zu4);have Zrj:=Bk D q56 (oy · T C Zty Zun Zul);have Zry:=Bk D q57 (ae · T C Zuq);have Zr9:=Bk D q58 (xh · T C Zu3 Zrj Zry);have Zr8:=Bk D q59 (xg · T C Zuq Zun Zu3);have Zru:=Bk D q60 (im · T C);have Zsu:=Bk D q61 (S8 · T C Ztu Zub Zru);have Zrs:=Bk D q62 (il · T C Zuq Zsu Zun);have Ztq:=Ho D q63 (ag · T C Zu4);have Zrr:=Bk D q64 (io · T C);have Zto:=Bk D q65 (Ls · T C);have Zri:=Bk D q66 (oz · T C);have Zsg:=Bk D q67 (Vl · T C);have Zs5:=Bk D q68 (Y7 · T C Zto Zri Zsg);have Zst:=Bk D q69 (S7 · T C);have Zrt:=Ho D q70 (iq · T C Zuq Zun Ztq Zs5 Zst);have Zrx:=Bk D q71 (aq · T C Zuq Zug);have Zt9:=Ho D q72 (Ox · T C Zrt Zrx Zuk Ztt);have Zrq:=Ho D q73 (ir · T C Zss Zr9 Zr8 Zuk Zrs Ztq Zrr Zt9);have F74:=Rl (st:=E2) L74 c74 k74;have Zur:=A41 (P:=l.prog) (w:=w) (base:=base) F74 (Vx F74 T Fo Dd C Zth Zu0 Zsr Zsf Zt8 Zrq);have Zu8:=Bk D q75 (Qu · T Dd C Zur);have Zud:=Bk D q76 (Y0 · T C);have Zuj:=Bk D q77 (Y1 · T Dd C Zur Zu8);have Zsc:=Bk D q78 (Vo · T Dd C Zur Zud Zuj);have Zs3:=Bk D q79 (Y3 · T Dd C Zud Zuj Zur);have F80:=Rl (st:=Tv) l80 c80 k80;exact A1r F80 T Dd C Zse Zsd Zsq Zs4 Zue Zu8 Zur Zud Zuj Zsc Zs3
theorem walk{l:PySem.W.OpenLaw}{q:Program}{d dw:DefRec}{K:Params->Zzy}(hn:l.most=some 63)(hdf:d.params.defaults=[])
  (hY:∀(w:World) (h:Heap),YP w h->(K w.params).In h) (hw:(PyProof.Rows.recsOf q).find? (λe=>e.name == ("worked" : Str))=some dw)
  (F:∀(w:World) (mg:Str->Option Value) (fa:Addr) (h:Heap),(K w.params).In h->h.Ns mainGlobals mg->mg d.name=some (.ref fa) ->
   ∃(fd:FuncData) (ct Pt:Addr),(∀(s:Shared) (u:Value),BindsTo s fd ⟨[u],[]⟩ [("_law_script",u)])/\PySem.W.tabIn (K w.params) "worked" = some (ct,Pt)/\(K w.params).lookup Pt=none/\∀base:Heap,(K w.params).In base->base.Ns mainGlobals mg->Kj mg base->Aq l.prog w (K w.params) mg base CX0 16 fa fd ["_law_script"] (V1 (K w.params) Pt)) :
  PySem.W.WalkO q loose XP YP l.row.toRowW d [] (λf vs=>PySem.call f vs) :=
 L2.kh (n:=63) (k:=16) (x := "_law_script") (wk := "worked") (sp:=λw Pt=>V1 (K w.params) Pt) hn (by decide) hdf ⟨rfl,by decide,by decide⟩ hY hw F (λ_ _ a Pt ns hl ht hS=>⟨a,ns,rfl,hS,hl,.inl ht,λ_=>rfl⟩)
end K72
structure PySem.W.Fast:Prop where(tw17479255568731124434 tw13802815061395816504 tw16943805858196667122 tw16849194058237655323 tw8190798300541871204 tw15057278639930590130 tw12103828921204117535 tw11033326533350924446 tw13976736095400547966 tw9005847590012145883 tw2854486909954472082 tw12595572078242331030 tw8394903770779287561 tw18083979005894593330 tw16772422530000047955 tw3679919529352299992 tw16305142430997338385 tw3195056355310084348 tw3467269470581586181 tw6343056307558673839 tw14150880582115340752 tw11612567523578256108 tw6561894662209689856 tw11150147411157718013 tw4529010485845866717 tw5320818371670271560 tw13683767593434774175 tw14233458025606186582 tw18407107074876975015 tw5277969995003140931 tw3440430966720564936 tw13059123334812473234 tw5890412627502925807 tw14874845698288437652 tw18330340098569065331 tw17160002931159957269 tw7155013317066904704 tw7284589900497114513 tw11784809495451961050 tw18336538784991296271 tw10173271848160335181 tw7497140131046546265 tw18215624724644018097 tw8663614902679093173 tw5280599495064389761 tw12248768453698029842 tw9195431216067996790 tw4470510089297239623 tw5260219347767547885 tw10840779533800637755 tw2805329670473456418 tw12021233807946710802 tw16280831066212028039 tw8903434950439043175 tw5065693567633427970 tw10076284264557889922 tw3449369308906357195 tw6246420630167856645 tw5121820676314537260 tw404415244254896679 tw6325277181716022364 tw16431208406802523517 tw3007393528377378438 tw9112290539763759720 tw1595364038063914182 tw4306260023649653048 tw13028477770512634467 tw16619627860853165993 tw8191831125947054641 tw16698983052305048403 tw17141100046493922360 tw12119233634492450386 tw2945591097102445508 tw8536865202732030342 tw13696223817531441981 tw4289957154526111559 tw1577388141293347860 tw1742746893273941196 tw8673785659105603915 tw337084770946844930 tw11983542520295019501 tw15828033472711587392 tw17539631444637987813 tw6401977879641794986 tw11430061835975673049 tw9563912084939773055 tw15229411835004817886 tw11206352058335235510 tw7378340412772599743 tw5944358495672906386 tw8877655496238119327 tw9164942501899790025 tw10137318620308685857 tw18311042250071000741 tw12015420851736951208 tw18320415318787318086 tw3820616475179535499 tw16144310482981943829 tw11354315856440973001 tw945869372122807594 tw11885663195351140703 tw11039438533992456051 tw12747874099539079697 tw15111903943447089582 tw10513338414840648636 tw9278311254557964332 tw16890898049834994305 tw5580573119043536277 tw16626283024256289649 tw15205479118898435337 tw11524126953316404052 tw7007453209930253761 tw17119741118607876308 tw1815395989690574547 tw10279189805440922854 tw2649465974350123564 tw16135747961165282322 tw1669843032319931548 tw15133350027675500852 tw9740999759922629477 tw15038282420830852235 tw5245356036494678290 tw3115709994086341432 tw3293555550017616636 tw7464835237217516963 tw10944464176640543921 tw3638438510567435728 tw1784468305680974492 tw3911747900421449585 tw17970000670244090459 tw481858953847022287 tw13332005427682101209 tw15378499175076501803 tw7219105693144728860 tw8143720224010935388 tw1775476352196070595 tw8695465289083179778 tw15025872544654468850 tw16112459471156083756 tw4897124955174497809 tw1241970109816803381 tw3149219222912450391 tw3462014730414677013 tw5464128714806457302 tw17026911139610302828 tw16049026149212109522 tw17176877349029729692 tw11878314159272351364 tw6842468339409364844 tw11526722101015805662 tw15030966470019664221 tw1423576513248425923 tw7090934950920715943 tw1566835893686092419 tw8123189076934391540 tw14522682659169013527 tw3641713161562756467 tw12765266053929044130 tw4559777714630447206 tw18225744595384828671 tw6605199090261986209 tw17219592544837094802 tw3902903858112345659 tw17120765684186981544 tw7756217361292257733 tw10820949227170243543 tw13047804744811390131 tw12642511332361889805 tw16308197826992344884 tw6547404104685644257 tw6824214942181653533 tw13720390173688895704 tw7800557871626993858 tw14391118642692706370 tw3157838433758898836 tw14802087575261094069 tw11797032383842832628 tw13614932532712062481 tw4049103439497269394 tw8048469168865045102 tw16562430806139818369 tw10330845771085772331 tw17431097697360074209 tw14409822759684149922 tw12202123803636445388 tw17285520076453537198 tw3680532467953471055 tw7415468914659579671 tw2559131866434110968 tw4123105103984884287 tw15068628095363189039 tw13312249501310776851 tw9855712365027086400 tw17613160168170088428 tw6131666026572153692 tw237353933411853488 tw17108805601729104445 tw2063203148347706361 tw13290767113767620154 tw17839158775437709204 tw13601265928816081267 tw13455935836124562935 tw10857185469700329878 tw16465999619453398716 tw9351775950193595847 tw7875814817296768007 tw5201046845367969534 tw8942472873520035353 tw12840753351635958116 tw13070427311300958616 tw13982116017172755152 tw10317090936981483190 tw9503800305267854370 tw2828409624377410091 tw6100819761297920022 tw10211084609492992423 tw13010841058254681384 tw8940199881623555393 tw14518116258598999902 tw18376236395298950187 tw3946410699648549153 tw11858080855268089818 tw8491191963072735262 tw6933727448014287720 tw9195188275332794700 tw7350282457672885518 tw2652907253597420762 tw14914899631222901685 tw8425814300909008347 tw12552959463420295513 tw207761510278133304 tw11955667025246451373 tw16637464308727535823 tw8458229522975551885 tw16746738096970776775 tw15031353338553425057 tw13395581616068800482 tw13729209718997137937 tw14474401740404574526 tw3227950481688935155 tw9261786524207139695 tw2877087254283018562 tw13832831108006571084 tw14820915815376596084 tw1279814981209724939 tw411612822750088546 tw16835454362158488514 tw3219511260851085400 tw2270156476224242121 tw17570787853110850870 tw16992009325072811454 tw12819612108503739755 tw3289406540972569168 tw5393848920664184407 tw16478608678245299824 tw16522453261241214117 tw4137632867783374834 tw3448842563918263424 tw10042378250345671301 tw15349574417317117555 tw17622545730928155806 tw17965951649475758107 tw12880201342817382443 tw5249963779016506247 tw13419181022415628603 tw9918810981067548859 tw17614721109783606065 tw1308796259348272772 tw10491920258877169786 tw15421059974089697940 tw2326759765247647311 tw5701128685149397169 tw2477733221284134610 tw17286552011812172451 tw4898550890493464402 tw14379189314896472319 tw9437210588053115846 tw16377008188026451393 tw9396976518951400697 tw16563343577544930637 tw6427588117396735921 tw15248526935550828980 tw14075901327259554056 tw1887051130155093294 tw1401298482872916131 tw6166221752330426518 tw4690219532501455027 tw9402024747748968893 tw15831540952807971682 tw11152927295035032195 tw11612549803888008161 tw67140585091387280 tw941012640650433699 tw3788827917908258424 tw7472497218258174844 tw8726226087089316471 tw4869093722786147574 tw17793602811222401882 tw16154725720860178863 tw10376424059071021790 tw18088977674713659470 tw12970433034705791818 tw17099246317175681658 tw5346408500460425814 tw16439967717635368553 tw4443580602720312640 tw8413688092887050215 tw9567470748771591416 tw5770677352561365929 tw10949868582682716853 tw15795034262638551781 tw3370499082694685853 tw8211084585387941255 tw4568027236001875668 tw8961988583802390173 tw9030182249619136722 tw16531053618156497453 tw8330320774716380567 tw8389570615444126444 tw6011422760349015221 tw8448888613610426694 tw15890464873036276967 tw8231731309937872481 tw14826913602707976213 tw13922080503896531551 tw2831006334338994753 tw6916532209979022833 tw12923599686240872563 tw14226707270813527789 tw1522996272064770682 tw1117856337671637243 tw7315730491289033431 tw3651336890412195398 tw11542698795154593125 tw16606725483392907296 tw14139300158918515725 tw16748461562477804960 tw15130483324812031420 tw7672131190206762796 tw8137071580385089171 tw16604577438796592808 tw4719260839355151637 tw1889683014324911960 tw2919191984548678654 tw14111877414808329555 tw14786387566315515072 tw15271919948357040254 tw5150500301184853457 tw1747426999131035497 tw7605548006701624907 tw11315841081936431035 tw17742136283637009463 tw9998041329285402275 tw8163978066697362694 tw4215210370955298595 tw1238320443137889466 tw8035950623842135507 tw7258713497309016147 tw6390506049683913283 tw9591158897270309046 tw7476206716363212439 tw4371560938913167169 tw8360836546099972926 tw17739199873603654819 tw421515235514012114 tw85376959593589848 tw5289400876952922364 tw967733967739493015 tw6939803218002558263 tw38175995844307629 tw15395022964830954006 tw2254766981627741362 tw2419018067368344357 tw9719223402908657521 tw696420158727767603 tw4210307573107842678 tw12414121044623882039 tw14406595806646382769 tw6000723399286683962 tw5688999986725642542 tw9400427101510241622 tw10014626239330127757 tw17643351589927435020 tw12207441941233714900 tw12614500513438017732 tw10289622235505295617 tw5408752606445471894 tw11855788505278337594 tw7106356722331309957 tw8281233432078054275 tw14650340209751201419 tw3751205234385253151 tw2086596685408116015 tw3962722683958616650 tw4583656453184189797 tw9203388312890167553 tw12698184534959601151 tw8734128055722149406 tw12709788644259395057 tw14368948438410405052 tw14537228179759504593 tw12312751251919543327 tw9264928208680580393 tw3002962884119181236 tw2002237883965428163 tw1564072998620615462 tw10005730715299478497 tw8775374856498800978 tw14013059125904035558 tw1076048143118830403 tw3541312975369513626 tw9415722593163121065 tw16226017041239089271 tw5356931301257857985 tw6530497486424184113 tw14799090609303632127 tw9593921322616674959 tw10092408358488945257 tw14822341533954969823 tw8856458413549362986 tw3328861544684764582 tw16723765658338725026 tw8395124718721949780 tw14750379622640458180 tw4601714825385519941 tw12394573857614590663 tw8829669227293915069 tw2642954895847320826 tw13635928233329476146 tw17655792272998675716 tw803654452879391498 tw13509795920388825012 tw15710625705506530972 tw3632509902608708493 tw16739079706291940589 tw3669006455605601680 tw15280500103149218009 tw1777544350933884240 tw5649146358459962594 tw4924845010564650304 tw9129759248275001996 tw3063853303616820613 tw17197262053096005389 tw5664215640653624075 tw2508559800665352829 tw18308712100330852191 tw11870517264260655572 tw13420256773446870110 tw12064707749425077070 tw6129976072126566403 tw10380479553341838839 tw2122971504194264624 tw1650148535041947950 tw14924394332533153819 tw14438142728209396017 tw4502446472268183817 tw9470912235874592524 tw14308089089615744889 tw14124595547561330980 tw7561253390750643550 tw3124323570991296601 tw8903885893470428359 tw1073271751567229572 tw15907594276296454218 tw13594445099959350381 tw16302664965704892396 tw15746083167864474823:True)
open PySem PySem.W PyProof.Rows
set_option maxRecDepth 100000 in
set_option maxHeartbeats 0 in
theorem PySem.Challenge.cw_needplan_k72_desk_refused_holds : PySem.Challenge.rw_needplan_k72_desk_refused.Holds := by
 w_on;o_law;k_head;(case hw=>w_witness2);k_fill;refine K72.walk (l:=PySem.Challenge.rw_needplan_k72_desk_refused) rfl rfl (λw h Y=>PySem.W.km_in_of Y) rfl ?F
 case F =>
  intro w mg fa h KX G hmg;refine' K72.all_mk KX G hmg ?q1 ?q2 ?q3 ?A4 ?I4 ?L4 ?c4 ?k4 ?q5 ?q6 ?q7 ?q8 ?q9 ?q10 ?q11 ?q12 ?q13 ?q14 ?q15 ?q16 ?q17 ?q18 ?q19 ?q20 ?q21 ?q22 ?q23 ?q24 ?q25 ?q26 ?q27 ?q28 ?q29 ?q30 ?q31 ?q32 ?q33 ?q34 ?q35 ?q36 ?q37 ?q38 ?q39 ?q40 ?q41 ?a42 ?l42 ?c42 ?k42 ?q43 ?q44 ?q45 ?q46 ?q47 ?q48 ?q49 ?q50 ?q51 ?q52 ?q53 ?q54 ?q55 ?q56 ?q57 ?q58 ?q59 ?q60 ?q61 ?q62 ?q63 ?q64 ?q65 ?q66 ?q67 ?q68 ?q69 ?q70 ?q71 ?q72 ?q73 ?A74 ?I74 ?L74 ?c74 ?k74 ?q75 ?q76 ?q77 ?q78 ?q79 ?a80 ?l80 ?c80 ?k80 ?z_len ?z_isinstance ?z_str ?z_all ?z_bool ?z_int ?z_tuple ?z_range ?z_list ?z_max ?z_sorted ?z_reversed ?z_zip ?z_min ?z_enumerate ?z_sum ?z_ValueError ?Ztg ?Zt4 ?Zsz ?Ztn ?Zsa ?Zt5 ?Zu6 ?Ztm ?Ztl ?Ztx ?Zu2 ?Ztj ?Zuc ?Zts ?Zua ?Ztr ?Zu5 ?Ztk ?Zsy ?Ztf ?Ztp ?Zsx ?Zu9 ?Ztz ?Ztv ?r_g ?r_l ?r_n ?r_1 ?r_2 ?r_3 ?r_4 ?o_g ?o_l ?o_n ?o_1 ?o_2 ?o_3 ?o_4 ?o_5 ?o_6 ?o_7 ?o_8 ?d_g ?d_1 ?d_2 ?d_3 ?d_4 ?d_5 ?d_6 ?d_7 ?q_NeedError ?q_NoText ?q_NoShop ?q_Ring ?q_NoName ?q_NoDay ?q_NoBuy ?q_NoPlan ?ex ?tq ?tl ?tv ?tw ?tp
  (case q_NeedError | q_NoText | q_NoShop | q_Ring | q_NoName | q_NoDay | q_NoBuy | q_NoPlan=>k_is)
  (case q1 | q2 | q3 | q5 | q6 | q7 | q8 | q9 | q10 | q11 | q12 | q13 | q14 | q15 | q16 | q17 | q18 | q19 | q20 | q21 | q22 | q23 | q24 | q25 | q26 | q27 | q28 | q29 | q30 | q31 | q32 | q33 | q34 | q35 | q36 | q37 | q38 | q39 | q40 | q41 | q43 | q44 | q45 | q46 | q47 | q48 | q49 | q50 | q51 | q52 | q53 | q54 | q55 | q56 | q57 | q58 | q59 | q60 | q61 | q62 | q63 | q64 | q65 | q66 | q67 | q68 | q69 | q70 | q71 | q72 | q73 | q75 | q76 | q77 | q78 | q79=>apply K72.q_mk;(case a=>delta K72.aI;k_is);(case b=>delta K72.lI;k_is);(case e=>delta K72.cI;k_is);delta K72.kI;k_is)
  (case a42 | a80=>delta K72.aI;k_is)
  (case l42 | l80=>delta K72.lI;k_is)
  (case d_g | d_1 | d_2 | d_3 | d_4 | d_5 | d_6 | d_7=>k_is)
  (case A4 | A74=>k_is)
  (case I4 | I74=>k_is)
  (case L4 | L74=>k_is)
  (case c4 | c42 | c74 | c80=>delta K72.cI;k_is)
  (case k4 | k42 | k74 | k80=>delta K72.kI;k_is)
  (case z_len | z_isinstance | z_str | z_all | z_bool | z_int | z_tuple | z_range | z_list | z_max | z_sorted | z_reversed | z_zip | z_min | z_enumerate | z_sum | z_ValueError=>delta K72.zI;k_is)
  (case Ztg | Zt4 | Zsz | Ztn | Zsa | Zt5 | Zu6 | Ztm | Ztl | Ztx | Zu2 | Ztj | Zuc | Zts | Zua | Ztr | Zu5 | Ztk | Zsy | Ztf | Ztp | Zsx | Zu9 | Ztz | Ztv=>k_is)
  (case r_g | r_l | r_1 | r_2 | r_3 | r_4=>k_is)
  (case o_g | o_l | o_1 | o_2 | o_3 | o_4 | o_5 | o_6 | o_7 | o_8=>k_is)
  (case tq=>rfl)
  (case tl=>k_is)
  (case tv=>rfl)
  (case tw=>rfl)
  (case tp=>rfl)
  (case r_n=>rfl)
  (case o_n=>rfl)
  (case ex=>intro e;cases e<;>exact⟨by kernel_rfl,by constructor<;>kernel_rfl,by kernel_rfl,by kernel_rfl,λf=>by cases f<;>kernel_rfl⟩)
