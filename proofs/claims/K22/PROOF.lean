import PyProof.Rows.All
import Wide.All
import OpenK.AllK
import Wide.FinOn
import Lean
import PyProof.EqAt
import PyProof.EqKinds
import PyProof.TupleCall
import KE.KTryMore
import KE.KDictOf
import PyProof.AttrMissHeap
import PyProof.Seq
import PyProof.Rows.Tup
import KE.KDictSum
import PyProof.Rows.SortWalk
import PyProof.EnumStmt
import PyProof.EnumMake
import PyProof.EnumFor
import PyProof.Rows.Range3
import PyProof.ReprRoads
import PyProof.Rows.MinMaxN
import KE.KMinBuiltin
import PyProof.Rows.CallKwBuiltin
import KE.KTabLook
import KE.KDictList
import PyProof.ListRange
import PyProof.ZipIter
import PyProof.Draws
import PyProof.StrLoop
import PyProof.ListNew
import PyProof.CollectWalk
import KE.LcSums
import KE.KIntText
import PyProof.Rows.StrIndexOr
import PyProof.FString5
import PyProof.StrBlockH
import PyProof.SliceStr2
import PyProof.StrLawsChain
import PyProof.StrLawsTight
import KE.IntTextLaws
import PyProof.Rows.StrSplitAre
import PyProof.Rows.ReprOcc
import PyProof.Rows.StrFin3
import PyProof.StrCalls
import PyProof.DictItems
import KE.KPairComp
import PyProof.MeetsSeq2
import PyProof.Rows.FStr
import PyProof.Rows.StrInSeq3
import PyProof.Rows.StrNews2
import PyProof.FactsAll.zip
import KE.KEqDict
import PyProof.DictUpdate
import PyProof.DictFindH
import PyProof.TupleKey
import KE.RegKTryMore
import KE.RegKIsAll
import PySem.Challenge.RW_signscreen_k22_whole_pieces_do
set_option compiler.extract_closed false
set_option bootstrap.genMatcherCode false
set_option Elab.async false
set_option linter.all false
set_option maxRecDepth 100000
set_option maxHeartbeats 4000000
theorem l6:type_of% @List.length_map:=@List.length_map
theorem l7:type_of% @PySem.wpAny_bind:=@PySem.wpAny_bind
theorem l8:type_of% @if_neg:=@if_neg
theorem l9:type_of% @PySem.Heap.get?_push_of_some:=@PySem.Heap.get?_push_of_some
theorem lg:type_of% @if_pos:=@if_pos
theorem lh:type_of% @List.mem_singleton:=@List.mem_singleton
theorem li:type_of% @List.mem_cons_self:=@List.mem_cons_self
theorem lj:type_of% @List.mem_cons_of_mem:=@List.mem_cons_of_mem
theorem lm:type_of% @List.mem_cons:=@List.mem_cons
theorem lp:type_of% @Nat.le_refl:=@Nat.le_refl
theorem lq:type_of% @PySem.Heap.lt_size:=@PySem.Heap.lt_size
theorem ls:type_of% @List.getElem?_eq_getElem:=@List.getElem?_eq_getElem
theorem lu:type_of% @Nat.ne_of_lt:=@Nat.ne_of_lt
theorem lw:type_of% @List.getElem?_map:=@List.getElem?_map
theorem lx:type_of% @List.getElem?_eq_some_iff:=@List.getElem?_eq_some_iff
theorem ly:type_of% @PySem.Heap.get?_push_size:=@PySem.Heap.get?_push_size
theorem lz:type_of% @List.mem_append:=@List.mem_append
theorem lC:type_of% @List.size_toArray:=@List.size_toArray
theorem lD:type_of% @List.not_mem_nil:=@List.not_mem_nil
theorem lE:type_of% @PySem.wpAny_pure:=@PySem.wpAny_pure
theorem lF:type_of% @PySem.Paired.length:=@PySem.Paired.length
theorem lG:type_of% @List.map_cons:=@List.map_cons
theorem lH:type_of% @Nat.lt_of_lt_of_le:=@Nat.lt_of_lt_of_le
theorem lI:type_of% @List.length_append:=@List.length_append
theorem lJ:type_of% @List.mem_map:=@List.mem_map
theorem lK:type_of% @List.mem_of_getElem?:=@List.mem_of_getElem?
theorem lL:type_of% @List.length_cons:=@List.length_cons
theorem lM:type_of% @List.map_map:=@List.map_map
theorem lN:type_of% @List.mem_append_right:=@List.mem_append_right
theorem lO:type_of% @Nat.zero_le:=@Nat.zero_le
theorem lP:type_of% @Bool.false_ne_true:=@Bool.false_ne_true
theorem lQ:type_of% @decide_eq_true:=@decide_eq_true
theorem lR:type_of% @PySem.F.plainAttrs_list:=@PySem.F.plainAttrs_list
theorem lS:type_of% @PySem.sizeLine_eq:=@PySem.sizeLine_eq
theorem lT:type_of% @Nat.le_trans:=@Nat.le_trans
theorem lU:type_of% @Option.some.inj:=@Option.some.inj
theorem lV:type_of% @List.append_nil:=@List.append_nil
theorem lW:type_of% @PySem.Heap.get?_update_other:=@PySem.Heap.get?_update_other
theorem lX:type_of% @PySem.F.slot_list_append:=@PySem.F.slot_list_append
theorem lY:type_of% @PySem.F.type_list_append:=@PySem.F.type_list_append
theorem lZ:type_of% @PySem.PassesOwn.never:=@PySem.PassesOwn.never
theorem m5:type_of% @decide_eq_false:=@decide_eq_false
theorem m6:type_of% @or_false:=@or_false
theorem m7:type_of% @Array.all_eq_true_iff_forall_mem:=@Array.all_eq_true_iff_forall_mem
theorem m8:type_of% @PySem.wpAny_truthy_bool:=@PySem.wpAny_truthy_bool
theorem m9:type_of% @List.map_append:=@List.map_append
theorem ma:type_of% @List.mem_append_left:=@List.mem_append_left
theorem md:type_of% @PySem.W.kia_one:=@PySem.W.kia_one
theorem me:type_of% @Array.length_toList:=@Array.length_toList
theorem mf:type_of% @of_decide_eq_true:=@of_decide_eq_true
theorem mh:type_of% @PyProof.Rows.callWith_type1:=@PyProof.Rows.callWith_type1
theorem mi:type_of% @PySem.wpAny_tryCatch:=@PySem.wpAny_tryCatch
theorem mj:type_of% @List.length_range:=@List.length_range
theorem mm:type_of% @List.filterMap_cons:=@List.filterMap_cons
theorem mo:type_of% @List.map_congr_left:=@List.map_congr_left
theorem mq:type_of% @List.getElem?_append_left:=@List.getElem?_append_left
theorem mr:type_of% @Classical.byContradiction:=@Classical.byContradiction
theorem mw:type_of% @congrArg:=@congrArg
theorem my:type_of% @PySem.Calls.callWith_builtin:=@PySem.Calls.callWith_builtin
theorem mz:type_of% @not_or:=@not_or
theorem mB:type_of% @PySem.F.plainAttrs_str:=@PySem.F.plainAttrs_str
theorem mC:type_of% @List.length_eq_one_iff:=@List.length_eq_one_iff
theorem mD:type_of% @PySem.wpAny_holding:=@PySem.wpAny_holding
theorem mE:type_of% @List.getElem?_append_right:=@List.getElem?_append_right
theorem mF:type_of% @List.any_cons:=@List.any_cons
theorem mG:type_of% @PySem.plainId_quiet:=@PySem.plainId_quiet
theorem mH:type_of% @List.length_take:=@List.length_take
theorem mI:type_of% @List.length_drop:=@List.length_drop
theorem mJ:type_of% @PySem.wpAny_Call_Name_kw:=@PySem.wpAny_Call_Name_kw
theorem mK:type_of% @PySem.wpAny_seqItems:=@PySem.wpAny_seqItems
theorem mL:type_of% @List.pairwise_cons:=@List.pairwise_cons
theorem mM:type_of% @Array.mem_toList_iff:=@Array.mem_toList_iff
theorem mN:type_of% @List.find?_cons:=@List.find?_cons
theorem mO:type_of% @PySem.Around.under_plainId:=@PySem.Around.under_plainId
theorem mP:type_of% @List.mem_of_mem_take:=@List.mem_of_mem_take
theorem mQ:type_of% @List.append_assoc:=@List.append_assoc
theorem mR:type_of% @Nat.lt_irrefl:=@Nat.lt_irrefl
theorem mS:type_of% @beq_eq_false_iff_ne:=@beq_eq_false_iff_ne
theorem mT:type_of% @List.mem_range:=@List.mem_range
theorem mU:type_of% @List.take_length:=@List.take_length
section
local macro_rules | `(tactic| walk_at $s:str) => do
 unless s.getString.startsWith "!" do Lean.Macro.throwUnsupported
 let a <- ((((s.getString.drop 1).toString++" and_assoc zF T.st.cl T.st.n_picture T.st.n_wide T.st.n_high T.st.n_row T.st.n_column T.st.n_late T.st.n_ink T.st.n_wrap T.st.n_putting T.st.n_home T.st.n_top T.st.n_bottom T.st.n_left T.st.n_right T.st.n_stops T.st.n_kept T.st.n_last zg zG zH zL zj zv zK zw zh zx zO zm zC zq zp zy zI zM zk zz zN zA zi zD zP zn zE zr zJ").splitOn " ").filter (·!="")).toArray.mapM fun n=>`(Lean.Parser.Tactic.simpLemma|$(Lean.mkIdent n.toName):ident)
 `(tactic|simp[$a,*])
namespace L2
open PySem PySem.Spec PyProof.Rows
abbrev Key:=Sum Int Str
noncomputable def qH:Key->Value->Bool
 |.inl k,v=>Value.isInt k v
 |.inr x,v=>Value.isStrOf x v
noncomputable def zk1(w:World):Key->Int
 |.inl k=>hashInt k
 |.inr x=>hashStr w x
variable {K:W.Frag}{E Q:Value->Shared->Prop}{mg:Str->Option Value}{pins:List (Addr×Obj)}{w:World}{s:Shared}{P prog:Program}{C a f p dx:Addr}{ds:List PyData}{fd:FuncData}{A:Around}{pos:Pos}{es:List Expr}{x:Str}{us:List Value}{n i c:Nat}{e tg:Expr}{b:List Nat}{u:Value}{base h:Heap}{N:List Str}{st:Stmt}
theorem yF:∀{k:Key}{v:Value},qH k v=true->(∃i t,k=Sum.inl i/\v=Value.int i t)\/(∃x t,k=Sum.inr x/\v=Value.str x t)
 |.inl i,v,h=>by
  obtain⟨t,e⟩:=Value.isInt_shape (k:=i) (v:=v) h;exact .inl ⟨i,t,rfl,e⟩
 |.inr x,v,h=>by
  obtain⟨t,e⟩:=Value.isStrOf_shape (x:=x) (v:=v) h;exact .inr ⟨x,t,rfl,e⟩
theorem zbt(i:Int)(t:Tok):qH (.inl i) (.int i t)=true:=by simp[qH,Value.isInt]
theorem zbu(x:Str)(t:Tok):qH (.inr x) (.str x t)=true:=by simp[qH,Value.isStrOf]
theorem zhW(a b:Int):decide ((Sum.inl a:Key)=Sum.inl b)=(a==b):=by
 by_cases e:a=b
 .subst e;simp
 .have h:¬(Sum.inl a:Key)=Sum.inl b:=λq=>e (Sum.inl.inj q)
  rw[m5 h];exact(mS.mpr e).symm
theorem zhX(a b:Str):decide ((Sum.inr a:Key)=Sum.inr b)=decide (a=b):=by
 by_cases e:a=b
 .subst e;simp
 .have h:¬(Sum.inr a:Key)=Sum.inr b:=λq=>e (Sum.inr.inj q)
  rw[m5 h,m5 e]
theorem zhY(a:Int)(b:Str):decide ((Sum.inl a:Key)=Sum.inr b)=false:=m5 (λq=>nomatch q)
theorem zhZ(a:Str)(b:Int):decide ((Sum.inr a:Key)=Sum.inl b)=false:=m5 (λq=>nomatch q)
noncomputable def yo(prog:Program)(w:World):PySem.KeyKind prog w Key where
 is:=qH
 hash:=zk1 w
 inj:=λv a b ha hb=>by
  rcases yF ha with⟨i,t,rfl,rfl⟩|⟨x,t,rfl,rfl⟩
  .rcases yF hb with⟨j,u,rfl,e⟩|⟨y,u,rfl,e⟩
   .injection e with e1 _;rw[e1]
   .exact nomatch e
  .rcases yF hb with⟨j,u,rfl,e⟩|⟨y,u,rfl,e⟩
   .exact nomatch e
   .injection e with e1 _;rw[e1]
 byValue:=λk v h=>by
  rcases yF h with⟨i,t,rfl,rfl⟩|⟨x,t,rfl,rfl⟩<;>rfl
 pyHash:=λhv h=>by
  rcases yF hv with⟨i,t,rfl,rfl⟩|⟨x,t,rfl,rfl⟩
  .exact wpAny_pyHash_int h
  .exact wpAny_pyHash_str h
 eqBool:=λhu hv h=>by
  rcases yF hu with⟨i,t,rfl,rfl⟩|⟨x,t,rfl,rfl⟩
  .rcases yF hv with⟨j,u,rfl,rfl⟩|⟨y,u,rfl,rfl⟩
   .rw[zhW]at h;exact wpAny_eqBool_int h
   .rw[zhY]at h;exact SeqAt.EqAt.int_str i t y u _ _ _ _ h
  .rcases yF hv with⟨j,u,rfl,rfl⟩|⟨y,u,rfl,rfl⟩
   .rw[zhZ]at h;exact SeqAt.EqAt.str_int x t j u _ _ _ _ h
   .rw[zhX]at h;exact wpAny_eqBool_str h
 «strs»:=λk x t v h=>by
  rcases yF h with⟨i,u,rfl,e⟩|⟨y,u,rfl,e⟩
  .exact nomatch e
  .injection e with e1 _
   subst e1
   cases v<;>rfl
theorem JA(prog:Program)(w:World)(i:Int)(t:Tok):(yo prog w).is (.inl i) (.int i t)=true:=zbt i t
theorem JB(prog:Program)(w:World)(x:Str)(t:Tok):(yo prog w).is (.inr x) (.str x t)=true:=zbu x t
inductive V where
 |non|bl (b:Bool)|int (i:Int)|str (x:Str)|byt (b:Array UInt8)|flt (b:UInt64)|ref (a:Addr)|ty (n:String)
 deriving DecidableEq
variable {vs:List V}{kvs:List (Key×V)}{v:V}
def RelV:V->Value->Prop
 |.non,u=>u=Value.none
 |.bl b,u=>u=Value.bool b
 |.int i,u=>∃t,u=Value.int i t
 |.str x,u=>∃t,u=Value.str x t
 |.byt b,u=>∃t,u=Value.bytes b t
 |.flt b,u=>∃t,u=Value.float b t
 |.ref a,u=>u=Value.ref a
 |.ty n,u=>u=Value.type n
abbrev Vals:List V->List Value->Prop:=Paired RelV
theorem Vals.length{xs:List V}(r:Vals xs us):xs.length=us.length:=lF r
theorem Vals.get:∀{xs:List V}{us:List Value}{i:Nat}{x:V},Vals xs us->xs[i]? =some x->∃u,us[i]? =some u/\RelV x u
 |_,_,_,_,.nil,e=>by simp at e
 |_,_,0,_,.cons r _,e=>by simp at e;subst e;exact⟨_,rfl,r⟩
 |_,_,i+1,x,.cons _ t,e=>by
  obtain⟨u,h1,h2⟩:=Vals.get (i:=i) (x:=x) t (by simpa using e);exact⟨u,by simpa using h1,h2⟩
theorem Vals.set{x:V}(r:RelV x u):∀{xs:List V}{us:List Value}(i:Nat),Vals xs us->Vals (xs.set i x) (us.set i u)
 |_,_,_,.nil=>.nil
 |_,_,0,.cons _ t=>.cons r t
 |_,_,i+1,.cons q t=>.cons q (Vals.set r i t)
theorem Vals.append:∀{xs ys:List V}{us ws:List Value},Vals xs us->Vals ys ws->Vals (xs++ys) (us++ws)
 |_,_,_,_,.nil,s=>s
 |_,_,_,_,.cons r t,s=>.cons r (Vals.append t s)
theorem Vals.take:∀{xs:List V}{us:List Value}(n:Nat),Vals xs us->Vals (xs.take n) (us.take n)
 |_,_,0,_=>.nil
 |_,_,_+1,.nil=>.nil
 |_,_,n+1,.cons r t=>.cons r (Vals.take n t)
theorem Vals.drop:∀{xs:List V}{us:List Value}(n:Nat),Vals xs us->Vals (xs.drop n) (us.drop n)
 |_,_,0,r=>r
 |_,_,_+1,.nil=>.nil
 |_,_,n+1,.cons _ t=>Vals.drop n t
def xC:Option V->Option Value->Prop
 |some v,some u=>RelV v u
 |none,none=>True
 |_,_=>False
def KV{κ:Type}:List (κ×V)->List (κ×Value)->Prop:=Paired λ(p:κ×V) (q:κ×Value)=>p.1=q.1/\RelV p.2 q.2
noncomputable def kV:Key->V
 |.inl i=>.int i
 |.inr x=>.str x
inductive HO where
 |lst (xs:List V)
 |tup (xs:List V)
 |dK (kvs:List (Key×V))|dT (kvs:List (List Key×V))
 |set (S:Int->Bool) (n:Nat)
 |ins (C dx:Addr) (fs:List (Str×V))
 |own (x:Addr)
 |xd (fs:List (Str×V))
 |met (f x:Addr)
 |rng (lo hi:Int)
 |frz (o:Obj) (u:HO)
 |tbl (ps:Array Value)
 |ext (φ:Heap->Prop)
abbrev Hp:=Addr->Option HO
variable {H:Hp}
noncomputable def upd(H:Hp)(a:Addr)(o:HO):Hp:=λb=>if b=a then some o else H b
theorem zW{o:HO}:upd H a o a=some o:=by unfold upd;rw[lg rfl]
theorem zu{b:Addr}{o:HO}(h:b≠a):upd H a o b=H b:=by unfold upd;rw[l8 h]
theorem XF{o u:HO}:upd (upd H a o) a u=upd H a u:=by
 funext b;unfold upd;split<;>rfl
theorem zkb{b:Addr}{o u:HO}(h:H a=some o)(h':H b=some u)(d:o≠u):a≠b:=by
 intro e;subst e;rw[h]at h';exact d (lU h')
theorem yB{b:Addr}{o:HO}(h:H a=some o)(h':H b=none):a≠b:=by
 intro e;subst e;rw[h]at h';cases h'
section
variable (P:Program)(w:World)
def yr(H:Hp)(h:Heap)(a:Addr):HO->Prop
 |.lst xs=>xs.length<=sizeLine/\∃(its:List Value) (n:Nat),Vals xs its/\h.get? a=some { cls:=.type "list",data:=.seq its.toArray n }
 |.tup xs=>xs.length<=sizeLine/\∃its:List Value,Vals xs its/\IsTup h a its.toArray
 |.dK kvs=>kvs.length<=sizeLine/\(a==sysModules)=false/\∃vs,KV kvs vs/\h.DictOf (yo P w) a vs
 |.dT kvs=>kvs.length<=sizeLine/\(a==sysModules)=false/\∃xs:List (List Key×Addr×Value),
   Paired (λ(p:List Key×V) (q:List Key×Addr×Value)=>p.1=q.1/\H q.2.1=some (.tup (p.1.map kV))/\RelV p.2 q.2.2) kvs xs/\
   ∃o es ep,h.get? a=some o/\o.ExactDict/\o.data=.dict es ep/\es.toList=xs.map (entryOfKey (tupleKind (yo P w)))/\(xs.map (·.1)).Nodup
 |.set S n=>h.SetOf (intKind P w) a S n
 |.ins C dx fs=>H dx=some (.own a)/\fs.length<=1000/\dx≠a/\h.get? a=some (PySem.W.instObj C dx)/\
   ∃mA,h.Ns1 dx mA/\(∀f,xC (fs.lookup f) (mA f))/\PySem.Within mA (fs.map (·.1))
 |.own _=>∃o,h.get? a=some o
 |.xd fs=>∃mA,h.Ns1 a mA/\∀f,xC (fs.lookup f) (mA f)
 |.rng lo hi=>∃t u v,h.get? a=some { cls:=.type "range",data:=.fields #[.int lo t,.int hi u,.int 1 v] }
 |.frz o u=>h.get? a=some o/\yr H h a u
 |.tbl ps=>h.get? a=some { cls:=.none,data:=.fields ps }
 |.met f x=>h.get? a=some (PySem.W.methodObj (.ref f) (.ref x))
 |.ext φ=>φ h/\(∃o,h.get? a=some o)/\∀h1 h2:Heap,φ h1->(∀o,h1.get? a=some o->h2.get? a=some o)->φ h2
def HOk(H:Hp)(h:Heap):Prop:=∀a o,H a=some o->yr P w H h a o
end
section
variable {H':Hp}{h':Heap}{o:HO}
theorem yr.lt(x:yr P w H h a o):a<h.objs.size:=by
 cases o with
 |lst xs=>obtain⟨_,_,_,_,e⟩:=x;exact lq e
 |tup xs=>obtain⟨_,_,_,p⟩:=x;exact p.lt
 |dK kvs=>obtain⟨_,_,_,_,o,_,_,e,_⟩:=x;exact lq e
 |dT kvs=>obtain⟨_,_,_,_,o,_,_,e,_⟩:=x;exact lq e
 |set S n=>obtain⟨o,_,_,_,e,_⟩:=x;exact lq e
 |ins C dx fs=>obtain⟨_,_,_,e,_⟩:=x;exact lq e
 |own y=>obtain⟨_,e⟩:=x;exact lq e
 |xd fs=>obtain⟨_,⟨_,_,_,e,_⟩,_⟩:=x;exact lq e
 |rng lo hi=>obtain⟨_,_,_,e⟩:=x;exact lq e
 |frz ob u=>obtain⟨e,_⟩:=x;exact lq e
 |tbl ps=>exact lq (show h.get? a=some _ from x)
 |met f y=>exact lq (show h.get? a=some _ from x)
 |ext φ=>obtain⟨_,⟨_,e⟩,_⟩:=x;exact lq e
theorem Paired.mapP{α β:Type}{F G:α->β->Prop}:∀{l₁:List α}{l₂:List β},Paired F l₁ l₂->(∀a b,F a b->G a b)->Paired G l₁ l₂
 |_,_,.nil,_=>.nil
 |_,_,.cons r t,f=>.cons (f _ _ r) (Paired.mapP t f)
theorem Paired.imp'{α β:Type}{F G:α->β->Prop}(f:∀a b,F a b->G a b){l₁:List α}{l₂:List β}(r:Paired F l₁ l₂):Paired G l₁ l₂:=Paired.mapP r f
theorem yr.stay(x:yr P w H h a o)(k:∀b u,(b=a\/H b=some (.own a))->h.get? b=some u->h'.get? b=some u)
  (ho:∀b,H b=some (.own a)->H' b=some (.own a))(ht:∀b xs,H b=some (.tup xs)->H' b=some (.tup xs)):yr P w H' h' a o:=by
 induction o with
 |lst xs=>obtain⟨z,its,n,r,e⟩:=x;exact⟨z,its,n,r,k _ _ (.inl rfl) e⟩
 |tup xs=>obtain⟨z,its,r,ob,e,c⟩:=x;exact⟨z,its,r,ob,k _ _ (.inl rfl) e,c⟩
 |dK kvs=>obtain⟨z,y,vs,r,ob,es,ep,e,c⟩:=x;exact⟨z,y,vs,r,ob,es,ep,k _ _ (.inl rfl) e,c⟩
 |dT kvs=>
  obtain⟨z,y,xs,r,ob,es,ep,e,c⟩:=x;exact⟨z,y,xs,Paired.mapP r λp q z=>⟨z.1,ht _ _ z.2.1,z.2.2⟩,ob,es,ep,k _ _ (.inl rfl) e,c⟩
 |set S n=>obtain⟨ob,es,ep,t,e,c⟩:=x;exact⟨ob,es,ep,t,k _ _ (.inl rfl) e,c⟩
 |ins C dx fs=>
  obtain⟨d,z,ne,e,mA,⟨od,es,ep,e2,c⟩,r⟩:=x;exact⟨ho _ d,z,ne,k _ _ (.inl rfl) e,mA,⟨od,es,ep,k _ _ (.inr d) e2,c⟩,r⟩
 |own y=>obtain⟨ob,e⟩:=x;exact⟨ob,k _ _ (.inl rfl) e⟩
 |xd fs=>obtain⟨mA,⟨od,es,ep,e,c⟩,r⟩:=x;exact⟨mA,⟨od,es,ep,k _ _ (.inl rfl) e,c⟩,r⟩
 |rng lo hi=>obtain⟨t,u,v,e⟩:=x;exact⟨t,u,v,k _ _ (.inl rfl) e⟩
 |frz ob u ih=>obtain⟨e,q⟩:=x;exact⟨k _ _ (.inl rfl) e,ih q⟩
 |tbl ps=>
  have e:h.get? a=some { cls:=.none,data:=.fields ps }:=x;show h'.get? a=some { cls:=.none,data:=.fields ps };exact k a _ (.inl rfl) e
 |met f y=>
  have e:h.get? a=some (PySem.W.methodObj (.ref f) (.ref y)):=x;show h'.get? a=some (PySem.W.methodObj (.ref f) (.ref y));exact k a _ (.inl rfl) e
 |ext φ=>obtain⟨p,⟨o,e⟩,st⟩:=x;exact⟨st _ _ p λo q=>k _ _ (.inl rfl) q,⟨o,k _ _ (.inl rfl) e⟩,st⟩
theorem HOk.lt(x:HOk P w H h)(e:H a=some o):a<h.objs.size:=(x a o e).lt
theorem HOk.fresh(x:HOk P w H h)(e:h.objs.size<=a):H a=none:=by
 cases q:H a with
 |none=>rfl
 |some u=>exact absurd (lH (x.lt q) e) (mR _)
theorem HOk.kept(x:HOk P w H h)(k:∀b u,h.get? b=some u->h'.get? b=some u):HOk P w H h':=λa o e=>
 (x a o e).stay (λb u _ q=>k b u q) (λ_ q=>q) λ_ _ q=>q
theorem HOk.laid(x:HOk P w H h)(k:∀b u,h.get? b=some u->h'.get? b=some u)(hp:h.objs.size<=a)(new:yr P w (upd H a o) h' a o):HOk P w (upd H a o) h':=λb u e=>by
 have hn:=x.fresh hp;by_cases hb:b=a
 .subst hb;rw[zW]at e;cases e;exact new
 .rw[zu hb]at e
  exact(x b u e).stay (λc v _ q=>k c v q) (λc q=>by rw[zu (yB q hn)];exact q) λc xs q=>by rw[zu (yB q hn)];exact q
end
def Rd(H:Hp)(a:Addr)(u:HO):Prop:=H a=some u\/∃o,H a=some (.frz o u)
theorem Rd.of{u:HO}(h:H a=some u):Rd H a u:=.inl h
theorem Rd.ok{u:HO}(r:Rd H a u)(x:HOk P w H h):yr P w H h a u:=by
 rcases r with r|⟨o,r⟩
 .exact x a u r
 .obtain⟨_,q⟩:=x a _ r
  exact q
def Mut:Option HO->Prop
 |some (.lst _)=>True
 |some (.dK _)=>True
 |some (.dT _)=>True
 |some (.set _ _)=>True
 |some (.ins _ _ _)=>True
 |some (.ext _)=>True
 |_=>False
section
variable {h':Heap}{x e:Addr}{o':HO}
theorem HOk.write(ok:HOk P w H h)(mu:Mut (H x))(he:e=x\/H e=some (.own x))(k:∀b u,b≠e->h.get? b=some u->h'.get? b=some u)(heo:∃u,h'.get? e=some u)
  (new:yr P w (upd H x o') h' x o'):HOk P w (upd H x o') h':=λb u q=>by
 have nown:∀c y,H c=some (.own y)->c≠x:=λc y r z=>by subst z;rw[r]at mu;exact mu
 have ntup:∀c xs,H c=some (.tup xs)->c≠x:=λc xs r z=>by subst z;rw[r]at mu;exact mu
 by_cases hb:b=x
 .subst hb;rw[zW]at q;cases q;exact new
 .rw[zu hb]at q
  by_cases hbe:b=e
  .have q':H b=some (.own x):=by
    rcases he with z|z
    .exact absurd (hbe.trans z) hb
    .rw[hbe];exact z
   rw[q]at q';cases q';obtain⟨v,hv⟩:=heo;exact⟨v,by rw[hbe];exact hv⟩
  .refine(ok b u q).stay (λc v hc r=>k c v ?_ r) (λc r=>by rw[zu (nown c b r)];exact r) λc xs r=>by rw[zu (ntup c xs r)];exact r
   rcases hc with rfl|hc
   .exact hbe
   .rintro rfl
    rcases he with z|z
    .exact nown c b hc z
    .rw[hc]at z;cases z;exact hb rfl
end
structure Un (fs ex:List Addr) (H H':Hp) (h h':Heap):Prop where
 keep:∀b o,h.get? b=some o->H b=none->b∉fs->b∉ex->h'.get? b=some o
 slot:∀b o,h.get? b=some o->H b=none->b∈fs->b∉ex->∃sl,h'.get? b=some { o with slots:=sl }
 free:∀b o,h.get? b=some o->H b=none->b∉ex->H' b=none
 there:∀b o,h.get? b=some o->b∉ex->∃o',h'.get? b=some o'
 tups:∀b xs,H b=some (.tup xs)->H' b=some (.tup xs)
 frzs:∀b o u,H b=some (.frz o u)->H' b=some (.frz o u)
 tbls:∀b ps,H b=some (.tbl ps)->∃more,H' b=some (.tbl (ps++more))
section
variable {fs fs' ex ex':List Addr}{H1 H2:Hp}{h1 h2 h':Heap}{x e:Addr}{o:HO}
theorem Un.any(u:Un fs ex H H1 h h1){b:Addr}{ob:Obj}(q:h.get? b=some ob)(n:H b=none)(hx:b∉ex):∃sl,h1.get? b=some { ob with slots:=sl }:=by
 by_cases hb:b∈fs
 .exact u.slot b ob q n hb hx
 .exact⟨ob.slots,u.keep b ob q n hb hx⟩
theorem Un.kept(k:∀b u,h.get? b=some u->h'.get? b=some u):Un fs ex H H h h':=
 ⟨λb ob q _ _ _=>k b ob q,λb ob q _ _ _=>⟨ob.slots,k b ob q⟩,λ_ _ _ n _=>n,λb ob q _=>⟨ob,k b ob q⟩,λ_ _ q=>q,λ_ _ _ q=>q,λ_ ps q=>⟨#[],by rw[q];simp⟩⟩
theorem Un.refl:Un fs ex H H h h:=Un.kept λ_ _ q=>q
theorem Un.laid(k:∀b u,h.get? b=some u->h'.get? b=some u)(hp:h.objs.size<=a)(hn:H a=none):Un fs ex H (upd H a o) h h' where
 keep:=λb u q _ _ _=>k b u q
 slot:=λb u q _ _ _=>⟨u.slots,k b u q⟩
 free:=λb u q n _=>by rw[zu (lu (lH (lq q) hp))];exact n
 there:=λb u q _=>⟨u,k b u q⟩
 tups:=λb xs q=>by rw[zu (yB q hn)];exact q
 frzs:=λb u xs q=>by rw[zu (yB q hn)];exact q
 tbls:=λb ps q=>⟨#[],by rw[zu (yB q hn),q];simp⟩
theorem Un.write(mu:Mut (H x))(he:e=x\/H e=some (.own x))(k:∀b u,b≠e->h.get? b=some u->h'.get? b=some u)(heo:∃u,h'.get? e=some u):Un fs ex H (upd H x o) h h':=by
 have hx:∀b,H b=none->b≠x:=λb n z=>by subst z;rw[n]at mu;exact mu
 have hb:∀b,H b=none->b≠e:=λb n z=>by
  subst z;rcases he with r|r
  .exact hx b n r
  .rw[n]at r;cases r
 have hm:∀b u,H b=some u->¬Mut (some u)->b≠x:=λb u q nm z=>by subst z;rw[q]at mu;exact nm mu
 refine⟨fun b u q n _ _=>k b u (hb b n) q,fun b u q n _ _=>⟨u.slots,k b u (hb b n) q⟩,fun b u q n _=>by rw [zu (hx b n)];exact n,fun b u q _=>?_,
  λb xs q=>by rw[zu (hm b _ q λz=>z)];exact q,λb u xs q=>by rw[zu (hm b _ q λz=>z)];exact q,λb ps q=>⟨#[],by rw[zu (hm b _ q λz=>z),q];simp⟩⟩
 by_cases hbe:b=e
 .subst hbe;exact heo
 .exact⟨u,k b u hbe q⟩
end
noncomputable def trk(h:Heap)(H:Hp):List Addr:=(List.range h.objs.size).filter λa=>(H a).isSome
noncomputable def jP(h:Heap)(H:Hp):Heap:=PySem.W.hideAll h (trk h H)
theorem zbv(h:Heap)(H:Hp):(jP h H).objs.size=h.objs.size:=PySem.W.hideAll_size _ _
theorem zdy{b:Addr}{o:Obj}(e:h.get? b=some o)(n:H b=none):(jP h H).get? b=some o:=
 PySem.W.hideAll_get _ e λhm=>by
  have q:(H b).isSome=true:=(List.mem_filter.mp hm).2;rw[n]at q;simp at q
theorem zgj{b:Addr}{o:Obj}(e:(jP h H).get? b=some o):h.get? b=some o/\H b=none:=by
 have e':h.get? b=some o:=PySem.W.of_hideAll (trk h H) e;refine⟨e',?_⟩;cases q:H b with
 |none=>rfl
 |some x=>
  have hm:b∈trk h H:=List.mem_filter.mpr ⟨mT.mpr (lq e'),by simp[q]⟩;have z:(jP h H).get? b=none:=PySem.W.hideAll_none (trk h H) hm;rw[z]at e;cases e
noncomputable def zgk(g h:Heap)(L:Addr):List (Addr×Obj):=(List.range h.objs.size).filterMap λa=>if a=L\/(g.get? a).isSome=true then none else(h.get? a).map λo=>(a,o)
noncomputable def xc(g h:Heap)(L d:Addr):List (Addr×Obj):=(zgk g h L).filter λp=>decide (p.1≠d)
structure Mod (K:W.Frag) (mg:Str->Option Value) (base:Heap):Prop where
 kin:K.In base
 glob:base.Ns mainGlobals mg
 blt:∃mb,base.Ns builtinsNs mb/\∀x:Str,x≠"__name__"->mb x=bootBuiltins x
 nolimit:base.NoLimit
structure Cx where
 prog:Program
 w:World
 K:W.Frag
 mg:Str->Option Value
 base:Heap
 A:Around
 N:List Str
 s₀:Shared
 H₀:Hp
 env:Env
 outer:List Env
 stack:List Env
 ex:List Addr
 fn:Str->Bool
 calm:Bool
 pn:List (Addr×Obj)
 xe:Value->Shared->Prop
variable {X:Cx}
noncomputable def frs(l:List Env):List Addr:=l.filterMap (·.frame)
noncomputable abbrev Cx.fs(X:Cx):List Addr:=frs X.outer
def Vis(sc:Scope)(x:Str):Prop:=sc.names.lookup x=some .local\/sc.names.lookup x=some .cell\/sc.names.lookup x=some .free
def Loc(sc:Scope)(x:Str):Prop:=sc.names.lookup x=some .local\/sc.names.lookup x=some .cell
def Look(env:Env)(h:Heap)(m:Str->Option Value)(x:Str)(u:Value):Prop:=
 (env.kindOf x=some .local/\m x=some u)\/((env.kindOf x=some .cell\/env.kindOf x=some .free)/\∃c,env.cells.lookup x=some c/\h.IsCell c (some u))
structure Cx.Ok (X:Cx):Prop where
 mod:Mod X.K X.mg X.base
 kind:X.env.scope.kind=.function
 glob:X.env.globals=mainGlobals
 blt:X.env.builtins=builtinsNs
 above:X.s₀.heap.objs.size<=X.env.locals
 inj:∀x y c,X.env.cells.lookup x=some c->X.env.cells.lookup y=some c->x=y
 has:∀x,(X.env.kindOf x=some .cell\/X.env.kindOf x=some .free)->∃c,X.env.cells.lookup x=some c
 cab:∀x c,X.fn x=true->X.env.cells.lookup x=some c->X.s₀.heap.objs.size<=c
 hd:X.calm=true->X.A.handled=none
 frames:X.A.frames=some X.stack
 stk:X.stack=X.outer\/(X.stack=X.env::X.outer/\X.env.frame=some X.env.locals)
 exf:∀b∈X.ex,b≠X.env.locals/\∀x c,X.env.cells.lookup x=some c->c≠b
 bs:∀b o,X.base.get? b=some o->X.s₀.heap.get? b=some o/\X.H₀ b=none
 bsz:X.base.objs.size<=X.s₀.heap.objs.size
 noex:∀b o,X.base.get? b=some o->b∉X.ex
 exfs:∀b∈X.ex,b∉X.fs
 funs:X.s₀.heap.FunFrames X.base X.outer
 frf:∀b∈X.fs,X.H₀ b=none
structure Inv (X:Cx) (pins:List (Addr×Obj)) (σ:List (Option V)) (H:Hp) (s:Shared):Prop where
 ok:X.Ok
 os:s.os=X.s₀.os
 bare:AllBare s.gens
 base:Un X.fs X.ex X.H₀ H X.s₀.heap s.heap
 loc:∃m,s.heap.Ns X.env.locals m/\∀(i:Nat) (x:Str) (v:V),X.N[i]? =some x->σ[i]? =some (some v)->Vis X.env.scope x->∃u,RelV v u/\Look X.env s.heap m x u
 cell:∀x c,X.env.cells.lookup x=some c->∃v,s.heap.IsCell c v
 free:H X.env.locals=none
 freeC:∀x c,X.env.cells.lookup x=some c->H c=none
 pin:∀p∈X.pn++pins,s.heap.get? p.1=some p.2/\H p.1=none/\p.1≠X.env.locals/\p.1∉X.fs/\∀v,p.2.data≠.cell v
 hok:HOk X.prog X.w H s.heap
 len:σ.length=X.N.length
section
variable {σ:List (Option V)}{H':Hp}{h':Heap}
theorem Cx.Ok.nofr(ok:X.Ok){b:Addr}{o:Obj}(e:X.base.get? b=some o):b∉X.fs:=λhb=>by
 have:=(ok.funs.mem hb).1;rw[e]at this;cases this
theorem Inv.bs(I:Inv X pins σ H s):∀b o,X.base.get? b=some o->s.heap.get? b=some o/\H b=none:=λb o e=>
 ⟨I.base.keep b o (I.ok.bs b o e).1 (I.ok.bs b o e).2 (I.ok.nofr e) (I.ok.noex b o e),I.base.free b o (I.ok.bs b o e).1 (I.ok.bs b o e).2 (I.ok.noex b o e)⟩
theorem Inv.bk(I:Inv X pins σ H s):∀b o,X.base.get? b=some o->s.heap.get? b=some o:=λb o e=>(I.bs b o e).1
theorem Inv.mod(I:Inv X pins σ H s):Mod X.K X.mg X.base:=I.ok.mod
theorem Inv.kIn(I:Inv X pins σ H s):X.K.In s.heap:=I.ok.mod.kin.keeps I.bk
theorem Inv.lt(I:Inv X pins σ H s):X.env.locals<s.heap.objs.size:=let⟨_,hn,_⟩:=I.loc;hn.lt
theorem Inv.sz(I:Inv X pins σ H s):X.s₀.heap.objs.size<=s.heap.objs.size:=lT I.ok.above (Nat.le_of_lt I.lt)
theorem Inv.nofs(I:Inv X pins σ H s)(h:s.heap.objs.size<=a):a∉X.fs:=λhb=>by
 obtain⟨_,o,ho,_⟩:=I.ok.funs.mem hb;exact absurd (lH (lq ho) (lT I.sz h)) (mR _)
theorem Inv.cne(I:Inv X pins σ H s):∀x c,X.env.cells.lookup x=some c->c≠X.env.locals:=λx c e z=>by
 obtain⟨v,o,ho,hd⟩:=I.cell x c e;obtain⟨m,⟨o',es,ep,ho',hd',_⟩,_⟩:=I.loc;rw[z,ho']at ho;cases ho;rw[hd']at hd;cases hd
theorem Inv.funs(I:Inv X pins σ H s):s.heap.FunFrames X.base X.outer:=by
 have all:∀(l:List Env),(∀b∈frs l,b∈X.fs)->X.s₀.heap.FunFrames X.base l->s.heap.FunFrames X.base l:=by
  intro l
  induction l with
  |nil=>intro _ _;trivial
  |cons env r ih=>
   intro hs hl;obtain⟨hk,⟨L,o,hf,hn,ho,hd⟩,hr⟩:=hl;have hL:L∈X.fs:=hs L (by unfold frs;rw[mm,hf];exact li);obtain⟨sl,e⟩:=I.base.slot L o ho (I.ok.frf L hL) hL λz=>I.ok.exfs L z hL;exact⟨hk,⟨L,_,hf,hn,e,hd⟩,ih (λb hb=>hs b (by unfold frs;rw[mm,hf];exact lj _ hb)) hr⟩
 exact all X.outer (λ_ hb=>hb) I.ok.funs
theorem Inv.stack(I:Inv X pins σ H s):s.heap.FunFrames X.base X.stack:=by
 rcases I.ok.stk with e|⟨e,hf⟩
 .rw[e];exact I.funs
 .rw[e]
  obtain⟨m,hn,_⟩:=I.loc;refine .cons (by rw[I.ok.kind];decide) hf hn ?_ I.funs;exact Heap.get?_none_of_le (lT I.ok.bsz I.ok.above)
theorem Inv.stkSub(I:Inv X pins σ H s):∀b∈frs X.stack,b∈X.env.locals::X.fs:=λb hb=>by
 rcases I.ok.stk with e|⟨e,hf⟩
 .rw[e]at hb;exact lj _ hb
 .rw[e]at hb
  unfold frs at hb;rw[mm,hf]at hb;exact hb
theorem Inv.stkFree(I:Inv X pins σ H s):∀b∈frs X.stack,H b=none:=λb hb=>by
 rcases lm.mp (I.stkSub b hb)with e|hb
 .rw[e];exact I.free
 .obtain⟨_,o,ho,_⟩:=I.ok.funs.mem hb
  exact I.base.free b o ho (I.ok.frf b hb) λz=>I.ok.exfs b z hb
theorem Inv.step{g':Array GenState}{t':Nat}{d':Drawn}{ch:List Addr}(I:Inv X pins σ H s)
  (hch:∀b∈ch,(b∈X.ex\/X.s₀.heap.objs.size<=b)/\b≠X.env.locals/\(∀x c,X.env.cells.lookup x=some c->c≠b)/\∀p∈X.pn++pins,p.1≠b)
  (keep:∀b o,b≠X.env.locals->b∉X.fs->b∉ch->s.heap.get? b=some o->H b=none->h'.get? b=some o)
  (slot:∀b o,b≠X.env.locals->b∈X.fs->b∉ch->s.heap.get? b=some o->H b=none->∃sl,h'.get? b=some { o with slots:=sl })(free:∀b o,b∉ch->s.heap.get? b=some o->H b=none->H' b=none)
  (there:∀b o,b∉ch->s.heap.get? b=some o->∃o',h'.get? b=some o')
  (tups:∀b xs,H b=some (.tup xs)->H' b=some (.tup xs))(frzs:∀b o u,H b=some (.frz o u)->H' b=some (.frz o u))(tbls:∀b ps,H b=some (.tbl ps)->∃more,H' b=some (.tbl (ps++more)))
  (ns:∀m,s.heap.Ns X.env.locals m->h'.Ns X.env.locals m)(hok:HOk X.prog X.w H' h')(hg:AllBare g') :
  Inv X pins σ H' { s with heap:=h',gens:=g',drawn:=d',toks:=t' }:=by
 have neL:∀b o,X.s₀.heap.get? b=some o->b≠X.env.locals:=λb o e=>lu (lH (lq e) I.ok.above);have neC:∀b o,X.s₀.heap.get? b=some o->b∉X.ex->b∉ch:=λb o e hx hb=>by
  rcases(hch b hb).1 with z|z
  .exact hx z
  .exact absurd (lH (lq e) z) (mR _)
 have zaR:∀x c,X.env.cells.lookup x=some c->∀v,s.heap.IsCell c v->h'.IsCell c v:=λx c e v ⟨o,ho,hd⟩=>by
  have nch:c∉ch:=λz=>(hch c z).2.2.1 x c e rfl;by_cases hc:c∈X.fs
  .obtain⟨sl,q⟩:=slot c o (I.cne x c e) hc nch ho (I.freeC x c e)
   exact⟨_,q,hd⟩
  .exact⟨o,keep c o (I.cne x c e) hc nch ho (I.freeC x c e),hd⟩
 refine⟨I.ok,I.os,hg,⟨λb o e n hb hx=>?_,λb o e n hb hx=>?_,λb o e n hx=>?_,λb o e hx=>?_,λb xs e=>tups b xs (I.base.tups b xs e),λb o xs e=>frzs b o xs (I.base.frzs b o xs e),λb ps e=>?_⟩,?_,λx c e=>?_,?_,λx c e=>?_,λp hp=>?_,hok,I.len⟩
 .exact keep b o (neL b o e) hb (neC b o e hx) (I.base.keep b o e n hb hx) (I.base.free b o e n hx)
 .obtain⟨sl,e1⟩:=I.base.slot b o e n hb hx
  obtain⟨sl',e2⟩:=slot b _ (neL b o e) hb (neC b o e hx) e1 (I.base.free b o e n hx);exact⟨sl',e2⟩
 .obtain⟨o',e1⟩:=I.base.there b o e hx
  exact free b o' (neC b o e hx) e1 (I.base.free b o e n hx)
 .obtain⟨o',e1⟩:=I.base.there b o e hx
  exact there b o' (neC b o e hx) e1
 .obtain⟨m1,e1⟩:=I.base.tbls b ps e
  obtain⟨m2,e2⟩:=tbls b _ e1;exact⟨m1++m2,by rw[e2,Array.append_assoc]⟩
 .obtain⟨m,hn,hl⟩:=I.loc
  refine⟨m,ns m hn,λi x v e1 e2 e3=>?_⟩;obtain⟨u,r,l⟩:=hl i x v e1 e2 e3;refine⟨u,r,?_⟩;rcases l with l|⟨k,c,e,z⟩
  .exact .inl l
  .exact .inr ⟨k,c,e,zaR x c e _ z⟩
 .obtain⟨v,z⟩:=I.cell x c e
  exact⟨v,zaR x c e v z⟩
 .obtain⟨m,⟨o,_,_,ho,_⟩,_⟩:=I.loc
  exact free _ o (λz=>(hch _ z).2.1 rfl) ho I.free
 .obtain⟨v,o,ho,hd⟩:=I.cell x c e
  exact free c o (λz=>(hch c z).2.2.1 x c e rfl) ho (I.freeC x c e)
 .obtain⟨e,n,ne,nf,d⟩:=I.pin p hp
  have nch:p.1∉ch:=λz=>(hch p.1 z).2.2.2 p hp rfl;exact⟨keep p.1 p.2 ne nf nch e n,free p.1 p.2 nch e n,ne,nf,d⟩
theorem Inv.un{t':Nat}(I:Inv X pins σ H s)(u:Un X.fs [] H H' s.heap h')(hok:HOk X.prog X.w H' h'):Inv X pins σ H' { s with heap:=h',toks:=t' }:=by
  obtain⟨m,⟨o,es,ep,ho,r⟩,_⟩:=id I.loc;obtain⟨sl,hL⟩:=u.any ho I.free (by simp);exact I.step (g':=s.gens) (d':=s.drawn) (ch:=[]) (fun _ z=>nomatch z) (fun b o _ hb _ e n=>u.keep b o e n hb (by simp)) (fun b o _ hb _ e n=>u.slot b o e n hb (by simp)) (fun b o _ e n=>u.free b o e n (by simp)) (fun b o _ e=>u.there b o e (by simp)) u.tups u.frzs u.tbls (fun m' hm=>by
    obtain⟨o',es',ep',ho',r'⟩:=hm;rw[ho]at ho';cases ho';exact⟨_,es',ep',hL,r'⟩) hok I.bare
theorem Inv.call{g':Array GenState}{t':Nat}{d':Drawn}{ch:List Addr}(I:Inv X pins σ H s)(u:Un (frs X.stack) ch H H' s.heap h')(hok:HOk X.prog X.w H' h')(hg:AllBare g')
    (hch:∀b∈ch,(b∈X.ex\/X.s₀.heap.objs.size<=b)/\b≠X.env.locals/\(∀x c,X.env.cells.lookup x=some c->c≠b)/\∀p∈X.pn++pins,p.1≠b) :
    Inv X pins σ H' { s with heap:=h',gens:=g',drawn:=d',toks:=t' }:=by
  obtain⟨m,⟨o,es,ep,ho,r⟩,_⟩:=id I.loc;obtain⟨sl,hL⟩:=u.any ho I.free λz=>(hch _ z).2.1 rfl;exact I.step (ch:=ch) hch (fun b o hL hb hc e n=>u.keep b o e n (fun z=>(lm.mp (I.stkSub b z)).elim hL hb) hc) (fun b o _ _ hc e n=>u.any e n hc) (fun b o hc e n=>u.free b o e n hc) (fun b o hc e=>u.there b o e hc) u.tups u.frzs u.tbls (fun m' hm=>by
    obtain⟨o',es',ep',ho',r'⟩:=hm;rw[ho]at ho';cases ho';exact⟨_,es',ep',hL,r'⟩) hok hg
theorem Inv.turned{t':Nat}{it:Addr}(I:Inv X pins σ H s)(k:∀b o,b≠it->s.heap.get? b=some o->h'.get? b=some o)(hn:H it=none)(hL:it≠X.env.locals)
  (h1:it∈X.ex\/X.s₀.heap.objs.size<=it)(h2:∀x c,X.env.cells.lookup x=some c->c≠it)(h3:∀p∈X.pn++pins,p.1≠it):Inv X pins σ H { s with heap:=h',toks:=t' }:=by
 have nit:∀b u,H b=some u->b≠it:=λb u e z=>by rw[z,hn]at e;cases e
 refine I.step (g':=s.gens) (d':=s.drawn) (ch:=[it]) (λb hb=>?_) (λb o _ _ hc e _=>k b o (λz=>hc (by simp[z])) e) (λb o _ _ hc e _=>⟨o.slots,k b o (λz=>hc (by simp[z])) e⟩) (λ_ _ _ _ n=>n)
  (λb o hc e=>⟨o,k b o (λz=>hc (by simp[z])) e⟩) (λ_ _ e=>e) (λ_ _ _ e=>e) (λb ps e=>⟨#[],by rw[e];simp⟩) (λm hm=>?_) (λb u e=>?_) I.bare
 .have e:b=it:=by simpa using hb
  subst e;exact⟨h1,hL,h2,h3⟩
 .obtain⟨o,es,ep,ho,r⟩:=hm
  exact⟨o,es,ep,k _ o (Ne.symm hL) ho,r⟩
 .refine(I.hok b u e).stay (λc v hc q=>k c v ?_ q) (λ_ q=>q) λ_ _ q=>q
  rcases hc with z|z
  .rw[z];exact nit b u e
  .exact nit c _ z
theorem Inv.tok(I:Inv X pins σ H s)(t:Nat):Inv X pins σ H { s with toks:=t }:=I.un (h':=s.heap) (t':=t) Un.refl I.hok
theorem Inv.kept{t':Nat}(I:Inv X pins σ H s)(k:∀b u,s.heap.get? b=some u->h'.get? b=some u):Inv X pins σ H { s with heap:=h',toks:=t' }:=I.un (Un.kept k) (I.hok.kept k)
theorem Inv.laid{o:HO}{t':Nat}(I:Inv X pins σ H s)(k:∀b u,s.heap.get? b=some u->h'.get? b=some u)(hp:s.heap.objs.size<=a)(new:yr X.prog X.w (upd H a o) h' a o) :
  Inv X pins σ (upd H a o) { s with heap:=h',toks:=t' }:=I.un (Un.laid k hp (I.hok.fresh hp)) (I.hok.laid k hp new)
theorem Inv.write{x e:Addr}{o:HO}{t':Nat}(I:Inv X pins σ H s)(mu:Mut (H x))(he:e=x\/H e=some (.own x))(k:∀b u,b≠e->s.heap.get? b=some u->h'.get? b=some u)(heo:∃u,h'.get? e=some u)
  (new:yr X.prog X.w (upd H x o) h' x o):Inv X pins σ (upd H x o) { s with heap:=h',toks:=t' }:=I.un (Un.write mu he k heo) (I.hok.write mu he k heo new)
theorem Inv.pins_of{pins':List (Addr×Obj)}(I:Inv X pins σ H s)(h:∀p∈pins',s.heap.get? p.1=some p.2/\H p.1=none/\p.1≠X.env.locals/\p.1∉X.fs/\∀v,p.2.data≠.cell v):Inv X pins' σ H s:=
 ⟨I.ok,I.os,I.bare,I.base,I.loc,I.cell,I.free,I.freeC,λp hp=>(lz.mp hp).elim (λz=>I.pin p (ma _ z)) (h p),I.hok,I.len⟩
theorem UA(hN:N.Nodup){j:Nat}(a:N[i]? =some x)(b:N[j]? =some x):i=j:=by
 obtain⟨h1,e1⟩:=lx.mp a;obtain⟨h2,e2⟩:=lx.mp b;exact(List.getElem_inj hN).mp (e1.trans e2.symm)
theorem Vz{M:Model}{Q:Unit->Shared->Prop}(I:Inv X pins σ H s)(hN:X.N.Nodup)(hi:X.N[i]? =some x)(hx:Loc X.env.scope x)(r:RelV v u)
  (h:∀s',Inv X pins (σ.set i (some v)) H s'->(∃a,Heap.SameBut a s.heap s'.heap/\(a=X.env.locals\/X.env.cells.lookup x=some a))->Q () s')(hf:X.fn x=true\/X.env.scope.names.lookup x=some .local:=by first|exact .inl rfl|exact .inr rfl|assumption):wpAny M A (storeName X.env x u) Q E s:=by
 obtain⟨m,hn,hl⟩:=id I.loc;have hcls:(X.env.scope.kind == .class||(X.env.scope.kind == .module&&X.env.locals != X.env.globals))=false:=by rw[I.ok.kind];rfl
 have hiσ:i<σ.length:=by rw[I.len];exact(lx.mp hi).1
 have cne:=I.cne;have tracked:∀{a:Addr}{h':Heap},(∃o,s.heap.get? a=some o/\H a=none)->Heap.SameBut a s.heap h'->HOk X.prog X.w H h':=λ{a h'} ha hs b ob e=>by
  obtain⟨_,_,hfree⟩:=ha;refine(I.hok b ob e).stay (λc w' hc q=>(hs.2 c ?_).trans q) (λ_ q=>q) λ_ _ q=>q;rintro rfl;rcases hc with rfl|hc
  .rw[hfree]at e;cases e
  .rw[hfree]at hc;cases hc
 rcases hx with hk|hk
 .refine wpAny_storeName_local hk hn (λh' hn' hs=>?_) hcls
  obtain⟨oL,_,_,hoL,_⟩:=id hn;refine h _ ⟨I.ok,I.os,I.bare,⟨λb o e n hb hx=>?_,λb o e n hb hx=>?_,I.base.free,λb o e hx=>?_,I.base.tups,I.base.frzs,I.base.tbls⟩,⟨_,hn',λj y v' e1 e2 e3=>?_⟩,λy c e=>?_,I.free,I.freeC,λp hp=>?_,tracked ⟨oL,hoL,I.free⟩ hs,by simpa using I.len⟩ ⟨_,hs,.inl rfl⟩
  .exact(hs.2 b (lu (lH (lq e) I.ok.above))).trans (I.base.keep b o e n hb hx)
  .obtain⟨sl,e1⟩:=I.base.slot b o e n hb hx
   exact⟨sl,(hs.2 b (lu (lH (lq e) I.ok.above))).trans e1⟩
  .obtain⟨o',e1⟩:=I.base.there b o e hx
   exact⟨o',(hs.2 b (lu (lH (lq e) I.ok.above))).trans e1⟩
  .by_cases hj:j=i
   .subst hj
    rw[hi]at e1;cases e1;rw[List.getElem?_set_self hiσ]at e2;cases e2;exact⟨u,r,.inl ⟨hk,by simp⟩⟩
   .rw[List.getElem?_set_ne (Ne.symm hj)]at e2
    obtain⟨u',r',q⟩:=hl j y v' e1 e2 e3;refine⟨u',r',?_⟩;rcases q with⟨k,e⟩|⟨k,c,e,z⟩
    .refine .inl ⟨k,?_⟩
     have:y≠x:=λe=>hj (UA hN e1 (e▸hi));simp[this,e]
    .exact .inr ⟨k,c,e,z.sameBut hs (cne y c e)⟩
  .obtain⟨w',z⟩:=I.cell y c e
   exact⟨w',z.sameBut hs (cne y c e)⟩
  .obtain⟨e,n,ne,nf,d⟩:=I.pin p hp
   exact⟨(hs.2 p.1 ne).trans e,n,ne,nf,d⟩
 .have hfn:X.fn x=true:=by
   rcases hf with z|z
   .exact z
   .rw[z]at hk;cases hk
  obtain⟨c,hc⟩:=I.ok.has x (.inl hk);obtain⟨w',z⟩:=I.cell x c hc;refine wpAny_storeName_cell I.ok.kind hk hc z (λh' hc' hs=>?_);obtain⟨oc,hoc,hocd⟩:=id z;refine h { s with heap:=h' } ⟨I.ok,I.os,I.bare,⟨λb o e n hb hx=>?_,λb o e n hb hx=>?_,I.base.free,λb o e hx=>?_,I.base.tups,I.base.frzs,I.base.tbls⟩,⟨m,hn.sameBut hs (Ne.symm (cne x c hc)),λj y v' e1 e2 e3=>?_⟩,λy c' e=>?_,I.free,I.freeC,λp hp=>?_,tracked ⟨oc,hoc,I.freeC x c hc⟩ hs,by simpa using I.len⟩ ⟨c,hs,.inr hc⟩
  .exact(hs.2 b (lu (lH (lq e) (I.ok.cab x c hfn hc)))).trans (I.base.keep b o e n hb hx)
  .obtain⟨sl,e1⟩:=I.base.slot b o e n hb hx
   exact⟨sl,(hs.2 b (lu (lH (lq e) (I.ok.cab x c hfn hc)))).trans e1⟩
  .obtain⟨o',e1⟩:=I.base.there b o e hx
   exact⟨o',(hs.2 b (lu (lH (lq e) (I.ok.cab x c hfn hc)))).trans e1⟩
  .by_cases hj:j=i
   .subst hj
    rw[hi]at e1;cases e1;rw[List.getElem?_set_self hiσ]at e2;cases e2;exact⟨u,r,.inr ⟨.inl hk,c,hc,hc'⟩⟩
   .rw[List.getElem?_set_ne (Ne.symm hj)]at e2
    obtain⟨u',r',q⟩:=hl j y v' e1 e2 e3;refine⟨u',r',?_⟩;rcases q with q|⟨k,c',e,z'⟩
    .exact .inl q
    .refine .inr ⟨k,c',e,z'.sameBut hs ?_⟩
     rintro rfl;exact hj (UA hN e1 (I.ok.inj _ _ _ e hc▸hi))
  .by_cases hcc:c'=c
   .subst hcc;exact⟨_,hc'⟩
   .obtain⟨w2,z2⟩:=I.cell y c' e
    exact⟨w2,z2.sameBut hs hcc⟩
  .obtain⟨e,n,ne,nf,d⟩:=I.pin p hp
   refine⟨(hs.2 p.1 ?_).trans e,n,ne,nf,d⟩;intro q;rw[q,hoc]at e;have q':oc=p.2:=lU e;exact d w' (by rw[<-q'];exact hocd)
theorem jQ{M:Model}{Q:Unit->Shared->Prop}(I:Inv X pins σ H s)(hN:X.N.Nodup)(hi:X.N[i]? =some x)(hx:Loc X.env.scope x)(r:RelV v u)
  (h:∀s',Inv X pins (σ.set i (some v)) H s'->Q () s')(hf:X.fn x=true\/X.env.scope.names.lookup x=some .local:=by first|exact .inl rfl|exact .inr rfl|assumption):wpAny M A (storeName X.env x u) Q E s:=
 Vz I hN hi hx r (λs' I' _=>h s' I') hf
theorem Inv.call'{s':Shared}{ch:List Addr}(I:Inv X pins σ H s)(ho:s'.os=s.os)(u:Un (frs X.stack) ch H H' s.heap s'.heap)(hok:HOk X.prog X.w H' s'.heap)(hg:AllBare s'.gens)
  (hch:∀b∈ch,(b∈X.ex\/X.s₀.heap.objs.size<=b)/\b≠X.env.locals/\(∀x c,X.env.cells.lookup x=some c->c≠b)/\∀p∈X.pn++pins,p.1≠b):Inv X pins σ H' s':=by
 obtain⟨h',g',d',t',o'⟩:=s';have e:o'=s.os:=ho;subst e;exact I.call (g':=g') (t':=t') (d':=d') u hok hg hch
end
abbrev XK:=Value->Option Addr->Hp->Prop
abbrev St:=List (Option V)
variable {σ:St}
abbrev VK:=V->Hp->Prop
abbrev TE:=St->Hp->VK->Prop
variable {ta:TE}
abbrev TT:=St->Hp->(Bool->Hp->Prop)->Prop
abbrev TA:=St->Hp->(List V->Hp->Prop)->Prop
variable {t:TA}
structure Ends where
 nx:St->Hp->Prop
 rt:VK
 bk:St->Hp->Prop:=λ_ _=>False
 ct:St->Hp->Prop:=λ_ _=>False
abbrev TS:=Ends->St->Hp->Prop
def EP(X:Cx)(pins:List (Addr×Obj))(σ:St)(Q:VK)(u:Value)(s':Shared):Prop:=∃v H',Inv X pins σ H' s'/\RelV v u/\Q v H'
def TP(X:Cx)(pins:List (Addr×Obj))(σ:St)(Q:Bool->Hp->Prop)(b:Bool)(s':Shared):Prop:=∃H',Inv X pins σ H' s'/\Q b H'
def AP(X:Cx)(pins:List (Addr×Obj))(σ:St)(Q:List V->Hp->Prop)(us:List Value)(s':Shared):Prop:=∃vs H',Inv X pins σ H' s'/\Vals vs us/\Q vs H'
def SP(X:Cx)(pins:List (Addr×Obj))(D:Ends)(f:Flow)(s':Shared):Prop:=
 match f with
 |.next=>∃σ' H',Inv X pins σ' H' s'/\D.nx σ' H'
 |.brk=>∃σ' H',Inv X pins σ' H' s'/\D.bk σ' H'
 |.cont=>∃σ' H',Inv X pins σ' H' s'/\D.ct σ' H'
 |.ret u=>∃v σ' H',Inv X pins σ' H' s'/\RelV v u/\D.rt v H'
def PE(X:Cx)(e:Expr)(t:TE):Prop:=
 ∀(pins:List (Addr×Obj)) (s:Shared) (σ:St) (H:Hp) (Q:VK),Inv X pins σ H s->t σ H Q->wpAny (model X.prog X.w) X.A (eval e X.env) (EP X pins σ Q) X.xe s
def PT(X:Cx)(e:Expr)(t:TT):Prop:=
 ∀(pins:List (Addr×Obj)) (s:Shared) (σ:St) (H:Hp) (Q:Bool->Hp->Prop),Inv X pins σ H s->t σ H Q->wpAny (model X.prog X.w) X.A (isTrue e X.env (eval e X.env)) (TP X pins σ Q) X.xe s
def PW(X:Cx)(e:Expr)(t:TT):Prop:=
 ∀(whole:Sem Value) (pins:List (Addr×Obj)) (s:Shared) (σ:St) (H:Hp) (Q:Bool->Hp->Prop),Inv X pins σ H s->t σ H Q->wpAny (model X.prog X.w) X.A (isTrue e X.env whole) (TP X pins σ Q) X.xe s
theorem PW.pt{t:TT}(h:PW X e t):PT X e t:=h _
def PA(X:Cx)(es:List Expr)(t:TA):Prop:=
 ∀(pos:Pos) (pins:List (Addr×Obj)) (s:Shared) (σ:St) (H:Hp) (Q:List V->Hp->Prop),Inv X pins σ H s->t σ H Q->wpAny (model X.prog X.w) X.A (spliced (backTo pos (starEach es X.env))) (AP X pins σ Q) X.xe s
def PS(X:Cx)(st:Stmt)(t:TS):Prop:=
 ∀(pins:List (Addr×Obj)) (s:Shared) (σ:St) (H:Hp) (D:Ends),Inv X pins σ H s->t D σ H->wpAny (model X.prog X.w) X.A (exec st X.env) (SP X pins D) X.xe s
def PSs(X:Cx)(st:List Stmt)(t:TS):Prop:=
 ∀(pins:List (Addr×Obj)) (s:Shared) (σ:St) (H:Hp) (D:Ends),Inv X pins σ H s->t D σ H->wpAny (model X.prog X.w) X.A (execs st X.env) (SP X pins D) X.xe s
theorem thn{α:Type}{t:Sem α}{Q Q':α->Shared->Prop}{M:Model}(h:wpAny M A t Q E s)(hQ:∀a s,Q a s->Q' a s):wpAny M A t Q' E s:=wpAny_mono h hQ λ_ _ x=>x
section
def KQ(i:Nat):TE:=λσ H Q=>∃v,σ[i]? =some (some v)/\Q v H
def tC(v:V):TE:=λ_ H Q=>Q v H
theorem zh0(hN:X.N[i]? =some x)(hv:Vis X.env.scope x)(hd:(x==("__debug__":Str))=false:=by decide)(hcd:(x==("__classdict__":Str))=false:=by decide):PE X (.Name x pos) (KQ i):=by
 intro pins s σ H Q I h;obtain⟨v,e,h⟩:=h;obtain⟨m,hn,hl⟩:=I.loc;obtain⟨u,r,l⟩:=hl i x v hN e hv;have fin:EP X pins σ Q u s:=⟨v,H,I,r,h⟩;rcases l with⟨hk,hm⟩|⟨hk,c,hc,hcell⟩
 .exact wpAny_Name (wpAny_loadName_local I.ok.kind hk hn hm fin) hd
 .rcases hk with hk|hk
  .exact wpAny_Name (wpAny_loadName_cell I.ok.kind hk hc hcell fin) hd
  .exact wpAny_Name (wpAny_loadName_free I.ok.kind hk hc hcell fin hcd) hd
theorem zd{i j pos}:PE X (.Constant (.int i) j pos) (tC (.int i)):=λ_ _ _ H _ I h=>wpAny_Constant_int ⟨.int i,H,I.tok _,⟨_,rfl⟩,h⟩
theorem yC{b j pos}:PE X (.Constant (.bool b) j pos) (tC (.bl b)):=λ_ _ _ H _ I h=>Constant_bool ⟨.bl b,H,I,rfl,h⟩
theorem yG{j pos}:PE X (.Constant .none j pos) (tC .non):=λ_ _ _ H _ I h=>Constant_none ⟨.non,H,I,rfl,h⟩
theorem zS{x j pos}:PE X (.Constant (.str x) j pos) (tC (.str x)):=λ_ _ _ H _ I h=>Calls.Constant_str ⟨.str x,H,I.tok _,⟨_,rfl⟩,h⟩
def Gl(X:Cx)(x:Str):Prop:=X.env.kindOf x=some .globalImplicit
theorem jr(I:Inv X pins σ H s)(hg:Gl X x)(hm:X.mg x=some u)(h:Q u s)
  (hd:(x==("__debug__":Str))=false:=by decide):wpAny (model X.prog X.w) X.A (eval (.Name x pos) X.env) Q E s:=
 Calls.Name_function_global I.ok.kind hg (Calls.loadGlobal_global (by rw[I.ok.glob];exact I.mod.glob.keeps I.bk) hm h) hd
theorem vD(I:Inv X pins σ H s)(hg:Gl X x)(hm:X.mg x=none)(hv:bootBuiltins x=some u)(h:Q u s)
  (hn:x≠"__name__":=by decide)(hd:(x==("__debug__":Str))=false:=by decide):wpAny (model X.prog X.w) X.A (eval (.Name x pos) X.env) Q E s:=by
 obtain⟨mb,h1,h2⟩:=I.mod.blt;exact Calls.Name_function_global I.ok.kind hg (Calls.loadGlobal_builtin (by rw[I.ok.glob];exact I.mod.glob.keeps I.bk) hm (by rw[I.ok.blt];exact h1.keeps I.bk) ((h2 x hn).trans hv) h) hd
theorem jt(hg:Gl X x)(hm:X.mg x=some u)(r:RelV v u)(hd:(x==("__debug__":Str))=false:=by decide):PE X (.Name x pos) (tC v):=
 λ_ _ _ H _ I h=>jr I hg hm ⟨v,H,I,r,h⟩ hd
theorem vQ(hg:Gl X x)(hm:X.mg x=none)(hv:bootBuiltins x=some u)(r:RelV v u)(hn:x≠"__name__":=by decide)(hd:(x==("__debug__":Str))=false:=by decide):PE X (.Name x pos) (tC v):=
 λ_ _ _ H _ I h=>vD I hg hm hv ⟨v,H,I,r,h⟩ hn hd
variable {a b:Expr}{tb:TE}
def tB(t:TE):TT:=λσ H Q=>t σ H λx H1=>∃c,x=.bl c/\Q c H1
theorem yV{t:TE}(h:PE X e t)(he:∀whole,isTrue e X.env whole=(do let v<-whole;standAt e.pos;holding [v] (truthy v)):=by intro _;rfl):PT X e (tB t):=by
 intro pins s σ H Q I hw;refine isTrue_plain (thn (h pins s σ H _ I hw) λv s1 ⟨x,H1,I1,r1,q1⟩=>?_) (he _);obtain⟨d,rfl,q⟩:=q1;cases r1;exact m8 ⟨H1,I1,q⟩
variable {tA tB':TT}{xc:List Expr}
def zh1(t u:TT):TT:=λσ H Q=>t σ H λc H1=>if c=true then u σ H1 Q else Q false H1
def tOr(t u:TT):TT:=λσ H Q=>t σ H λc H1=>if c=true then Q true H1 else u σ H1 Q
def zh2(t:TT):TT:=λσ H Q=>t σ H λc H1=>Q (!c) H1
theorem ZV(ha:PT X a tA):PW X (.BoolOp .And [a] pos) tA:=by
 intro wh pins s σ H Q I h;refine isTrue_and (thn (ha pins s σ H Q I h) λc s1 e=>?_);cases c with
 |true=>exact isTrue_and_nil e
 |false=>exact e
theorem vc(ha:PT X a tA):PW X (.BoolOp .Or [a] pos) tA:=by
 intro wh pins s σ H Q I h;refine isTrue_or (thn (ha pins s σ H Q I h) λc s1 e=>?_);cases c with
 |false=>exact isTrue_or_nil e
 |true=>exact e
theorem YT(ha:PT X a tA)(hb:PW X (.BoolOp .And (b::xc) pos) tB'):PW X (.BoolOp .And (a::b::xc) pos) (zh1 tA tB'):=by
 intro wh pins s σ H Q I h;refine isTrue_and (thn (ha pins s σ H _ I h) λc s1 ⟨H1,I1,q1⟩=>?_);cases c with
 |true=>exact hb wh pins s1 σ H1 Q I1 q1
 |false=>exact⟨H1,I1,q1⟩
theorem vh(ha:PT X a tA)(hb:PW X (.BoolOp .Or (b::xc) pos) tB'):PW X (.BoolOp .Or (a::b::xc) pos) (tOr tA tB'):=by
 intro wh pins s σ H Q I h;refine isTrue_or (thn (ha pins s σ H _ I h) λc s1 ⟨H1,I1,q1⟩=>?_);cases c with
 |true=>exact⟨H1,I1,q1⟩
 |false=>exact hb wh pins s1 σ H1 Q I1 q1
theorem kU(ha:PT X a tA):PT X (.UnaryOp .Not a pos) (zh2 tA):=by
 intro pins s σ H Q I h;exact isTrue_not (ha pins s σ H (λc H1=>Q (!c) H1) I h)
def zfo(ta tb:TE):TE:=λσ H Q=>ta σ H λx H1=>∃c,x=.bl c/\if c=true then tb σ H1 Q else Q (.bl false) H1
def zh3(ta tb:TE):TE:=λσ H Q=>ta σ H λx H1=>∃c,x=.bl c/\if c=true then Q (.bl true) H1 else tb σ H1 Q
def zfp(ta:TE):TE:=λσ H Q=>ta σ H λx H1=>∃c,x=.bl c/\Q (.bl (!c)) H1
theorem kW{op}{t:TE}(h:PE X a t):PE X (.BoolOp op [a] pos) t:=λpins s σ H Q I hw=>BoolOp_one (h pins s σ H Q I hw)
theorem kX(ha:PE X a ta)(hb:PE X (.BoolOp .And (b::xc) pos) tb):PE X (.BoolOp .And (a::b::xc) pos) (zfo ta tb):=by
 intro pins s σ H Q I h;refine BoolOp_and (thn (ha pins s σ H _ I h) λv s1 ⟨x,H1,I1,r1,q1⟩=>?_);obtain⟨c,rfl,q1⟩:=q1;cases r1;refine m8 ?_;cases c with
 |true=>exact hb pins s1 σ H1 Q I1 q1
 |false=>exact⟨.bl false,H1,I1,rfl,q1⟩
theorem zkc(ha:PE X a ta)(hb:PE X (.BoolOp .Or (b::xc) pos) tb):PE X (.BoolOp .Or (a::b::xc) pos) (zh3 ta tb):=by
 intro pins s σ H Q I h;refine BoolOp_or (thn (ha pins s σ H _ I h) λv s1 ⟨x,H1,I1,r1,q1⟩=>?_);obtain⟨c,rfl,q1⟩:=q1;cases r1;refine m8 ?_;cases c with
 |false=>exact hb pins s1 σ H1 Q I1 q1
 |true=>exact⟨.bl true,H1,I1,rfl,q1⟩
theorem zh4(ha:PE X a ta):PE X (.UnaryOp .Not a pos) (zfp ta):=by
 intro pins s σ H Q I h;refine UnaryOp_ (thn (ha pins s σ H _ I h) λv s1 ⟨x,H1,I1,r1,q1⟩=>?_);obtain⟨c,rfl,q1⟩:=q1;cases r1;exact not_of (m8 ⟨.bl (!c),H1,I1,rfl,q1⟩)
def tIf(t:TT)(ta tb:TE):TE:=λσ H Q=>t σ H λc H1=>if c=true then ta σ H1 Q else tb σ H1 Q
theorem yH{c:Expr}(hc:PT X c tA)(ha:PE X a ta)(hb:PE X b tb):PE X (.IfExp c a b pos) (tIf tA ta tb):=by
 intro pins s σ H Q I h;refine wpAny_IfExp (thn (hc pins s σ H _ I h) λd s1 ⟨H1,I1,q1⟩=>?_);cases d with
 |true=>exact ha pins s1 σ H1 Q I1 q1
 |false=>exact hb pins s1 σ H1 Q I1 q1
end
def SqL(K:W.Frag)(H:Hp)(a:Addr)(xs:List V):Prop:=
 Rd H a (.lst xs)\/
  ∃(o:Obj) (its:Array Value) (n:Nat),K.lookup a=some o/\o.cls=.type "list"/\o.dict=none/\o.data=.seq its n/\its.size<=sizeLine/\Vals xs its.toList
def SqT(K:W.Frag)(H:Hp)(a:Addr)(xs:List V):Prop:=
 Rd H a (.tup xs)\/
  ∃(o:Obj) (its:Array Value) (n:Nat),K.lookup a=some o/\o.cls=.type "tuple"/\o.data=.seq its n/\its.size<=sizeLine/\Vals xs its.toList
noncomputable def zk2:Value->Option V
 |.none=>some .non
 |.bool b=>some (.bl b)
 |.int i _=>some (.int i)
 |.str x _=>some (.str x)
 |.bytes b _=>some (.byt b)
 |.float b _=>some (.flt b)
 |.ref a=>some (.ref a)
 |.type n=>some (.ty n)
 |_=>none
theorem RelV.abs{x:V}(r:RelV x u):zk2 u=some x:=by
 cases x with
 |non=>cases r;rfl
 |bl _=>cases r;rfl
 |int _=>obtain⟨t,rfl⟩:=r;rfl
 |str _=>obtain⟨t,rfl⟩:=r;rfl
 |byt _=>obtain⟨t,rfl⟩:=r;rfl
 |flt _=>obtain⟨t,rfl⟩:=r;rfl
 |ref _=>cases r;rfl
 |ty _=>cases r;rfl
theorem RelV.inj{x y:V}(r:RelV x u)(q:RelV y u):x=y:=lU (r.abs.symm.trans q.abs)
theorem Vals.inj:∀{xs ys:List V}{us:List Value},Vals xs us->Vals ys us->xs=ys
 |_,_,_,.nil,.nil=>rfl
 |_,_,_,.cons r t,.cons r' t'=>by rw[r.inj r',Vals.inj t t']
section
variable {xs ys:List V}
theorem SqL.of(h:H a=some (.lst xs)):SqL K H a xs:=.inl (.inl h)
theorem SqT.of(h:H a=some (.tup xs)):SqT K H a xs:=.inl (.inl h)
theorem Inv.list(I:Inv X pins σ H s)(h:SqL X.K H a xs):∃its:List Value,Vals xs its/\PlainL s.heap a its.toArray/\xs.length<=sizeLine:=by
 rcases h with h|⟨o,its,n,hk,hc,hd,hs,hz,r⟩
 .obtain⟨z,its,n,r,e⟩:=h.ok I.hok
  exact⟨its,r,⟨_,n,e,rfl,rfl,rfl⟩,z⟩
 .refine⟨its.toList,r,⟨o,n,I.kIn a o hk,hc,hd,by simpa using hs⟩,?_⟩
  have e:=r.length;simp only[me]at e;omega
theorem Inv.tuple(I:Inv X pins σ H s)(h:SqT X.K H a xs):∃its:List Value,Vals xs its/\IsTup s.heap a its.toArray/\xs.length<=sizeLine:=by
 rcases h with h|⟨o,its,n,hk,hc,hs,hz,r⟩
 .obtain⟨z,its,r,p⟩:=h.ok I.hok
  exact⟨its,r,p,z⟩
 .refine⟨its.toList,r,⟨o,I.kIn a o hk,hc,n,by simpa using hs⟩,?_⟩
  have e:=r.length;simp only[me]at e;omega
theorem Inv.list_inj(I:Inv X pins σ H s)(h:SqL X.K H a xs)(h':SqL X.K H a ys):xs=ys:=by
 obtain⟨its,r,⟨o,n,e,_,_,d⟩,_⟩:=I.list h;obtain⟨its',r',⟨o',n',e',_,_,d'⟩,_⟩:=I.list h';rw[e]at e';cases e';rw[d]at d';injection d' with d1 _;have:its=its':=by simpa using mw Array.toList d1
 subst this;exact r.inj r'
theorem Inv.tuple_inj(I:Inv X pins σ H s)(h:SqT X.K H a xs)(h':SqT X.K H a ys):xs=ys:=by
 obtain⟨its,r,⟨o,e,_,n,d⟩,_⟩:=I.tuple h;obtain⟨its',r',⟨o',e',_,n',d'⟩,_⟩:=I.tuple h';rw[e]at e';cases e';rw[d]at d';injection d' with d1 _;have:its=its':=by simpa using mw Array.toList d1
 subst this;exact r.inj r'
end
noncomputable abbrev Cx.wish(X:Cx)(E:Value->Shared->Prop):Cx:={ X with xe:=E }
noncomputable abbrev Cx.nox(X:Cx):Cx:=X.wish λ_ _=>False
theorem Cx.Ok.wish(ok:X.Ok)(E:Value->Shared->Prop):(X.wish E).Ok:=
 ⟨ok.mod,ok.kind,ok.glob,ok.blt,ok.above,ok.inj,ok.has,ok.cab,ok.hd,ok.frames,ok.stk,ok.exf,ok.bs,ok.bsz,ok.noex,ok.exfs,ok.funs,ok.frf⟩
theorem Cx.Ok.unwish(ok:(X.wish E).Ok):X.Ok:=
 ⟨ok.mod,ok.kind,ok.glob,ok.blt,ok.above,ok.inj,ok.has,ok.cab,ok.hd,ok.frames,ok.stk,ok.exf,ok.bs,ok.bsz,ok.noex,ok.exfs,ok.funs,ok.frf⟩
theorem Inv.wish(I:Inv X pins σ H s)(E:Value->Shared->Prop):Inv (X.wish E) pins σ H s:=⟨I.ok.wish E,I.os,I.bare,I.base,I.loc,I.cell,I.free,I.freeC,I.pin,I.hok,I.len⟩
theorem Inv.unwish(I:Inv (X.wish E) pins σ H s):Inv X pins σ H s:=⟨I.ok.unwish,I.os,I.bare,I.base,I.loc,I.cell,I.free,I.freeC,I.pin,I.hok,I.len⟩
theorem SP.unwish{D:Ends}{f:Flow}{s':Shared}(h:SP (X.wish E) pins D f s'):SP X pins D f s':=by
 cases f with
 |next=>obtain⟨σ',H',I,q⟩:=h;exact⟨σ',H',I.unwish,q⟩
 |brk=>obtain⟨σ',H',I,q⟩:=h;exact⟨σ',H',I.unwish,q⟩
 |cont=>obtain⟨σ',H',I,q⟩:=h;exact⟨σ',H',I.unwish,q⟩
 |ret u=>obtain⟨v,σ',H',I,r,q⟩:=h;exact⟨v,σ',H',I.unwish,r,q⟩
theorem PSs.nox{st:List Stmt}{t:TS}(h:PSs X.nox st t):PSs X st t:=λpins s σ H D I hw=>
 wpAny_mono (h pins s σ H D (I.wish _) hw) (λ_ _ q=>q.unwish) λ_ _ z=>False.elim z
section
variable {xc:List Stmt}{t u:TS}{te:TE}
def zfq:TS:=λD σ H=>D.nx σ H
def zh5(t u:TS):TS:=λD σ H=>t { D with nx:=u D } σ H
theorem zX:PSs X [] zfq:=λ_ _ σ H _ I h=>wpAny_execs_nil ⟨σ,H,I,h⟩
theorem zc(h1:PS X st t)(h2:PSs X xc u):PSs X (st::xc) (zh5 t u):=by
 intro pins s σ H D I h;refine wpAny_execs_cons (thn (h1 pins s σ H { D with nx:=u D } I h) λf s1 q=>?_);cases f with
 |next=>
  obtain⟨σ',H',I',q⟩:=q;exact h2 pins s1 σ' H' D I' q
 |ret v=>exact q
 |brk=>exact q
 |cont=>exact q
theorem zb(h1:PS X st t):PSs X [st] t:=by
 intro pins s σ H D I h;refine wpAny_execs_cons (thn (h1 pins s σ H D I h) λf s1 q=>?_);cases f with
 |next=>exact wpAny_execs_nil q
 |ret v=>exact q
 |brk=>exact q
 |cont=>exact q
theorem Inv.quiet(I:Inv X pins σ H s):interactive X.env=false:=by simp[interactive,I.ok.kind]
def zfr(te:TE):TS:=λD σ H=>te σ H λ_ H1=>D.nx σ H1
theorem zQ(he:PE X e te)(hs:swapsWith e none pos.line X.env=pure false:=by rfl):PS X (.Expr e pos) (zfr te):=by
 intro pins s σ H D I h;exact wpAny_Expr_any (thn (he pins s σ H _ I h) λv s1 ⟨x,H1,I1,r1,q1⟩=>⟨σ,H1,I1,q1⟩) I.quiet hs
def zh6(te:TE):TS:=λD σ H=>te σ H D.rt
theorem zB(he:PE X e te):PS X (.Return (some e) pos) (zh6 te):=by
 intro pins s σ H D I h;exact wpAny_Return_some (thn (he pins s σ H _ I h) λv s1 ⟨x,H1,I1,r1,q1⟩=>⟨x,σ,H1,I1,r1,q1⟩)
def zh7(c:TT)(t u:TS):TS:=λD σ H=>c σ H λb H1=>if b=true then t D σ H1 else u D σ H1
theorem zT{c:Expr}{a b:List Stmt}{tc:TT}(hc:PT X c tc)(ha:PSs X a t)(hb:PSs X b u):PS X (.If c a b pos) (zh7 tc t u):=by
 intro pins s σ H D I h;refine wpAny_If (thn (hc pins s σ H _ I h) λd s1 ⟨H1,I1,q1⟩=>?_);cases d with
 |true=>exact ha pins s1 σ H1 D I1 q1
 |false=>exact hb pins s1 σ H1 D I1 q1
def zbw:TS:=λ_ _ _=>False
theorem zdz:PS X st zbw:=λ_ _ _ _ _ _ h=>h.elim
end
abbrev TG:=V->St->Hp->(St->Hp->Prop)->Prop
abbrev TGs:=List V->St->Hp->(St->Hp->Prop)->Prop
def PG(X:Cx)(target:Expr)(t:TG):Prop:=
 ∀(pins:List (Addr×Obj)) (s:Shared) (σ:St) (H:Hp) (v:V) (u:Value) (Q:St->Hp->Prop),Inv X pins σ H s->RelV v u->t v σ H Q->
  wpAny (model X.prog X.w) X.A (assign target X.env u) (λ_ s'=>∃σ' H',Inv X pins σ' H' s'/\Q σ' H') X.xe s
def PGs(X:Cx)(ts:List Expr)(t:TGs):Prop:=
 ∀(pins:List (Addr×Obj)) (s:Shared) (σ:St) (H:Hp) (vs:List V) (us:List Value) (Q:St->Hp->Prop),Inv X pins σ H s->Vals vs us->t vs σ H Q->
  wpAny (model X.prog X.w) X.A (assignInOrder ((assignEach ts X.env).map (·.2)) us) (λ_ s'=>∃σ' H',Inv X pins σ' H' s'/\Q σ' H') X.xe s
abbrev zdA:=V->V->V->Hp->(Hp->Prop)->Prop
def zh8(X:Cx)(t:zdA):Prop:=
 ∀(pins:List (Addr×Obj)) (s:Shared) (σ:St) (H:Hp) (o i v:V) (ov iv u:Value) (Q:Hp->Prop),Inv X pins σ H s->RelV o ov->RelV i iv->RelV v u->t o i v H Q->
  wpAny (model X.prog X.w) X.A (setItem ov iv u) (λ_ s'=>∃H',Inv X pins σ H' s'/\Q H') X.xe s
def qI(i:Nat):TG:=λv σ H Q=>Q (σ.set i (some v)) H
theorem zZ(hN:X.N.Nodup)(hi:X.N[i]? =some x)(hx:Loc X.env.scope x)(hf:X.fn x=true\/X.env.scope.names.lookup x=some .local:=by first|exact .inl rfl|exact .inr rfl|assumption):PG X (.Name x pos) (qI i):=by
 intro pins s σ H v u Q I r h;exact wpAny_assign_Name (jQ I hN hi hx r (λs' I'=>⟨_,H,I',h⟩) hf)
def zh9:TGs:=λvs σ H Q=>vs=[]/\Q σ H
def zfs(t:TG)(u:TGs):TGs:=λvs σ H Q=>∃v r,vs=v::r/\t v σ H λσ' H'=>u r σ' H' Q
theorem uW:PGs X [] zh9:=by
 intro pins s σ H vs us Q I r h;obtain⟨e,h⟩:=h;subst e;cases r;exact assignInOrder_nil ⟨σ,H,I,h⟩
theorem yU{t:TG}{u:TGs}(h1:PG X e t)(h2:PGs X es u)
  (hs:(assignEach (e::es) X.env).map (·.2)=assign e X.env::(assignEach es X.env).map (·.2):=by rfl):PGs X (e::es) (zfs t u):=by
 intro pins s σ H vs us Q I r h;obtain⟨v,vr,e1,h⟩:=h;subst e1;cases r with
 |cons r rr=>
  rw[hs];refine assignInOrder_cons (thn (h1 pins s σ H _ _ _ I r h) λ_ s1 ⟨σ1,H1,I1,q1⟩=>?_);exact h2 pins s1 σ1 H1 _ _ Q I1 rr q1
def zdB(K:W.Frag)(n:Nat)(t:TGs):TG:=λv σ H Q=>∃a xs,v=.ref a/\SqT K H a xs/\xs.length=n/\t xs σ H Q
theorem zia{k:Nat}{t:TGs}(hc:X.calm=true)(h:PGs X es t)
  (hn:(assignEach es X.env).length=n:=by rfl)(hst:(assignEach es X.env).findIdx? (·.1)=none:=by rfl):PG X (.Tuple es k pos) (zdB X.K n t):=by
 intro pins s σ H v u Q I r hw;obtain⟨a,xs,e1,hq,hl,hw⟩:=hw;subst e1;cases r;obtain⟨its,rv,ht,hz⟩:=I.tuple hq;refine assign_Tuple_tuple (I.ok.hd hc) ht (by simp[hn,<-hl,rv.length]) hst λh' hx=>?_;have I1:Inv X pins σ H { s with heap:=h' }:=I.kept (t':=s.toks) λb o e=>hx b o (lu (lq e)) e;exact h pins _ σ H xs _ Q I1 (by simpa using rv) hw
def zib(to ti:TE)(t:zdA):TG:=λv σ H Q=>to σ H λo H1=>ti σ H1 λi H2=>t o i v H2 λH3=>Q σ H3
theorem kY{o i:Expr}{to ti:TE}{t:zdA}(ho:PE X o to)(hi:PE X i ti)(hs:zh8 X t)
    (ha:∀ v,assign (.Subscript o i pos) X.env v=(do
      let ov<-holding [v] (eval o X.env)
      let iv<-holding [v,ov] (eval i X.env)
      standAt pos
      holding [v,ov,iv] (setItem ov iv v)
      release [v,ov,iv] []):=by intro _;rfl):PG X (.Subscript o i pos) (zib to ti t):=by
  intro pins s σ H v u Q I r h;rw[ha];refine l7 (mD (thn (ho pins s σ H _ I h) λov s1 ⟨x,H1,I1,r1,q1⟩=>?_));refine l7 (mD (thn (hi pins s1 σ H1 _ I1 q1) λiv s2 ⟨y,H2,I2,r2,q2⟩=>?_));refine l7 (wpAny_standAt (l7 (mD (thn (hs pins s2 σ H2 x y v ov iv u _ I2 r1 r2 r q2) λ_ s3 ⟨H3,I3,q3⟩=>?_))));exact wpAny_release ⟨σ,H3,I3,q3⟩
def Yr(te:TE)(g:TG):TS:=λD σ H=>te σ H λx H1=>g x σ H1 D.nx
theorem u7{te:TE}{g:TG}(he:PE X e te)(hg:PG X tg g)(hs:swapsWithSole [tg] e pos.line X.env=pure false:=by rfl)(hw:swappedStores [tg] e X.env=pure none:=by rfl)
  (h1:(assignEach [tg] X.env).map (·.2)=[assign tg X.env]:=by rfl):PS X (.Assign [tg] e pos) (Yr te g):=by
 intro pins s σ H D I h;refine wpAny_Assign_stores (thn (he pins s σ H _ I h) λv s1 ⟨x,H1,I1,r1,q1⟩=>?_) hs hw;rw[h1];exact thn (hg pins s1 σ H1 x v _ I1 r1 q1) λ_ s2 q=>q
theorem zic{te:TE}{pos':Pos}(hN:X.N.Nodup)(hi:X.N[i]? =some x)(hx:Loc X.env.scope x)(he:PE X e te)(hs:swapsWith e (some (.Name x pos')) pos.line X.env=pure false:=by rfl)(hf:X.fn x=true\/X.env.scope.names.lookup x=some .local:=by first|exact .inl rfl|exact .inr rfl|assumption) :
  PS X (.Assign [.Name x pos'] e pos) (Yr te (qI i)):=by
 intro pins s σ H D I h;refine wpAny_Assign_Name (thn (he pins s σ H _ I h) λv s1 ⟨y,H1,I1,r1,q1⟩=>?_) hs;exact jQ I1 hN hi hx r1 (λs2 I2=>⟨_,H1,I2,q1⟩) hf
def zid(i j:Nat)(ta:TA):TS:=λD σ H=>ta σ H λvs H1=>∃v w,vs=[v,w]/\D.nx ((σ.set i (some v)).set j (some w)) H1
theorem zie{j:Nat}{y:Str}{a b:Expr}{ta:TA}{px py pt:Pos}{kt k2 pt2}(hc:X.calm=true)(hN:X.N.Nodup)(hi:X.N[i]? =some x)(hj:X.N[j]? =some y)(hij:i≠j)
  (hx:X.env.scope.names.lookup x=some .local)(hy:X.env.scope.names.lookup y=some .local)(ha:PA X [a,b] ta)
  (hw:swappedStores [.Tuple [.Name x px,.Name y py] kt pt] (.Tuple [a,b] k2 pt2) X.env=pure (some [x,y]))
  (hs:swapsWithSole [.Tuple [.Name x px,.Name y py] kt pt] (.Tuple [a,b] k2 pt2) pos.line X.env=pure false:=by rfl) :
  PS X (.Assign [.Tuple [.Name x px,.Name y py] kt pt] (.Tuple [a,b] k2 pt2) pos) (zid i j ta):=by
 intro pins s σ H D I h;rw[exec_Assign_arm];refine l7 (wpAny_standAt ?_);rw[hs];refine l7 (lE ?_);rw[l8 (by decide)];refine l7 (Tuple_ (thn (ha _ pins s σ H _ I h) λus s1 ⟨vs,H1,I1,r1,q1⟩=>?_));obtain⟨v,w,e1,q1⟩:=q1;subst e1;obtain⟨u1,u2,rfl,rv,rw'⟩:∃u1 u2,us=[u1,u2]/\RelV v u1/\RelV w u2:=by
  cases r1 with
  |cons p q=>
   cases q with
   |cons p' q'=>
    cases q';exact⟨_,_,rfl,p,p'⟩
 refine wpAny_newObj_type ?_ (by show 2<=sizeLine;decide);have I2:Inv X pins σ H1 { s1 with heap:=s1.heap.push { cls:=.type "tuple",data:=.seq [u1,u2].toArray } }:=I1.kept (t':=s1.toks) λb o e=>l9 _ e;rw[hw];refine l7 (lE ?_);show wpAny (model X.prog X.w) X.A (do rule "assign.swapped-stores";let items<-unpackItems (.ref s1.heap.objs.size) 2 none;assignInOrder [λv=>bindName X.env y v,λv=>bindName X.env x v] items.reverse;pure Flow.next) _ _ _;refine l7 (wpAny_rule (l7 (unpackItems_tuple (items:=#[u1,u2]) (I.ok.hd hc) (IsTup.new s1.heap _) λh' hx'=>?_)));have I3:=I2.kept (h':=h') (t':=s1.toks) λb o e=>hx' b o (lu (lq e)) e;show wpAny _ _ (assignInOrder [λv=>bindName X.env y v,λv=>bindName X.env x v] [u2,u1] >>= λ_=>pure Flow.next) _ _ _;refine l7 (assignInOrder_cons (wpAny_bindName (jQ I3 hN hj (.inl hy) rw' (λs2 I4=>?_) (.inr hy))));refine assignInOrder_cons (wpAny_bindName (jQ I4 hN hi (.inl hx) rv (λs3 I5=>assignInOrder_nil (lE ?_)) (.inr hx)));rw[List.set_comm _ _ (Ne.symm hij)]at I5;exact⟨_,H1,I5,q1⟩
structure It where
 go:Nat->Hp->Prop
 yld:Nat->Hp->V->Hp->Prop
 stop:Nat->Hp->Prop
def FpOk(X:Cx)(pins:List (Addr×Obj))(H:Hp)(b:Addr):Prop:=
 H b=none/\b≠X.env.locals/\b∉X.fs/\(b∈X.ex\/X.s₀.heap.objs.size<=b)/\(∀x c,X.env.cells.lookup x=some c->c≠b)/\∀p∈X.pn++pins,p.1≠b
theorem Inv.fpOk{H':Hp}{b:Addr}(I:Inv X pins σ H s)(hb:s.heap.objs.size<=b)(hn:H' b=none):FpOk X pins H' b:=by
 refine⟨hn,Nat.ne_of_gt (lH I.lt hb),I.nofs hb,.inr (lT I.sz hb),λx c e z=>?_,λp hp z=>?_⟩
 .obtain⟨v,q⟩:=I.cell x c e
  exact absurd (lH q.lt (by rw[z];exact hb)) (mR _)
 .exact absurd (lH (lq (I.pin p hp).1) (by rw[z];exact hb)) (mR _)
structure Turn (P:Program) (w:World) (K:W.Frag) (tg:Expr) (J:It) (fp:List Addr) (it:Addr) (tn:Nat->Heap->Prop):Prop where
  mem:it∈fp
  obj:∀i h,tn i h->∀b∈fp,∃o,h.get? b=some o/\∀v,o.data≠.cell v
  keep:∀i h h',tn i h->(∀b∈fp,∀o,h.get? b=some o->h'.get? b=some o)->tn i h'
  item:∀(X:Cx),X.prog=P->X.w=w->X.K=K->X.calm=true->∀(i:Nat) (pins:List (Addr×Obj)) (s:Shared) (σ:St) (H:Hp) (E:Value->Shared->Prop),Inv X pins σ H s->(∀b∈fp,FpOk X pins H b)->tn i s.heap->J.go i H->
    wpAny (model P w) X.A (pyNext (.ref it)) (fun r s1=>∃ u,r=some u/\
      wpAny (model P w) X.A (letOwnedTupleGo tg (.ref it) u) (λ_ s2=>∃x H',Inv X pins σ H' s2/\RelV x u/\J.yld i H x H'/\tn (i+1) s2.heap/\∀b∈fp,H' b=none) E s1) E s
  done:∀(X:Cx),X.prog=P->X.w=w->X.K=K->X.calm=true->∀(i:Nat) (pins:List (Addr×Obj)) (s:Shared) (σ:St) (H:Hp) (E:Value->Shared->Prop),Inv X pins σ H s->(∀b∈fp,FpOk X pins H b)->tn i s.heap->J.stop i H->
    wpAny (model P w) X.A (pyNext (.ref it)) (λr s1=>r=none/\Inv X pins σ H s1) E s
  self:∀(A:Around) (i:Nat) (s:Shared) (Q:Value->Shared->Prop) (E:Value->Shared->Prop),tn i s.heap->Q (.ref it) s->wpAny (model P w) A (pyIter (.ref it)) Q E s
abbrev TI:=St->Hp->(It->Hp->Prop)->Prop
def PIE(X:Cx)(pins:List (Addr×Obj))(σ:St)(tg:Expr)(R:It->Hp->Prop)(itv:Value)(s2:Shared):Prop:=
 ∃(it:Addr) (fp:List Addr) (tn:Nat->Heap->Prop) (J:It) (H':Hp),itv=.ref it/\Inv X pins σ H' s2/\Turn X.prog X.w X.K tg J fp it tn/\tn 0 s2.heap/\(∀b∈fp,FpOk X pins H' b)/\R J H'
def PI(X:Cx)(tg iter:Expr)(wi:TI):Prop:=
 ∀(pins:List (Addr×Obj)) (s:Shared) (σ:St) (H:Hp) (R:It->Hp->Prop),Inv X pins σ H s->wi σ H R->
  wpAny (model X.prog X.w) X.A (eval iter X.env) (λv s1=>wpAny (model X.prog X.w) X.A (pyIter v) (PIE X pins σ tg R) X.xe s1) X.xe s
theorem ZW{M:Model}{it:Addr}{o:Obj}{n:String}{vs:Array Value}{Q:Unit->Shared->Prop}(ho:s.heap.get? it=some o)(hc:o.cls=.type n)(hd:o.data=.fields vs)
    (hn:["enumerate","zip","dict_itemiterator","dict_reverseitemiterator","odict_iterator","itertools.zip_longest","itertools.pairwise"].contains n=false)(hQ:Q () s):wpAny M A (letOwnedTupleGo tg (.ref it) u) Q E s:=by
  unfold letOwnedTupleGo;cases tg<;>first
    |exact lE hQ
    | (cases u <;> first
        |exact lE hQ
        | (refine l7 (wpAny_load ho ?_)
           rw[hc,hd];show wpAny M A (if(["enumerate","zip","dict_itemiterator","dict_reverseitemiterator","odict_iterator","itertools.zip_longest","itertools.pairwise"].contains n&&vs[0]? == some (rawInt _))=true then _ else _) Q E s;rw[l8 (by intro h;rw[hn,Bool.false_and]at h;cases h)];exact lE hQ))
noncomputable def Itl(K:W.Frag)(a:Addr):It:=
 ⟨λi H=>∃xs x,SqL K H a xs/\xs[i]? =some x,λi H x H'=>H'=H/\∀xs,SqL K H a xs->xs[i]? =some x,λi H=>∃xs,SqL K H a xs/\xs.length<=i⟩
noncomputable def Itt(K:W.Frag)(a:Addr):It:=
 ⟨λi H=>∃xs x,SqT K H a xs/\xs[i]? =some x,λi H x H'=>H'=H/\∀xs,SqT K H a xs->xs[i]? =some x,λi H=>∃xs,SqT K H a xs/\xs.length<=i⟩
noncomputable def Itr(lo:Int)(n:Nat):It:=⟨λi _=>i<n,λi H x H'=>H'=H/\x=.int (lo+i),λi _=>n<=i⟩
theorem zbx(a it:Addr):Turn P w K tg (Itl K a) [it] it (λi h=>h.IsListIter it a i) where
 mem:=by simp
 obj:=λi h st b hb=>by
  have e:b=it:=by simpa using hb
  subst e;obtain⟨o,e,c,d⟩:=st;exact⟨o,e,λv z=>by rw[d]at z;cases z⟩
 keep:=λi h h' st k=>st.at λo e=>k it (by simp) o e
 item:=by
  intro X hP hw hK hc i pins s σ H E I hf st hg;subst hP hw hK;obtain⟨xs,x,hq,hx⟩:=hg;obtain⟨its,rv,p,hz⟩:=I.list hq;obtain⟨u,hu,ru⟩:=rv.get hx;obtain⟨f0,f1,f2,f3,f4,f5⟩:=hf it (by simp);refine wpAny_pyNext_list_item st p.isList (x:=u) (by simpa using hu) λh' st' sb=>?_;have I1:Inv X pins σ H { s with heap:=h' }:=I.turned (t':=s.toks) (λb o hb e=>(sb.2 b hb).trans e) f0 f1 f3 f4 f5;obtain⟨o,e,c,d⟩:=id st';exact⟨u,rfl,ZW (s:={ s with heap:=h' }) e c d (by decide) ⟨x,H,I1,ru,⟨rfl,λys hy=>by rw[I.list_inj hy hq];exact hx⟩,st',λb hb=>(hf b hb).1⟩⟩
 done:=by
  intro X hP hw hK hc i pins s σ H E I hf st hg;subst hP hw hK;obtain⟨xs,hq,hx⟩:=hg;obtain⟨its,rv,p,hz⟩:=I.list hq;obtain⟨f0,f1,f2,f3,f4,f5⟩:=hf it (by simp);have hl:=rv.length;exact wpAny_pyNext_list_end (I.ok.hd hc) st p.isList (by simp;omega) λh' eb=>⟨rfl,I.turned (t':=s.toks) (λb o hb e=>eb b o hb e) f0 f1 f3 f4 f5⟩
 self:=λ_ _ _ _ _ st h=>wpAny_pyIter_listiter st h
theorem KR(a it:Addr):Turn P w K tg (Itt K a) [it] it (λi h=>h.IsTupleIter it a i) where
 mem:=by simp
 obj:=λi h st b hb=>by
  have e:b=it:=by simpa using hb
  subst e;obtain⟨o,e,c,d⟩:=st;exact⟨o,e,λv z=>by rw[d]at z;cases z⟩
 keep:=λi h h' st k=>st.at λo e=>k it (by simp) o e
 item:=by
  intro X hP hw hK hc i pins s σ H E I hf st hg;subst hP hw hK;obtain⟨xs,x,hq,hx⟩:=hg;obtain⟨its,rv,p,hz⟩:=I.tuple hq;obtain⟨u,hu,ru⟩:=rv.get hx;obtain⟨f0,f1,f2,f3,f4,f5⟩:=hf it (by simp);refine wpAny_pyNext_tuple_item st (show s.heap.IsTuple a its.toArray from p) (x:=u) (by simpa using hu) λh' st' sb=>?_;have I1:Inv X pins σ H { s with heap:=h' }:=I.turned (t':=s.toks) (λb o hb e=>(sb.2 b hb).trans e) f0 f1 f3 f4 f5;obtain⟨o,e,c,d⟩:=id st';exact⟨u,rfl,ZW (s:={ s with heap:=h' }) e c d (by decide) ⟨x,H,I1,ru,⟨rfl,λys hy=>by rw[I.tuple_inj hy hq];exact hx⟩,st',λb hb=>(hf b hb).1⟩⟩
 done:=by
  intro X hP hw hK hc i pins s σ H E I hf st hg;subst hP hw hK;obtain⟨xs,hq,hx⟩:=hg;obtain⟨its,rv,p,hz⟩:=I.tuple hq;obtain⟨f0,f1,f2,f3,f4,f5⟩:=hf it (by simp);have hl:=rv.length;exact wpAny_pyNext_tuple_end (I.ok.hd hc) st (show s.heap.IsTuple a its.toArray from p) (by simp;omega) λh' eb=>⟨rfl,I.turned (t':=s.toks) (λb o hb e=>eb b o hb e) f0 f1 f3 f4 f5⟩
 self:=λ_ _ _ _ _ st h=>wpAny_pyIter_tupleiter st h
theorem KS(it:Addr)(lo:Int)(n:Nat):Turn P w K tg (Itr lo n) [it] it (λi h=>IsRangeIter h it (lo+(i:Nat)*1) ((n:Int)-(i:Nat)) 1) where
 mem:=by simp
 obj:=λi h st b hb=>by
  have e:b=it:=by simpa using hb
  subst e;exact⟨_,st,fun v z=>by
   have z':Data.fields _=Data.cell v:=z;cases z'⟩
 keep:=λi h h' st k=>k it (by simp) _ st
 item:=by
  intro X hP hw hK hc i pins s σ H E I hf st hg;subst hP hw hK;obtain⟨f0,f1,f2,f3,f4,f5⟩:=hf it (by simp);have W:=Walks.range (prog:=X.prog) (w:=X.w) (I.ok.hd hc) it lo 1 n;refine W.item i s _ _ hg st λv h' tk hv st' kk=>?_;obtain⟨t,rfl⟩:=hv;have I1:Inv X pins σ H { s with heap:=h',toks:=tk }:=I.turned (λb o hb e=>kk b o (by simpa using hb) e) f0 f1 f3 f4 f5;refine⟨_,rfl,ZW (s:={ s with heap:=h',toks:=tk }) (n:="range_iterator") st' rfl rfl (by decide) ⟨.int (lo+i),H,I1,⟨t,?_⟩,⟨rfl,rfl⟩,st',λb hb=>(hf b hb).1⟩⟩;rw[Int.mul_one]
 done:=by
  intro X hP hw hK hc i pins s σ H E I hf st hg;subst hP hw hK;obtain⟨f0,f1,f2,f3,f4,f5⟩:=hf it (by simp);exact wpAny_pyNext_range_end (I.ok.hd hc) st (by have:n<=i:=hg;omega) λh' eb=>⟨rfl,I.turned (t':=s.toks) (λb o hb e=>eb b o hb e) f0 f1 f3 f4 f5⟩
 self:=λ_ _ _ _ _ st h=>wpAny_pyIter_rangeiter st h
def KU(K:W.Frag)(tl:TE):TI:=λσ H R=>tl σ H λx H1=>∃a,x=.ref a/\(∃xs,SqL K H1 a xs)/\R (Itl K a) H1
def zdC(K:W.Frag)(tl:TE):TI:=λσ H R=>tl σ H λx H1=>∃a,x=.ref a/\(∃xs,SqT K H1 a xs)/\R (Itt K a) H1
theorem zgl{l:Expr}{tl:TE}(hl:PE X l tl):PI X tg l (KU X.K tl):=by
 intro pins s σ H R I h;refine thn (hl pins s σ H _ I h) λv s1 ⟨x,H1,I1,r1,q1⟩=>?_;obtain⟨a,e,⟨xs,hq⟩,q⟩:=q1;subst e;cases r1;obtain⟨its,rv,p,hz⟩:=I1.list hq;refine wpAny_pyIter_list p.isList ?_;refine⟨s1.heap.objs.size,[s1.heap.objs.size],_,_,H1,rfl,I1.kept (t':=s1.toks) λb o e=>l9 _ e,zbx a _,⟨_,ly _ rfl,rfl,rfl⟩,λb hb=>?_,q⟩;have e:b=s1.heap.objs.size:=by simpa using hb
 subst e;exact I1.fpOk (lp _) (I1.hok.fresh (lp _))
theorem zif{l:Expr}{tl:TE}(hl:PE X l tl):PI X tg l (zdC X.K tl):=by
 intro pins s σ H R I h;refine thn (hl pins s σ H _ I h) λv s1 ⟨x,H1,I1,r1,q1⟩=>?_;obtain⟨a,e,⟨xs,hq⟩,q⟩:=q1;subst e;cases r1;obtain⟨its,rv,p,hz⟩:=I1.tuple hq;refine wpAny_pyIter_tuple (show s1.heap.IsTuple a its.toArray from p) ?_;refine⟨s1.heap.objs.size,[s1.heap.objs.size],_,_,H1,rfl,I1.kept (t':=s1.toks) λb o e=>l9 _ e,KR a _,⟨_,ly _ rfl,rfl,rfl⟩,λb hb=>?_,q⟩;have e:b=s1.heap.objs.size:=by simpa using hb
 subst e;exact I1.fpOk (lp _) (I1.hok.fresh (lp _))
theorem UB{R:It->Hp->Prop}{lo hi:Int}{t u v:Tok}{tk:Nat}(I:Inv X pins σ H s)(h1:-(2 ^ 62)<=lo)(h2:lo<2 ^ 62)(h3:-(2 ^ 62)<=hi)(h4:hi<2 ^ 62)
  (q:R (Itr lo (hi-lo).toNat) H):wpAny (model X.prog X.w) X.A (pyIter (.ref s.heap.objs.size)) (PIE X pins σ tg R) E { s with heap:=s.heap.push { cls:=.type "range",data:=.fields #[.int lo t,.int hi u,.int 1 v] },toks:=tk }:=by
 refine wpAny_pyIter_range (IsRange.new ..) (small_one h1 h2 h3 h4) ?_;have I1:Inv X pins σ H { s with heap:=s.heap.push { cls:=.type "range",data:=.fields #[.int lo t,.int hi u,.int 1 v] },toks:=tk }:=I.kept λb o e=>l9 _ e;refine⟨(s.heap.push { cls:=.type "range",data:=.fields #[.int lo t,.int hi u,.int 1 v] }).objs.size,[(s.heap.push { cls:=.type "range",data:=.fields #[.int lo t,.int hi u,.int 1 v] }).objs.size],_,_,H,rfl,
  I1.kept (t':=tk) λb o e=>l9 _ e,KS _ lo (hi-lo).toNat,?_,λb hb=>?_,q⟩
 .have e1:lo+((0:Nat):Int)*1 =lo:=by simp
  have e2:(((hi-lo).toNat:Nat):Int)-((0:Nat):Int)=Builtin.Range.rangeSize lo hi 1:=by rw[rangeSize_one];split<;>omega
  show IsRangeIter _ _ (lo+((0:Nat):Int)*1) ((((hi-lo).toNat:Nat):Int)-((0:Nat):Int)) 1;rw[e1,e2];exact ly _ rfl
 .have e:b=(s.heap.push { cls:=.type "range",data:=.fields #[.int lo t,.int hi u,.int 1 v] }).objs.size:=by simpa using hb
  subst e;exact I1.fpOk (lp _) (I1.hok.fresh (lp _))
def zft(ta:TA):TI:=λσ H R=>ta σ H λvs H1=>∃j:Int,vs=[.int j]/\-(2 ^ 62)<=j/\j<2 ^ 62/\R (Itr 0 j.toNat) H1
def zfu(ta:TA):TI:=λσ H R=>ta σ H λvs H1=>∃i j:Int,vs=[.int i,.int j]/\(-(2 ^ 62)<=i/\i<2 ^ 62/\-(2 ^ 62)<=j/\j<2 ^ 62)/\R (Itr i (j-i).toNat) H1
theorem xw{a:Expr}{ta:TA}{p:Pos}(hg:Gl X "range")(hm:X.mg "range" =none)(ha:PA X [a] ta)(hs:starEach [a] X.env=[(false,eval a X.env)]:=by rfl):PI X tg (.Call (.Name "range" p) [a] [] pos) (zft ta):=by
 intro pins s σ H R I h;refine Call_ (vD I hg hm boot_range (mh (thn (ha pos pins s σ H _ I h) λus s1 ⟨vs,H1,I1,r1,q1⟩=>?_) hs rfl));obtain⟨j,e,q1,q2,q⟩:=q1;subst e;cases r1 with
 |cons r rr=>
  cases rr;obtain⟨t,rfl⟩:=r;exact call_range_1 (UB I1 (by omega) (by omega) q1 q2 (by simpa using q))
theorem qJ{a b:Expr}{ta:TA}{p:Pos}(hg:Gl X "range")(hm:X.mg "range" =none)(ha:PA X [a,b] ta)(hs:starEach [a,b] X.env=[(false,eval a X.env),(false,eval b X.env)]:=by rfl)(hs2:starEach [b] X.env=[(false,eval b X.env)]:=by rfl) :
  PI X tg (.Call (.Name "range" p) [a,b] [] pos) (zfu ta):=by
 intro pins s σ H R I h;refine Call_ (vD I hg hm boot_range (mh (thn (ha pos pins s σ H _ I h) λus s1 ⟨vs,H1,I1,r1,q1⟩=>?_) (by rw[hs,hs2]) (by rw[hs2];rfl)));obtain⟨i,j,e,⟨q1,q2,q3,q4⟩,q⟩:=q1;subst e;cases r1 with
 |cons r rr=>
  cases rr with
  |cons r' rr=>
   cases rr;obtain⟨t,rfl⟩:=r;obtain⟨t',rfl⟩:=r';exact call_range_2 (UB I1 q1 q2 q3 q4 q)
def zig(wi:TI)(g:TG)(tb:TS):TS:=λD σ H=>wi σ H λJ H1=>∃W:Nat->Nat->St->Hp->Prop,(∃m,W 0 m σ H1)/\∀i m σ H,W i m σ H->
 (J.stop i H/\D.nx σ H)\/(J.go i H/\∃N:St->Hp->Prop,(∀σ' H',N σ' H'->∃m',m'<m/\W (i+1) m' σ' H')/\∀x H',J.yld i H x H'->g x σ H' λσ2 H2=>tb { D with nx:=N,ct:=N,bk:=D.nx } σ2 H2)
noncomputable def kZ(fp:List Addr)(h:Heap):List (Addr×Obj):=fp.filterMap λb=>(h.get? b).map λo=>(b,o)
theorem uR{fp:List Addr}{b:Addr}{o:Obj}(hb:b∈fp)(e:h.get? b=some o):(b,o)∈kZ fp h:=List.mem_filterMap.mpr ⟨b,hb,by rw[e];rfl⟩
theorem zby{fp:List Addr}{p:Addr×Obj}(hp:p∈kZ fp h):p.1∈fp/\h.get? p.1=some p.2:=by
 obtain⟨b,hb,e⟩:=List.mem_filterMap.mp hp;cases q:h.get? b with
 |none=>rw[q]at e;cases e
 |some o=>
  rw[q]at e;have e':(b,o)=p:=lU e;subst e';exact⟨hb,q⟩
theorem Inv.pinned{fp:List Addr}(I:Inv X pins σ H s)(hf:∀b∈fp,FpOk X pins H b)(ho:∀b∈fp,∃o,s.heap.get? b=some o/\∀v,o.data≠.cell v):Inv X (pins++kZ fp s.heap) σ H s:=
 I.pins_of λp hp=>(lz.mp hp).elim (λz=>I.pin p (lN _ z)) λz=>by
  obtain⟨hb,e⟩:=zby z;obtain⟨f0,f1,f2,_⟩:=hf p.1 hb;obtain⟨o,e',d⟩:=ho p.1 hb;rw[e]at e';cases e';exact⟨e,f0,f1,f2,d⟩
theorem Inv.unpinned{pl:List (Addr×Obj)}(I:Inv X (pins++pl) σ H s):Inv X pins σ H s:=I.pins_of λp hp=>I.pin p (lN _ (ma _ hp))
theorem yW{iter:Expr}{body:List Stmt}{wi:TI}{g:TG}{tb:TS}(hp:PassesOwn (model X.prog X.w) X.A X.env X.xe)(hc:X.calm=true)(hi:PI X tg iter wi)(hg:PG X tg g)(hb:PSs X body tb)
  (hs:∀x,foldedSetIterable iter X.env x=pure x:=by intro _;rfl):PS X (.For tg iter body [] pos) (zig wi g tb):=by
 intro pins s σ H D I h;refine wpAny_For (thn (hi pins s σ H _ I h) λv s1 h1=>thn h1 λitv s2 h2=>?_) hs;obtain⟨it,fp,tn,J,H2,e,I2,T,st2,f2,W,⟨m0,w0⟩,turn⟩:=h2;subst e;have stat:∀{H':Hp},(∀b∈fp,H' b=none)->∀b∈fp,FpOk X pins H' b:=λhn b hb=>⟨hn b hb,(f2 b hb).2⟩;refine codeAny_forLoop_any (λn s'=>∃i σ' H',Inv X pins σ' H' s'/\tn i s'.heap/\(∀b∈fp,H' b=none)/\W i n σ' H') ?_ m0 ⟨0,σ,H2,I2,st2,λb hb=>(f2 b hb).1,w0⟩;rintro n s3 ⟨i,σ3,H3,I3,st3,fr3,w3⟩;rcases turn i n σ3 H3 w3 with⟨stop,qn⟩|⟨go,N,hN,step⟩
 .refine wpAny_passesOwn hp (thn (T.done X rfl rfl rfl hc i pins s3 σ3 H3 X.xe I3 (stat fr3) st3 stop) λr s4 ⟨hr,I4⟩=>?_)
  subst hr;exact wpAny_execs_nil ⟨σ3,H3,I4,qn⟩
 .refine wpAny_passesOwn hp (thn (T.item X rfl rfl rfl hc i pins s3 σ3 H3 X.xe I3 (stat fr3) st3 go) λr s4 ⟨u,hr,h4⟩=>?_)
  subst hr;refine wpAny_passesOwn hp (thn h4 λ_ s5 ⟨x,H5,I5,r5,y5,st5,fr5⟩=>?_);have I5':=I5.pinned (stat fr5) (T.obj _ _ st5);refine wpAny_passesOwn hp (thn (hg _ s5 σ3 H5 x u _ I5' r5 (step x H5 y5)) λ_ s6 ⟨σ6,H6,I6,q6⟩=>?_);refine wpAny_passesOwn hp (thn (hb _ s6 σ6 H6 _ I6 q6) λf s7 q7=>?_);have again:∀{σ7:St}{H7:Hp},Inv X (pins++kZ fp s5.heap) σ7 H7 s7->N σ7 H7->∃m,m<n/\∃i σ' H',Inv X pins σ' H' s7/\tn i s7.heap/\(∀b∈fp,H' b=none)/\W i m σ' H':=λ{σ7 H7} I7 n7=>by
   obtain⟨m',hm,w7⟩:=hN σ7 H7 n7;refine⟨m',hm,i+1,σ7,H7,I7.unpinned,T.keep _ _ _ st5 λb hb o e=>(I7.pin (b,o) (lN _ (lN _ (uR hb e)))).1,λb hb=>?_,w7⟩;obtain⟨o,e,d⟩:=T.obj _ _ st5 b hb;exact(I7.pin (b,o) (lN _ (lN _ (uR hb e)))).2.1
  cases f with
  |next=>obtain⟨σ7,H7,I7,n7⟩:=q7;exact again I7 n7
  |cont=>obtain⟨σ7,H7,I7,n7⟩:=q7;exact again I7 n7
  |brk=>obtain⟨σ7,H7,I7,q7⟩:=q7;exact⟨σ7,H7,I7.unpinned,q7⟩
  |ret v=>obtain⟨x7,σ7,H7,I7,r7,q7⟩:=q7;exact⟨x7,σ7,H7,I7.unpinned,r7,q7⟩
abbrev R2:=V->V->Hp->VK->Prop
def OpR(X:Cx)(f:Value->Value->Sem Value)(r:R2):Prop:=
 ∀(pins:List (Addr×Obj)) (s:Shared) (σ:St) (H:Hp) (x y:V) (v u:Value) (Q:VK),Inv X pins σ H s->RelV x v->RelV y u->r x y H Q->
  wpAny (model X.prog X.w) X.A (f v u) (EP X pins σ Q) X.xe s
def UnR(X:Cx)(f:Value->Sem Value)(r:V->Hp->VK->Prop):Prop:=
 ∀(pins:List (Addr×Obj)) (s:Shared) (σ:St) (H:Hp) (x:V) (v:Value) (Q:VK),Inv X pins σ H s->RelV x v->r x H Q->
  wpAny (model X.prog X.w) X.A (f v) (EP X pins σ Q) X.xe s
def yw(X:Cx)(f:Value)(r:List V->Hp->VK->Prop):Prop:=
 ∀(pins:List (Addr×Obj)) (s:Shared) (σ:St) (H:Hp) (xs:List V) (us:List Value) (Q:VK),Inv X pins σ H s->Vals xs us->r xs H Q->
  wpAny (model X.prog X.w) X.A (call f us) (EP X pins σ Q) X.xe s
def zk3(X:Cx)(r:V->Hp->(Bool->Hp->Prop)->Prop):Prop:=
 ∀(pins:List (Addr×Obj)) (s:Shared) (σ:St) (H:Hp) (x:V) (v:Value) (Q:Bool->Hp->Prop),Inv X pins σ H s->RelV x v->r x H Q->
  wpAny (model X.prog X.w) X.A (truthy v) (TP X pins σ Q) X.xe s
def tOp(r:R2)(ta tb:TE):TE:=λσ H Q=>ta σ H λx H1=>tb σ H1 λy H2=>r x y H2 Q
def tUn(r:V->Hp->VK->Prop)(ta:TE):TE:=λσ H Q=>ta σ H λx H1=>r x H1 Q
def rI(C:Int->Int->Prop)(g:Int->Int->V):R2:=λx y H Q=>∃i j,x=.int i/\y=.int j/\C i j/\Q (g i j) H
def rI0(g:Int->Int->V):R2:=λx y H Q=>∃i j,x=.int i/\y=.int j/\Q (g i j) H
def rU(g:Int->V):V->Hp->VK->Prop:=λx H Q=>∃i,x=.int i/\Q (g i) H
section
variable {a b c:Expr}{tb tc:TE}
theorem zdD(ha:PE X a ta)(hb:PE X b tb){R:V->V->Hp->Prop}(I:Inv X pins σ H s)
  (h:ta σ H λx H1=>tb σ H1 λy H2=>R x y H2){f:Value->Value->Sem Value}
  (hf:∀v u s2 x y H2,Inv X pins σ H2 s2->RelV x v->RelV y u->R x y H2->wpAny (model X.prog X.w) X.A (f v u) Q X.xe s2) :
  wpAny (model X.prog X.w) X.A (eval a X.env) (λv s₁=>wpAny (model X.prog X.w) X.A (eval b X.env) (λu s₂=>wpAny (model X.prog X.w) X.A (f v u) Q X.xe s₂) X.xe s₁) X.xe s:=by
 refine thn (ha pins s σ H _ I h) λv s1 ⟨x,H1,I1,r1,q1⟩=>?_;refine thn (hb pins s1 σ H1 _ I1 q1) λu s2 ⟨y,H2,I2,r2,q2⟩=>?_;exact hf v u s2 x y H2 I2 r1 r2 q2
theorem zt{op:Operator}{r:R2}(ho:OpR X (binaryOp op) r)(ha:PE X a ta)(hb:PE X b tb):PE X (.BinOp a op b pos) (tOp r ta tb):=by
 intro pins s σ H Q I h;exact wpAny_BinOp (zdD ha hb I h λv u s2 x y H2 I2 rx ry q=>ho pins s2 σ H2 x y v u Q I2 rx ry q)
theorem KW{op:UnaryOp}{r:V->Hp->VK->Prop}(ho:UnR X (unaryOp op) r)(ha:PE X a ta):PE X (.UnaryOp op a pos) (tUn r ta):=by
 intro pins s σ H Q I h;exact UnaryOp_ (thn (ha pins s σ H _ I h) λv s1 ⟨x,H1,I1,r1,q1⟩=>ho pins s1 σ H1 x v Q I1 r1 q1)
theorem opI{f:Value->Value->Sem Value}{C:Int->Int->Prop}{g:Int->Int->Int}
  (rule:∀(i j:Int) (t u:Tok) (s:Shared) (Q:Value->Shared->Prop) (E:Value->Shared->Prop),C i j->Q (.int (g i j) s.toks) { s with toks:=s.toks+1 }->wpAny (model X.prog X.w) X.A (f (.int i t) (.int j u)) Q E s) :
  OpR X f (rI C λi j=>.int (g i j)):=by
 intro pins s σ H x y v u Q I rx ry h;obtain⟨i,j,rfl,rfl,hc,q⟩:=h;obtain⟨t,rfl⟩:=rx;obtain⟨t',rfl⟩:=ry;exact rule i j t t' s _ _ hc ⟨.int (g i j),H,I.tok _,⟨_,rfl⟩,q⟩
theorem UC{f:Value->Value->Sem Value}{g:Int->Int->Int}
  (rule:∀(i j:Int) (t u:Tok) (s:Shared) (Q:Value->Shared->Prop) (E:Value->Shared->Prop),Q (.int (g i j) s.toks) { s with toks:=s.toks+1 }->wpAny (model X.prog X.w) X.A (f (.int i t) (.int j u)) Q E s) :
  OpR X f (rI0 λi j=>.int (g i j)):=by
 intro pins s σ H x y v u Q I rx ry h;obtain⟨i,j,rfl,rfl,q⟩:=h;obtain⟨t,rfl⟩:=rx;obtain⟨t',rfl⟩:=ry;exact rule i j t t' s _ _ ⟨.int (g i j),H,I.tok _,⟨_,rfl⟩,q⟩
theorem KY{f:Value->Value->Sem Value}{g:Int->Int->Bool}
  (rule:∀(i j:Int) (t u:Tok) (s:Shared) (Q:Value->Shared->Prop) (E:Value->Shared->Prop),Q (.bool (g i j)) s->wpAny (model X.prog X.w) X.A (f (.int i t) (.int j u)) Q E s) :
  OpR X f (rI0 λi j=>.bl (g i j)):=by
 intro pins s σ H x y v u Q I rx ry h;obtain⟨i,j,rfl,rfl,q⟩:=h;obtain⟨t,rfl⟩:=rx;obtain⟨t',rfl⟩:=ry;exact rule i j t t' s _ _ ⟨.bl (g i j),H,I,rfl,q⟩
def zdE(i j:Int):Prop:=0<j/\j<1073741824
def XG(i j:Int):Prop:=(-(2 ^ 64)<i/\i<2 ^ 64)\/(-(2 ^ 64)<j/\j<2 ^ 64)
theorem XG.ok{i j:Int}(h:XG i j):IntMulOk i j:=by
 rcases h with⟨h1,h2⟩|⟨h1,h2⟩
 .exact .of_left (intBits_le_64 h1 h2)
 .exact .of_right (intBits_le_64 h1 h2)
theorem KZ(k:Nat):(0:Int)<=2 ^ k:=by
 rw[two_pow_cast];exact Int.natCast_nonneg _
theorem yc:OpR X (binaryOp .Add) (rI0 λi j=>.int (i+j)):=UC λ_ _ _ _ _ _ _ q=>add_int q
theorem yO:OpR X (binaryOp .Sub) (rI0 λi j=>.int (i-j)):=UC λ_ _ _ _ _ _ _ q=>sub_int q
theorem yK:OpR X (binaryOp .FloorDiv) (rI zdE λi j=>.int (i / j)):=opI λi j _ _ _ _ _ hc q=>by
 have h1:(0:Int)<j:=hc.1;have h2:j<1073741824:=hc.2;exact floordiv_int (by omega) (by rw[Int.fdiv_eq_ediv_of_nonneg i (by omega)];exact q) (.inl (PyProof.noPylong_small (by omega)))
theorem yq:OpR X (binaryOp .Mod) (rI (λ_ j=>0<j) λi j=>.int (i%j)):=opI λi j _ _ _ _ _ hc q=>by
 have h1:(0:Int)<j:=hc;exact mod_int' (by omega) (by rw[Int.fmod_eq_emod_of_nonneg i (by omega)];exact q)
theorem zbz:OpR X (binaryOp .RShift) (rI (λ_ j=>0<=j) λi j=>.int (i / 2 ^ j.toNat)):=opI λi j _ _ _ _ _ hc q=>
 rshift_int hc (by rw[Int.fdiv_eq_ediv_of_nonneg i (KZ _)];exact q)
theorem k4:OpR X (binaryOp .BitAnd) (rI0 λi j=>.int (Builtin.bitAnd i j)):=UC λ_ _ _ _ _ _ _ q=>and_int q
theorem zkd:OpR X (binaryOp .BitOr) (rI0 λi j=>.int (Builtin.bitOr i j)):=UC λ_ _ _ _ _ _ _ q=>or_int q
theorem zih:OpR X (binaryOp .BitXor) (rI0 λi j=>.int (Builtin.bitXor i j)):=UC λ_ _ _ _ _ _ _ q=>xor_int q
theorem unI{f:Value->Sem Value}{g:Int->Int}
  (rule:∀(i:Int) (t:Tok) (s:Shared) (Q:Value->Shared->Prop) (E:Value->Shared->Prop),Q (.int (g i) s.toks) { s with toks:=s.toks+1 }->wpAny (model X.prog X.w) X.A (f (.int i t)) Q E s) :
  UnR X f (rU λi=>.int (g i)):=by
 intro pins s σ H x v Q I rx h;obtain⟨i,rfl,q⟩:=h;obtain⟨t,rfl⟩:=rx;exact rule i t s _ _ ⟨.int (g i),H,I.tok _,⟨_,rfl⟩,q⟩
theorem zbA:UnR X (unaryOp .USub) (rU λi=>.int (-i)):=unI λ_ _ _ _ _ q=>neg_int q
theorem zii:UnR X (unaryOp .Invert) (rU λi=>.int (Builtin.bitNot i)):=unI λ_ _ _ _ _ q=>invert_int q
end
noncomputable def Ys:V->V->Bool
 |.non,.non=>true|.non,.int _=>true|.int _,.non=>true|.non,.bl _=>true|.bl _,.non=>true|.non,.str _=>true|.str _,.non=>true
 |.int _,.int _=>true|.bl _,.bl _=>true|.str _,.str _=>true|.byt _,.byt _=>true
 |.int _,.str _=>true|.str _,.int _=>true|.bl _,.str _=>true|.str _,.bl _=>true
 |_,_=>false
def rEq:R2:=λx y H Q=>Ys x y=true/\Q (.bl (decide (x=y))) H
def rNe:R2:=λx y H Q=>Ys x y=true/\Q (.bl (!decide (x=y))) H
theorem J3{i j:Int}:decide (V.int i=V.int j)=(i==j):=by
 rw[Bool.eq_iff_iff];simp
theorem zbB{i j:Bool}:decide (V.bl i=V.bl j)=(i==j):=by
 rw[Bool.eq_iff_iff];simp
theorem J4{i j:Str}:decide (V.str i=V.str j)=(i==j):=by
 rw[Bool.eq_iff_iff];simp
theorem J5{i j:Array UInt8}:decide (V.byt i=V.byt j)=(i.toList==j.toList):=by
 rw[Bool.eq_iff_iff];cases i;cases j;simp
section
variable {a b c:Expr}{tb tc:TE}
theorem yg{Q:VK}{k k':Bool}(I:Inv X pins σ H s)(q:Q (.bl k) H)(e:k=k'):EP X pins σ Q (.bool k') s:=by
 subst e;exact⟨.bl k,H,I,rfl,q⟩
theorem z7:OpR X (compareOp .Eq) rEq:=by
 intro pins s σ H x y v u Q I rx ry h;obtain⟨hs,q⟩:=h;cases x with
 |non=>
  cases rx;cases y with
  |non=>cases ry;exact PySem.EqNone.eq_none_none (yg I q (by simp))
  |bl j=>cases ry;exact PySem.EqNone.eq_none_bool (yg I q (by simp))
  |int j=>obtain⟨t',rfl⟩:=ry;exact PySem.EqNone.eq_none_int (yg I q (by simp))
  |str j=>obtain⟨t',rfl⟩:=ry;exact PySem.EqNone.eq_none_str (yg I q (by simp))
  |_=>exact absurd (show false=true from hs) lP
 |bl i=>
  cases rx;cases y with
  |non=>cases ry;exact PySem.EqNone.eq_bool_none (yg I q (by simp))
  |bl j=>cases ry;exact eq_bool (yg I q zbB)
  |str j=>obtain⟨t',rfl⟩:=ry;exact PySem.EqMixed.eq_bool_str (yg I q (by simp))
  |_=>exact absurd (show false=true from hs) lP
 |int i=>
  obtain⟨t,rfl⟩:=rx;cases y with
  |non=>cases ry;exact PySem.EqNone.eq_int_none (yg I q (by simp))
  |int j=>obtain⟨t',rfl⟩:=ry;exact eq_int (yg I q J3)
  |str j=>obtain⟨t',rfl⟩:=ry;exact PySem.EqMixed.eq_int_str (yg I q (by simp))
  |_=>exact absurd (show false=true from hs) lP
 |str i=>
  obtain⟨t,rfl⟩:=rx;cases y with
  |non=>cases ry;exact PySem.EqNone.eq_str_none (yg I q (by simp))
  |bl j=>cases ry;exact PySem.EqMixed.eq_str_bool (yg I q (by simp))
  |int j=>obtain⟨t',rfl⟩:=ry;exact PySem.EqMixed.eq_str_int (yg I q (by simp))
  |str j=>obtain⟨t',rfl⟩:=ry;exact eq_str (yg I q J4)
  |_=>exact absurd (show false=true from hs) lP
 |byt i=>
  obtain⟨t,rfl⟩:=rx;cases y with
  |byt j=>obtain⟨t',rfl⟩:=ry;exact PySem.W.eq_bytes (yg I q J5)
  |_=>exact absurd (show false=true from hs) lP
 |_=>cases y<;>exact absurd (show false=true from hs) lP
theorem K0:OpR X (compareOp .NotEq) rNe:=by
 intro pins s σ H x y v u Q I rx ry h;obtain⟨hs,q⟩:=h;cases x with
 |non=>
  cases rx;cases y with
  |non=>cases ry;exact PySem.EqNone.ne_none_none (yg I q (by simp))
  |bl j=>cases ry;exact PySem.EqNone.ne_none_bool (yg I q (by simp))
  |int j=>obtain⟨t',rfl⟩:=ry;exact PySem.EqNone.ne_none_int (yg I q (by simp))
  |str j=>obtain⟨t',rfl⟩:=ry;exact PySem.EqNone.ne_none_str (yg I q (by simp))
  |_=>exact absurd (show false=true from hs) lP
 |bl i=>
  cases rx;cases y with
  |non=>cases ry;exact PySem.EqNone.ne_bool_none (yg I q (by simp))
  |bl j=>cases ry;exact ne_bool (yg I q (mw not zbB))
  |str j=>obtain⟨t',rfl⟩:=ry;exact PySem.EqMixed.ne_bool_str (yg I q (by simp))
  |_=>exact absurd (show false=true from hs) lP
 |int i=>
  obtain⟨t,rfl⟩:=rx;cases y with
  |non=>cases ry;exact PySem.EqNone.ne_int_none (yg I q (by simp))
  |int j=>obtain⟨t',rfl⟩:=ry;exact ne_int (yg I q (mw not J3))
  |str j=>obtain⟨t',rfl⟩:=ry;exact PySem.EqMixed.ne_int_str (yg I q (by simp))
  |_=>exact absurd (show false=true from hs) lP
 |str i=>
  obtain⟨t,rfl⟩:=rx;cases y with
  |non=>cases ry;exact PySem.EqNone.ne_str_none (yg I q (by simp))
  |bl j=>cases ry;exact PySem.EqMixed.ne_str_bool (yg I q (by simp))
  |int j=>obtain⟨t',rfl⟩:=ry;exact PySem.EqMixed.ne_str_int (yg I q (by simp))
  |str j=>obtain⟨t',rfl⟩:=ry;exact ne_str (yg I q (mw not J4))
  |_=>exact absurd (show false=true from hs) lP
 |byt i=>
  obtain⟨t,rfl⟩:=rx;cases y with
  |byt j=>obtain⟨t',rfl⟩:=ry;exact PySem.W.ne_bytes (yg I q (mw not J5))
  |_=>exact absurd (show false=true from hs) lP
 |_=>cases y<;>exact absurd (show false=true from hs) lP
theorem uS:OpR X (compareOp .Lt) (rI0 λi j=>.bl (decide (i<j))):=KY λ_ _ _ _ _ _ _ q=>lt_int q
theorem yR:OpR X (compareOp .LtE) (rI0 λi j=>.bl (decide (i<=j))):=KY λ_ _ _ _ _ _ _ q=>le_int q
theorem YU:OpR X (compareOp .Gt) (rI0 λi j=>.bl (decide (j<i))):=KY λ_ _ _ _ _ _ _ q=>gt_int q
theorem zfv:OpR X (compareOp .GtE) (rI0 λi j=>.bl (decide (j<=i))):=KY λ_ _ _ _ _ _ _ q=>ge_int q
theorem k5:OpR X (compareOp .In) (λx y H Q=>∃i j,x=.str i/\y=.str j/\Q (.bl (!(Builtin.Str.occurrences j i 0 j.length 1).isEmpty)) H):=by
 intro pins s σ H x y v u Q I rx ry h;obtain⟨i,j,rfl,rfl,q⟩:=h;obtain⟨t,rfl⟩:=rx;obtain⟨t',rfl⟩:=ry;exact in_str (yg I q rfl)
theorem u8:OpR X (compareOp .Is) (λx y H Q=>y=.non/\Q (.bl (decide (x=.non))) H):=by
 intro pins s σ H x y v u Q I rx ry h;obtain⟨rfl,q⟩:=h;cases ry;refine is_none_gen (yg I q ?_);cases x<;>first
  |(cases rx;rfl)
  |(obtain⟨t,rfl⟩:=rx;rfl)
theorem XH:OpR X (compareOp .IsNot) (λx y H Q=>y=.non/\Q (.bl (!decide (x=.non))) H):=by
 intro pins s σ H x y v u Q I rx ry h;obtain⟨rfl,q⟩:=h;cases ry;refine isnot_none_gen (yg I q ?_);cases x<;>first
  |(cases rx;rfl)
  |(obtain⟨t,rfl⟩:=rx;rfl)
theorem zbC(b:Expr){op:CmpOp}(h:op≠.In:=by decide)(h2:op≠.NotIn:=by decide):behindInMarks op b=false:=by
 have e1:(op==CmpOp.In)=false:=by cases op<;>first|rfl|exact absurd rfl h
 have e2:(op==CmpOp.NotIn)=false:=by cases op<;>first|rfl|exact absurd rfl h2
 cases b<;>simp[behindInMarks,e1,e2]
theorem zgm{op:CmpOp}{r:R2}(ho:OpR X (compareOp op) r)(ha:PE X a ta)(hb:PE X b tb)(hm:behindInMarks op b=false):PE X (.Compare a [op] [b] pos) (tOp r ta tb):=by
 intro pins s σ H Q I h;exact wpAny_Compare1 (zdD ha hb I h λv u s2 x y H2 I2 rx ry q=>ho pins s2 σ H2 x y v u Q I2 rx ry q) hm
def Uo(t:TE):TT:=λσ H Q=>t σ H λx H'=>∃k,x=.bl k/\Q k H'
theorem vR{op:CmpOp}{r:R2}(ho:OpR X (compareOp op) r)(ha:PE X a ta)(hb:PE X b tb)(hm:behindInMarks op b=false):PT X (.Compare a [op] [b] pos) (Uo (tOp r ta tb)):=by
  intro pins s σ H Q I h;refine wpAny_isTrue_Compare1 (thn (ha pins s σ H _ I h) fun v s1 ⟨x,H1,I1,r1,q1⟩=>thn (hb pins s1 σ H1 _ I1 q1) fun u s2 ⟨y,H2,I2,r2,q2⟩=>
    thn (ho pins s2 σ H2 x y v u _ I2 r1 r2 q2) λc s3 ⟨z,H3,I3,r3,k,e,q3⟩=>?_) hm
  subst e;cases r3;exact m8 ⟨H3,I3,q3⟩
def UD(r r':R2)(ta tb tc:TE):TE:=λσ H Q=>ta σ H λx H1=>tb σ H1 λy H2=>r x y H2 λz H3=>∃k,z=.bl k/\
 (if k=true then tc σ H3 λw' H4=>r' y w' H4 Q else Q (.bl false) H3)
theorem vS{op op':CmpOp}{r r':R2}(ho:OpR X (compareOp op) r)(ho':OpR X (compareOp op') r')(ha:PE X a ta)(hb:PE X b tb)(hc:PE X c tc)
    (hm:lastMarks [op,op'] [b,c]=false:=by with_unfolding_all rfl):PE X (.Compare a [op,op'] [b,c] pos) (UD r r' ta tb tc):=by
  intro pins s σ H Q I h;refine Compare_chain (thn (ha pins s σ H _ I h) fun v s1 ⟨x,H1,I1,r1,q1⟩=>chain_link (thn (hb pins s1 σ H1 _ I1 q1) fun u s2 ⟨y,H2,I2,r2,q2⟩=>
    thn (ho pins s2 σ H2 x y v u _ I2 r1 r2 q2) λd s3 ⟨z,H3,I3,r3,k,e,q3⟩=>?_)) hm
  subst e;cases r3;refine m8 ?_;cases k with
  |false=>exact ite_ff ⟨.bl false,H3,I3,rfl,q3⟩
  |true=>exact ite_tt (chain_last (thn (hc pins s3 σ H3 _ I3 q3) λw' s4 ⟨z',H4,I4,r4,q4⟩=>ho' pins s4 σ H4 y z' u w' Q I4 r2 r4 q4))
theorem xI{op op':CmpOp}{r r':R2}(ho:OpR X (compareOp op) r)(ho':OpR X (compareOp op') r')(ha:PE X a ta)(hb:PE X b tb)(hc:PE X c tc)
    (hm:lastMarks [op,op'] [b,c]=false:=by with_unfolding_all rfl):PT X (.Compare a [op,op'] [b,c] pos) (Uo (UD r r' ta tb tc)):=by
  intro pins s σ H Q I h;refine isTrue_chain (thn (ha pins s σ H _ I h) fun v s1 ⟨x,H1,I1,r1,q1⟩=>test_link (thn (hb pins s1 σ H1 _ I1 q1) fun u s2 ⟨y,H2,I2,r2,q2⟩=>
    thn (ho pins s2 σ H2 x y v u _ I2 r1 r2 q2) λd s3 ⟨z,H3,I3,r3,k,e,q3⟩=>?_)) hm
  subst e;cases r3;refine m8 ?_;cases k with
  |false=>
    obtain⟨k',e',q'⟩:=q3;cases e';exact ite_ff ⟨H3,I3,q'⟩
  |true=>
    refine ite_tt (test_last (thn (hc pins s3 σ H3 _ I3 q3) λw' s4 ⟨z',H4,I4,r4,q4⟩=>thn (ho' pins s4 σ H4 y z' u w' _ I4 r2 r4 q4) λd' s5 ⟨z2,H5,I5,r5,k2,e2,q5⟩=>?_));subst e2;cases r5;exact m8 ⟨H5,I5,q5⟩
def UE(K:W.Frag)(x:V)(H:Hp)(k:Bool):Prop:=
 match x with
 |.non=>k=false
 |.bl b=>k=b
 |.int i=>k=(i != 0)
 |.str y=>y.length<=sizeLine/\k=((y.length:Int) != 0)
 |.byt y=>y.size<=sizeLine/\k=((y.size:Int) != 0)
 |.ref p=>(∃xs,SqL K H p xs/\k= !xs.isEmpty)\/(∃xs,SqT K H p xs/\k= !xs.isEmpty)\/∃kvs,H p=some (.dK kvs)/\k= !kvs.isEmpty
 |_=>False
theorem K1{κ:Type}{kvs:List (κ×V)}{vs:List (κ×Value)}(r:KV kvs vs):(!vs.isEmpty)= !kvs.isEmpty:=by
 cases r<;>rfl
theorem YV{xs:List V}{its:List Value}(r:Vals xs its):(!its.toArray.isEmpty)= !xs.isEmpty:=by
 cases r<;>simp
theorem u9:(sizeLine:Nat)<2 ^ 63:=by rw[lS];decide
theorem zij:zk3 X (λx H Q=>∃k,UE X.K x H k/\Q k H):=by
 intro pins s σ H x v Q I rx h;obtain⟨k,e,q⟩:=h;have hl:=u9;have hs:sizeLine= 16777216:=lS;cases x with
 |non=>
  cases rx;have e':k=false:=e;subst e';exact truthy_none ⟨H,I,q⟩
 |bl b=>
  cases rx;have e':k=b:=e;subst e';exact m8 ⟨H,I,q⟩
 |int i=>
  obtain⟨t,rfl⟩:=rx;have e':k=(i != 0):=e;subst e';exact PySem.P.truthy_int ⟨H,I,q⟩
 |str y=>
  obtain⟨t,rfl⟩:=rx;obtain⟨hy,e'⟩:y.length<=sizeLine/\k=((y.length:Int) != 0):=e;subst e';exact PySem.P.truthy_str (by omega) ⟨H,I.tok _,q⟩
 |byt y=>
  obtain⟨t,rfl⟩:=rx;obtain⟨hy,e'⟩:y.size<=sizeLine/\k=((y.size:Int) != 0):=e;subst e';exact PySem.W.truthy_bytes (by omega) ⟨H,I.tok _,q⟩
 |ref p=>
  cases rx;have e':(∃xs,SqL X.K H p xs/\k= !xs.isEmpty)\/(∃xs,SqT X.K H p xs/\k= !xs.isEmpty)\/∃kvs,H p=some (.dK kvs)/\k= !kvs.isEmpty:=e;rcases e' with⟨xs,hx,e'⟩|⟨xs,hx,e'⟩|⟨kvs,hx,e'⟩
  .subst e'
   obtain⟨its,r,pl,hz⟩:=I.list hx;have hlen:=r.length;exact wpAny_truthy_list pl.isList (by simp only[lC];omega) ⟨H,I.tok _,by rw[YV r];exact q⟩
  .subst e'
   obtain⟨its,r,pl,hz⟩:=I.tuple hx;have hlen:=r.length;exact truthy_tuple pl (by simp only[lC];omega) ⟨H,I.tok _,by rw[YV r];exact q⟩
  .subst e'
   obtain⟨hz,hS,vs,r,m⟩:kvs.length<=sizeLine/\(p==sysModules)=false/\∃vs,KV kvs vs/\s.heap.DictOf (yo X.prog X.w) p vs:=I.hok p _ hx;have hlen:kvs.length=vs.length:=lF r;exact wpAny_truthy_dict hS m (by omega) ⟨H,I.tok _,by rw[K1 r];exact q⟩
 |_=>exact(show False from e).elim
theorem zdF(ha:PE X a ta)(he:∀whole,isTrue a X.env whole=(do let v<-whole;standAt a.pos;holding [v] (truthy v))) :
  PT X a (λσ H Q=>ta σ H λx H'=>∃k,UE X.K x H' k/\Q k H'):=by
 intro pins s σ H Q I h;exact isTrue_plain (thn (ha pins s σ H _ I h) λv s1 ⟨x,H1,I1,r1,q1⟩=>zij pins s1 σ H1 x v Q I1 r1 q1) (he _)
theorem YW:OpR X (binaryOp .Add) (λx y H Q=>∃i j,x=.str i/\y=.str j/\i.length+j.length<=sizeLine/\Q (.str (i++j)) H):=by
 intro pins s σ H x y v u Q I rx ry h;obtain⟨i,j,rfl,rfl,hz,q⟩:=h;obtain⟨t,rfl⟩:=rx;obtain⟨t',rfl⟩:=ry;exact add_str (λt' tk=>⟨.str (i++j),H,I.tok _,⟨_,rfl⟩,q⟩) hz
theorem jR{x:V}(r:Vals [x] us):∃u,us=[u]/\RelV x u:=by
 cases r with
 |cons r1 r2=>cases r2;exact⟨_,rfl,r1⟩
theorem zfw{x y:V}(r:Vals [x,y] us):∃u w',us=[u,w']/\RelV x u/\RelV y w':=by
 cases r with
 |cons r1 r2=>
  cases r2 with
  |cons r3 r4=>cases r4;exact⟨_,_,rfl,r1,r3⟩
theorem k6(hc:X.calm=true):yw X (.builtin "max") (λxs H Q=>∃i j,xs=[.int i,.int j]/\Q (.int (if j>i then j else i)) H):=by
 intro pins s σ H xs us Q I r h;obtain⟨i,j,rfl,q⟩:=h;obtain⟨u,w',rfl,⟨t,rfl⟩,⟨t',rfl⟩⟩:=zfw r;refine max_two_ints (I.ok.hd hc) λh' tk k=>⟨_,H,I.kept k,?_,q⟩;by_cases hj:j>i
 .rw[lg hj,lg hj];exact⟨_,rfl⟩
 .rw[l8 hj,l8 hj];exact⟨_,rfl⟩
theorem uo(hc:X.calm=true):yw X (.builtin "min") (λxs H Q=>∃i j,xs=[.int i,.int j]/\Q (.int (if j<i then j else i)) H):=by
 intro pins s σ H xs us Q I r h;obtain⟨i,j,rfl,q⟩:=h;obtain⟨u,w',rfl,⟨t,rfl⟩,⟨t',rfl⟩⟩:=zfw r;refine min_two_ints (I.ok.hd hc) λh' tk k=>⟨_,H,I.kept k,?_,q⟩;by_cases hj:j<i
 .rw[lg hj,lg hj];exact⟨_,rfl⟩
 .rw[l8 hj,l8 hj];exact⟨_,rfl⟩
theorem UF:yw X (.type "str") (λxs H Q=>∃i,xs=[.int i]/\i.natAbs.log2<1920/\Q (.str (toString i)) H):=by
 intro pins s σ H xs us Q I r h;obtain⟨i,rfl,hz,q⟩:=h;obtain⟨u,rfl,t,rfl⟩:=jR r;exact PySem.P.str_of_int hz ⟨.str _,H,I.tok _,⟨_,rfl⟩,q⟩
end
structure ObjM (h:Heap) (x dx C:Addr) (mA:Str->Option Value):Prop where
 obj:h.get? x=some (PySem.W.instObj C dx)
 ns:h.Ns1 dx mA
 ne:dx≠x
theorem zbD{mA:Str->Option Value}(n:h.Ns1 dx mA):∃od,h.get? dx=some od/\∀name,PySem.W.lookIn name od=some (mA name):=by
 obtain⟨o,es,ep,ho,hd,hk,_,hm⟩:=n;refine⟨o,ho,λname=>?_⟩;have e:=hm name;unfold nsFind findBy at e;rw[<-Array.find?_toList]at e;unfold PySem.W.lookIn;rw[hd];dsimp only;split
 .rename_i y q
  rw[q]at e;exact mw some e
 .rename_i q
  rw[q]at e;have a:es.toList.any (·.refKey)=false:=by
   rw[List.any_eq_false];intro y hy;obtain⟨z,t,hkey⟩:=hk y (mM.mp hy);simp[DictEntry.refKey,hkey]
  have a':¬es.toList.any (·.refKey)=true:=by rw[a];exact lP
  rw[l8 a'];exact mw some e
theorem ObjM.look{x:Addr}{mA:Str->Option Value}(I:ObjM h x dx C mA):∃od,PySem.W.InstAt h x (PySem.W.instObj C dx) C (some od)/\∀name,PySem.W.lookIn name od=some (mA name):=
 let⟨od,ho,hl⟩:=zbD I.ns
 ⟨od,⟨I.obj,rfl,rfl,ho⟩,hl⟩
section
variable {x:Addr}{mA:Str->Option Value}{name:Str}{v:Value}
theorem zgn{expr:Bool}(X:K.In s.heap)(I:ObjM s.heap x dx C mA)(hg:W.plainGet K C name=true)(hh:W.hasDictIn K C=true)
  (ha:W.findIn K (.ref C) name=some none)(hv:mA name=some v)(hv':PySem.W.handedIn v=true)(h:Q v { s with toks:=s.toks+1 }) :
  wpAny (model prog w) A (getAttr (.ref x) name expr) Q E s:=by
 obtain⟨od,J,hl⟩:=I.look;exact PySem.W.get_value X J (PySem.W.plainGet_of hg).1 (PySem.W.findObj_own hh ha rfl (by rw[hl,hv])) hv' h
theorem zdG{pl:Sem Bool}{Q:Value×List Value->Shared->Prop}(X:K.In s.heap)(I:ObjM s.heap x dx C mA)(hg:W.plainGet K C name=true)
  (hf:W.findIn K (.ref C) name=some (some (.ref f)))(ht:W.isFn K (.ref f)=true)(hv:mA name=none)(h:Q (.ref f,[.ref x]) s) :
  wpAny (model prog w) A (getMethod (.ref x) name pl) Q E s:=by
 obtain⟨od,J,hl⟩:=I.look;exact PySem.W.method_fn X J (PySem.W.plainGet_of hg).1 (PySem.W.plainGet_of hg).2 hf (beq_iff_eq.mp ht) (by show(PySem.W.lookIn name od).map (·.isSome)=some false;rw[hl,hv];rfl) h
theorem zgo{ns:List Str}{Q:Unit->Shared->Prop}(X:K.In s.heap)(I:ObjM s.heap x dx C mA)
  (hs:W.findIn K (.ref C) "__setattr__" =some (some (.builtin "object.__setattr__")))(hp:W.plainOver K C=true)(ht:PySem.W.takerIn K C name=some none)(hh:W.hasDictIn K C=true)
  (hw:PySem.Within mA ns)(hsz:ns.length<=sizeLine)
  (h:∀h',ObjM h' x dx C (λy=>if y=name then some v else mA y)->Heap.SameBut dx s.heap h'->Q () { s with heap:=h',toks:=s.toks+2 }) :
  wpAny (model prog w) A (setAttr (.ref x) name v) Q E s:=by
 obtain⟨od,J,hl⟩:=I.look;refine PySem.W.set_plain X J hs (PySem.W.osa_open (s:={ s with toks:=s.toks+1 }) (r:=none) X J hp ht λb=>?_);obtain⟨cd,hc,hd'⟩:=PySem.W.any_some hh;have hx:s.heap.get? x=some ⟨.ref C,some dx,.plain,#[]⟩:=I.obj;refine l7 (lE (l7 (l7 (wpAny_loadPart hx (l7 (PySem.W.Looks.here (s:={ s with toks:=s.toks+1 }) (PySem.W.looks_clsIn X hc) ?_))))));rw[hd'];refine lE (a:=some dx) (l7 (lE (l7 ?_)));refine wpAny_nsSet1 (s:={ s with toks:=s.toks+1 }) I.ns λh' hn2 hs2=>?_;obtain⟨oD,esD,epD,hoD,hdD,hcD⟩:=hn2.count (PySem.Within.cons name v hw);refine l7 (wpAny_lookBehind hoD (by rw[hdD];exact pastItsLine_dict (lT hcD (by rw[lL];omega))) ?_);exact lE (h _ ⟨(hs2.2 _ (Ne.symm I.ne)).trans I.obj,hn2,I.ne⟩ hs2)
theorem zdH{R:Result->Shared->Prop}{vs:List Value}{kw:List (Str×Value)}(X:K.In s.heap)(hm:W.makesIn K C=true)
    (hi:W.findIn K (.ref C) "__init__" =some (some (.ref f)))(hf:PySem.W.typeIn K (.ref f)=some (.type "function"))
    (h:codeAny (model prog w) (A.under (.builtin "type.__call__" ⟨.ref C :: vs,kw⟩)) (.call (.ref f) ⟨.ref (s.heap.objs.size+1) :: vs,kw⟩) (PySem.W.InitBack (s.heap.objs.size+1) R)
      { s with heap:=(s.heap.push PySem.W.emptyDict).push (PySem.W.instObj C s.heap.objs.size) }) :
    codeAny (model prog w) A (.call (.ref C) ⟨vs,kw⟩) R s:=by
  obtain⟨hh,g,d,t,os⟩:=s;exact PySem.W.make_core (PySem.W.makes_of X hm) (PySem.W.looks_findIn X hi) (λself=>PySem.W.bind_fn X self hf) (.inl rfl) h
theorem zbE{R:Result->Shared->Prop}(X:K.In s.heap)(hm:W.makesIn K C=true)
    (hi:W.findIn K (.ref C) "__init__" =some (some (.builtin "object.__init__")))
    (hb:∀self,PySem.W.Looks (model prog w) s.heap (bindSpecial (.builtin "object.__init__") self) (.builtin "object.__init__",[self]))
    (h:codeAny (model prog w) (A.under (.builtin "type.__call__" ⟨[.ref C],[]⟩)) (.call (.builtin "object.__init__") ⟨[.ref (s.heap.objs.size+1)],[]⟩) (PySem.W.InitBack (s.heap.objs.size+1) R)
      { s with heap:=(s.heap.push PySem.W.emptyDict).push (PySem.W.instObj C s.heap.objs.size) }) :
    codeAny (model prog w) A (.call (.ref C) ⟨[],[]⟩) R s:=by
  obtain⟨hh,g,d,t,os⟩:=s;exact PySem.W.make_core (PySem.W.makes_of X hm) (PySem.W.looks_findIn X hi) hb (.inr ⟨rfl,rfl⟩) h
end
noncomputable def xD(f:Str)(v:V):List (Str×V)->List (Str×V)
 |[]=>[(f,v)]
 |(g,x)::r=>if g=f then(g,v)::r else(g,x)::xD f v r
theorem Yh(f g:Str)(v:V):∀fs:List (Str×V),(xD f v fs).lookup g=if g=f then some v else fs.lookup g
 |[]=>by
  show List.lookup g [(f,v)]=_;by_cases h:g=f
  .have hb:(g==f)=true:=beq_iff_eq.mpr h
   simp only[List.lookup,hb,lg h]
  .have hb:(g==f)=false:=mS.mpr h
   simp only[List.lookup,hb,l8 h]
 |(k,x)::r=>by
  have ih:=Yh f g v r;rw[show xD f v ((k,x)::r)=(if k=f then(k,v)::r else(k,x)::xD f v r)from rfl];by_cases hk:k=f
  .rw[lg hk]
   by_cases h:g=k
   .have hb:(g==k)=true:=beq_iff_eq.mpr h
    simp only[List.lookup,hb,lg (h.trans hk)]
   .have hb:(g==k)=false:=mS.mpr h
    simp only[List.lookup,hb,l8 (λe:g=f=>h (e.trans hk.symm))]
  .rw[l8 hk]
   by_cases h:g=k
   .have hb:(g==k)=true:=beq_iff_eq.mpr h
    simp only[List.lookup,hb,l8 (λe:g=f=>hk (h.symm.trans e))]
   .have hb:(g==k)=false:=mS.mpr h
    simp only[List.lookup,hb];exact ih
theorem k7(f:Str)(v:V):∀fs:List (Str×V),f∈(xD f v fs).map (·.1)/\∀g,g∈fs.map (·.1)->g∈(xD f v fs).map (·.1)
 |[]=>⟨by simp[xD],λg h=>by simp at h⟩
 |(k,x)::r=>by
  obtain⟨i1,i2⟩:=k7 f v r;rw[show xD f v ((k,x)::r)=(if k=f then(k,v)::r else(k,x)::xD f v r)from rfl];by_cases hk:k=f
  .rw[lg hk]
   subst hk;exact⟨by simp,λg h=>by simpa using h⟩
  .rw[l8 hk]
   refine⟨?_,λg h=>?_⟩
   .rw[lG]
    exact lj _ i1
   .rw[lG]at h ⊢
    rcases lm.mp h with e|e
    .exact lm.mpr (.inl e)
    .exact lj _ (i2 g e)
theorem Yi(f:Str)(v:V):∀fs:List (Str×V),(xD f v fs).length<=fs.length+1
 |[]=>by simp[xD]
 |(k,x)::r=>by
  have ih:=Yi f v r;rw[show xD f v ((k,x)::r)=(if k=f then(k,v)::r else(k,x)::xD f v r)from rfl];by_cases hk:k=f
  .rw[lg hk,lL,lL];omega
  .rw[l8 hk,lL,lL];omega
theorem xC.some_of{o:Option Value}(r:xC (some v) o):∃u,o=some u/\RelV v u:=by
 cases o with
 |none=>exact(show False from r).elim
 |some u=>exact⟨u,rfl,r⟩
theorem xC.none_of{o:Option Value}(r:xC none o):o=none:=by
 cases o with
 |none=>rfl
 |some u=>exact(show False from r).elim
theorem zbF(r:RelV v u):PySem.W.handedIn u=true:=by
 cases v with
 |non=>cases(show u=Value.none from r);rfl
 |bl b=>cases(show u=Value.bool b from r);rfl
 |int i=>obtain⟨t,e⟩:=(show ∃t,u=Value.int i t from r);cases e;rfl
 |str x=>obtain⟨t,e⟩:=(show ∃t,u=Value.str x t from r);cases e;rfl
 |byt b=>obtain⟨t,e⟩:=(show ∃t,u=Value.bytes b t from r);cases e;rfl
 |flt b=>obtain⟨t,e⟩:=(show ∃t,u=Value.float b t from r);cases e;rfl
 |ref a=>cases(show u=Value.ref a from r);rfl
 |ty n=>cases(show u=Value.type n from r);rfl
section
variable {H':Hp}{h':Heap}{fs fs':List (Str×V)}
theorem ZX(hok:HOk P w H h)(e:H a=some (.ins C dx fs)):∃mA,ObjM h a dx C mA/\(∀f,xC (fs.lookup f) (mA f))/\PySem.Within mA (fs.map (·.1))/\fs.length<=1000/\H dx=some (.own a):=by
 obtain⟨d,z,ne,ob,mA,n,r,q⟩:=(show yr P w H h a (.ins C dx fs)from hok a _ e);exact⟨mA,⟨ob,n,ne⟩,r,q,z,d⟩
end
structure Cls (K:W.Frag) (C:Addr):Prop where
 pg:W.plainGet K C Str.empty=true
 hd:W.hasDictIn K C=true
 po:W.plainOver K C=true
 sa:W.findIn K (.ref C) "__setattr__" =some (some (.builtin "object.__setattr__"))
theorem Cls.get(c:Cls K C)(f:Str):W.plainGet K C f=true:=c.pg
def NoAttr(K:W.Frag)(C:Addr)(f:Str):Prop:=W.findIn K (.ref C) f=some none
theorem NoAttr.taker{f:Str}(n:NoAttr K C f):PySem.W.takerIn K C f=some none:=by
 unfold PySem.W.takerIn;rw[show W.findIn K (.ref C) f=some none from n];rfl
structure Meth (K:W.Frag) (C:Addr) (m:Str) (f:Addr):Prop where
 at_:W.findIn K (.ref C) m=some (some (.ref f))
 fn:W.isFn K (.ref f)=true
 kp:W.keepIn K (.ref f)=true
section
variable {fs:List (Str×V)}{f:Str}
theorem K2{b:Bool}(I:Inv X pins σ H s)(e:H a=some (.ins C dx fs))(c:Cls X.K C)(n:NoAttr X.K C f)(l:fs.lookup f=some v)
  (h:∀u s',Inv X pins σ H s'->RelV v u->Q u s'):wpAny (model X.prog X.w) A (getAttr (.ref a) f b) Q E s:=by
 obtain⟨mA,O,r,_,_,_⟩:=ZX I.hok e;obtain⟨u,hu,ru⟩:=xC.some_of (v:=v) (o:=mA f) (by rw[<-l];exact r f);exact zgn I.kIn O (c.get f) c.hd n hu (zbF ru) (h u _ (I.tok _) ru)
theorem YX{m:Str}{g:Addr}{pl:Sem Bool}{Q:Value×List Value->Shared->Prop}(I:Inv X pins σ H s)(e:H a=some (.ins C dx fs))(c:Cls X.K C)(k:Meth X.K C m g)(l:fs.lookup m=none)
  (h:Q (.ref g,[.ref a]) s):wpAny (model X.prog X.w) A (getMethod (.ref a) m pl) Q E s:=by
 obtain⟨mA,O,r,_,_,_⟩:=ZX I.hok e;have hn:mA m=none:=xC.none_of (by rw[<-l];exact r m);exact zdG I.kIn O (c.get m) k.at_ k.fn hn h
theorem K3{y:V}{Q:Unit->Shared->Prop}(I:Inv X pins σ H s)(e:H a=some (.ins C dx fs))(c:Cls X.K C)(n:NoAttr X.K C f)(hl:fs.length<1000)(ry:RelV y u)
  (h:∀s',Inv X pins σ (upd H a (.ins C dx (xD f y fs))) s'->Q () s'):wpAny (model X.prog X.w) A (setAttr (.ref a) f u) Q E s:=by
 obtain⟨mA,O,r,wi,_,ho⟩:=ZX I.hok e;have hz:(fs.map (·.1)).length<=sizeLine:=by rw[l6,lS];omega
 refine zgo I.kIn O c.sa c.po n.taker c.hd wi hz λh' O' sb=>h _ ?_;have hd:∃o,h'.get? dx=some o:=let⟨o,_,_,e',_⟩:=O'.ns;⟨o,e'⟩
 refine I.write (x:=a) (e:=dx) (by rw[e];exact True.intro) (.inr ho) (λb q hb z=>(sb.2 b hb).trans z) hd ?_;refine⟨by rw[zu O.ne];exact ho,?_,O.ne,O'.obj,_,O'.ns,λg=>?_,λg hg=>?_⟩
 .have:=Yi f y fs;omega
 .show xC ((xD f y fs).lookup g) (if g=f then some u else mA g)
  rw[Yh];by_cases q:g=f
  .rw[lg q,lg q];exact ry
  .rw[l8 q,l8 q];exact r g
 .by_cases q:g=f
  .rw[q];exact(k7 f y fs).1
  .refine(k7 f y fs).2 g (wi g λz=>hg ?_)
   show(if g=f then some u else mA g)=none;rw[l8 q];exact z
theorem Inv.made(I:Inv X pins σ H s):Inv X pins σ (upd (upd H s.heap.objs.size (.own (s.heap.objs.size+1))) (s.heap.objs.size+1) (.ins C s.heap.objs.size []))
  { s with heap:=(s.heap.push PySem.W.emptyDict).push (PySem.W.instObj C s.heap.objs.size) }:=by
 have e1:(s.heap.push PySem.W.emptyDict).get? s.heap.objs.size=some PySem.W.emptyDict:=ly s.heap rfl;have e2:((s.heap.push PySem.W.emptyDict).push (PySem.W.instObj C s.heap.objs.size)).get? (s.heap.objs.size+1)=some (PySem.W.instObj C s.heap.objs.size):=by
  have:=ly (s.heap.push PySem.W.emptyDict) (o:=PySem.W.instObj C s.heap.objs.size) rfl;rwa[Heap.size_push]at this
 have e3:(s.heap.push PySem.W.emptyDict).Ns s.heap.objs.size (λ_=>none):=⟨PySem.W.emptyDict,#[],_,e1,rfl,(λe he=>absurd he (by simp)),λ_=>rfl⟩;have I1:=I.laid (a:=s.heap.objs.size) (o:=.own (s.heap.objs.size+1)) (h':=s.heap.push PySem.W.emptyDict) (t':=s.toks) (λb u q=>l9 _ q) (lp _) ⟨_,e1⟩;refine I1.laid (a:=s.heap.objs.size+1) (o:=.ins C s.heap.objs.size []) (t':=s.toks) (λb u q=>l9 _ q) (Nat.le_of_eq (Heap.size_push _ _)) ?_;have ne:s.heap.objs.size≠s.heap.objs.size+1:=lu (Nat.lt_succ_self _);refine⟨by rw[zu ne,zW],lO _,ne,e2,λ_=>none,(Heap.Ns1.of_empty e3).at λo q=>l9 _ q,λ_=>True.intro,λy hy=>absurd rfl hy⟩
theorem zgp{env:Env}{f:Str}(hb:attributeBase e f env (eval e env)=eval e env)
  (h:wpAny (model prog w) A (eval e env) (λo s₁=>wpAny (model prog w) A (getAttr o f true) Q E s₁) E s):wpAny (model prog w) A (eval (.Attribute e f pos) env) Q E s:=
 Attribute_any_ h (by rw[arm_eval_Attribute,hb])
end
def K4(K:W.Frag)(ta:TE)(f:Str):TE:=λσ H Q=>ta σ H λx H1=>∃a C dx fs v,x=.ref a/\H1 a=some (.ins C dx fs)/\Cls K C/\NoAttr K C f/\fs.lookup f=some v/\Q v H1
def K5(K:W.Frag)(ta tv:TE)(f:Str):TS:=λD σ H=>tv σ H λy H1=>ta σ H1 λx H2=>∃a C dx fs,x=.ref a/\H2 a=some (.ins C dx fs)/\Cls K C/\NoAttr K C f/\fs.length<1000/\
 D.nx σ (upd H2 a (.ins C dx (xD f y fs)))
section
variable {o value:Expr}{f:Str}{pos' tpos:Pos}{tv:TE}
theorem zik(he:PE X e ta)(hb:attributeBase e f X.env (eval e X.env)=eval e X.env):PE X (.Attribute e f pos) (K4 X.K ta f):=by
 intro pins s σ H Q I h;refine zgp hb (thn (he pins s σ H _ I h) λu s1 ⟨x,H1,I1,rx,a,C,dx,fs,v,ex,ea,c,n,l,q⟩=>?_);subst ex;obtain rfl:u=Value.ref a:=rx;exact K2 I1 ea c n l λu' s2 I2 ru=>⟨v,H1,I2,ru,q⟩
theorem zil(ha:PE X o ta)(hv:PE X value tv)(hs:swapsWith value (some (.Attribute o f pos')) pos.line X.env=pure false):PS X (.Assign [.Attribute o f pos'] value pos) (K5 X.K ta tv f):=by
 intro pins s σ H D I h;refine plainObj_wpAny_Assign_Attribute (thn (hv pins s σ H _ I h) λu s1 ⟨y,H1,I1,ry,q⟩=>thn (ha pins s1 σ H1 _ I1 q) λov s2 ⟨x,H2,I2,rx,a,C,dx,fs,ex,ea,c,n,l,q2⟩=>?_) hs;subst ex;obtain rfl:ov=Value.ref a:=rx;exact K3 I2 ea c n l ry λs3 I3=>⟨σ,_,I3,q2⟩
end
section
variable {c:Value}{b:Bool}
inductive TyOf (K:W.Frag) (H:Hp):V->Value->Prop where
 |non:TyOf K H .non (.type "NoneType")
 |bl (x:Bool):TyOf K H (.bl x) (.type "bool")
 |int (i:Int):TyOf K H (.int i) (.type "int")
 |str (x:Str):TyOf K H (.str x) (.type "str")
 |flt (x:UInt64):TyOf K H (.flt x) (.type "float")
 |lst {a:Addr}{xs:List V}(e:H a=some (.lst xs)):TyOf K H (.ref a) (.type "list")
 |frz {a:Addr}{o:Obj}{xs:List V}(e:H a=some (.frz o (.lst xs))):TyOf K H (.ref a) (.type "list")
 |tup {a:Addr}{xs:List V}(e:H a=some (.tup xs)):TyOf K H (.ref a) (.type "tuple")
 |dK {a:Addr}{kvs:List (Key×V)}(e:H a=some (.dK kvs)):TyOf K H (.ref a) (.type "dict")
 |dT {a:Addr}{kvs:List (List Key×V)}(e:H a=some (.dT kvs)):TyOf K H (.ref a) (.type "dict")
 |ins {a C dx:Addr}{fs:List (Str×V)}(e:H a=some (.ins C dx fs)) (cl:Cls K C) (ha:W.findIn K (.ref C) "__class__" =some (some (.builtin "object.__class__")))
   (hn:W.specialIn K (.builtin "object.__class__") "__get__" =some (some (.builtin "getset_descriptor.__get__"))) (htk:W.takesIn K (.builtin "object.__class__")=some true)
   (hm:W.mroIn K C (.type "object")=some true):TyOf K H (.ref a) (.ref C)
theorem zbG{x:V}{t:Value}(I:Inv X pins σ H s)(rx:RelV x u)(ty:TyOf X.K H x t)(e:W.kitOne X.K t c=some b)(h:∀tk,Q (.bool b) { s with toks:=tk }) :
  wpAny (model X.prog X.w) A (call (.builtin "isinstance") [u,c]) Q E s:=by
 cases ty with
 |non=>cases(show u=Value.none from rx);exact md PySem.W.kitx_none I.kIn True.intro e (λz=>nomatch z) h
 |bl y=>cases(show u=Value.bool y from rx);exact md PySem.W.kitx_bool I.kIn True.intro e (λz=>nomatch z) h
 |int i=>obtain⟨t,q⟩:=(show ∃t,u=Value.int i t from rx);cases q;exact md PySem.W.kitx_int I.kIn True.intro e (λz=>nomatch z) h
 |str y=>obtain⟨t,q⟩:=(show ∃t,u=Value.str y t from rx);cases q;exact md PySem.W.kitx_str I.kIn True.intro e (λz=>nomatch z) h
 |flt y=>obtain⟨t,q⟩:=(show ∃t,u=Value.float y t from rx);cases q;exact md PySem.W.kitx_float I.kIn True.intro e (λz=>nomatch z) h
 |@lst a xs ea=>
  cases(show u=Value.ref a from rx);obtain⟨_,_,n,_,h1⟩:=(show yr X.prog X.w H s.heap a (.lst xs)from I.hok a _ ea);exact md PySem.W.kitx_list I.kIn ⟨_,h1,rfl⟩ e (λz=>nomatch z) h
 |@frz a ob xs ea=>
  cases(show u=Value.ref a from rx);obtain⟨_,_,_,n,_,h1⟩:=(show yr X.prog X.w H s.heap a (.frz ob (.lst xs))from I.hok a _ ea);exact md PySem.W.kitx_list I.kIn ⟨_,h1,rfl⟩ e (λz=>nomatch z) h
 |@tup a xs ea=>
  cases(show u=Value.ref a from rx);obtain⟨_,_,_,p⟩:=(show yr X.prog X.w H s.heap a (.tup xs)from I.hok a _ ea);obtain⟨o,h1,h2,_⟩:=p;exact md PySem.W.kitx_tuple I.kIn ⟨o,h1,h2⟩ e (λz=>nomatch z) h
 |@dK a kvs ea=>
  cases(show u=Value.ref a from rx);obtain⟨_,_,vs,_,p⟩:=(show yr X.prog X.w H s.heap a (.dK kvs)from I.hok a _ ea);obtain⟨o,es,ep,h1,h2,_⟩:=p;exact md PySem.W.kitx_dict I.kIn ⟨o,h1,h2.1⟩ e (λz=>nomatch z) h
 |@dT a kvs ea=>
  cases(show u=Value.ref a from rx);obtain⟨_,_,xs,_,o,es,ep,h1,h2,_⟩:=(show yr X.prog X.w H s.heap a (.dT kvs)from I.hok a _ ea);exact md PySem.W.kitx_dict I.kIn ⟨o,h1,h2.1⟩ e (λz=>nomatch z) h
 |@ins a C dx fs ea cl ha hn htk hm=>
  cases(show u=Value.ref a from rx);obtain⟨mA,O,_⟩:=ZX I.hok ea;obtain⟨od,J,_⟩:=O.look;exact md (PySem.W.kitx_own (cl.get _) cl.hd ha hn htk hm) I.kIn J e (λz=>nomatch z) h
end
structure Room (k:Nat) (A:Around):Prop where
 hd:A.handled=none
 dp:A.depth+3*k+5<recursionLimit
 un:A.units+16*k+200<cLine
 gd:A.guards=some []
theorem Room.mono{j k:Nat}(r:Room k A)(h:j<=k):Room j A:=⟨r.hd,by have:=r.dp;omega,by have:=r.un;omega,r.gd⟩
theorem Room.deeper{k:Nat}(r:Room (k+1) A)(env:Env):Room k (A.deeper env):=
 ⟨r.hd,by have:=r.dp;show A.depth+1+3*k+5<_;omega,by have:=r.un;show A.units+3+16*k+200<_;omega,r.gd⟩
theorem K6{kw:List (Str×Value)}:(A.under (.builtin "type.__call__" ⟨.ref C::us,kw⟩)).depth=A.depth+1:=by
 first|rfl|simp[Around.under,Code.weight,Code.isCreation,Code.isGuard,Code.isCaller,Code.frames,Code.isFrame,guardIds]
theorem K7{kw:List (Str×Value)}:(A.under (.builtin "type.__call__" ⟨.ref C::us,kw⟩)).units=A.units+1:=by
 first|rfl|simp[Around.under,Code.cUnits,Code.frames,Code.isFrame]
theorem JC{kw:List (Str×Value)}:(A.under (.builtin "type.__call__" ⟨.ref C::us,kw⟩)).guards=A.guards:=by
 first|rfl|simp[Around.under,Code.guards,Code.isGuard,guardIds,pushGuards]
theorem Room.make{k:Nat}(r:Room (k+1) A)(C:Addr)(us:List Value)(kw:List (Str×Value)):Room k (A.under (.builtin "type.__call__" ⟨.ref C::us,kw⟩)):=
 ⟨r.hd,by have:=r.dp;rw[K6];omega,by have:=r.un;rw[K7];omega,by rw[JC];exact r.gd⟩
theorem Room.depth{k:Nat}(r:Room k A):A.depth<recursionLimit:=by have:=r.dp;omega
theorem Room.units{k:Nat}(r:Room k A):A.units+64<cLine:=by have:=r.un;omega
def uz:TA:=λ_ H Q=>Q [] H
def vj(ta:TE)(tr:TA):TA:=λσ H Q=>ta σ H λx H1=>tr σ H1 λxs H2=>Q (x::xs) H2
section
variable {te:TE}
theorem zim:PA X [] uz:=λ_ _ _ _ H Q I h=>Calls.spliced_nil ⟨[],H,I,.nil,h⟩
theorem zgq(ha:PE X e te)(hr:PA X es t)(hs:starEach (e::es) X.env=(false,eval e X.env)::starEach es X.env:=by rfl):PA X (e::es) (vj te t):=by
 intro pos pins s σ H Q I h;rw[hs];show wpAny _ _ (spliced ((false,eval e X.env)::backTo pos (starEach es X.env))) _ _ s;refine Calls.spliced_cons (thn (ha pins s σ H _ I h) λu s1 ⟨x,H1,I1,r1,q1⟩=>?_);exact thn (hr pos pins s1 σ H1 _ I1 q1) λus s2 ⟨xs,H2,I2,r2,q2⟩=>⟨x::xs,H2,I2,.cons r1 r2,q2⟩
def zdI(t:TA):TE:=λσ H Q=>t σ H λxs H1=>xs.length<=sizeLine/\∀p,H1 p=none->Q (.ref p) (upd H1 p (.tup xs))
def UG(t:TA):TE:=λσ H Q=>t σ H λxs H1=>xs.length<=sizeLine/\∀p,H1 p=none->Q (.ref p) (upd H1 p (.lst xs))
theorem zin{x1}(h:PA X es t):PE X (.Tuple es x1 pos) (zdI t):=by
 intro pins s σ H Q I hq;refine wpAny_Tuple_spliced (thn (h pos pins s σ H _ I hq) λus s1 ⟨xs,H1,I1,r,z,q⟩=>⟨by rw[<-r.length];exact z,?_⟩);have hf:H1 s1.heap.objs.size=none:=I1.hok.fresh (lp _);refine⟨.ref s1.heap.objs.size,upd H1 s1.heap.objs.size (.tup xs),I1.laid (t':=s1.toks) (λb u e=>l9 _ e) (lp _) ?_,rfl,q _ hf⟩;exact⟨z,us,r,⟨_,ly _ rfl,rfl,_,rfl⟩⟩
theorem zbH(h:PA X es t):PE X (.List es pos) (UG t):=by
 intro pins s σ H Q I hq;refine wpAny_List_spliced (thn (h pos pins s σ H _ I hq) λus s1 ⟨xs,H1,I1,r,z,q⟩=>⟨by rw[<-r.length];exact z,?_⟩);have hf:H1 s1.heap.objs.size=none:=I1.hok.fresh (lp _);refine⟨.ref s1.heap.objs.size,upd H1 s1.heap.objs.size (.lst xs),I1.laid (t':=s1.toks) (λb u e=>l9 _ e) (lp _) ?_,rfl,q _ hf⟩;exact⟨z,us,0,r,ly _ rfl⟩
end
abbrev Sp:=List V->Hp->VK->XK->Prop
abbrev CXT:=List Env->Hp->Shared->XK->Value->Shared->Prop
structure Env0 (P:Program) (w:World) (K:W.Frag) (mg:Str->Option Value) (base:Heap) (A:Around) (outer:List Env) (s:Shared) (H:Hp):Prop where
 frames:A.frames=some outer
 mod:Mod K mg base
 bs:∀b o,base.get? b=some o->s.heap.get? b=some o/\H b=none
 bsz:base.objs.size<=s.heap.objs.size
 funs:s.heap.FunFrames base outer
 frf:∀b∈frs outer,H b=none
 hok:HOk P w H s.heap
 bare:AllBare s.gens
def CE(outer:List Env)(P:Program)(w:World)(H:Hp)(s:Shared)(Q:VK)(u:Value)(s':Shared):Prop:=
 ∃v H',s'.os=s.os/\AllBare s'.gens/\Un (frs outer) [] H H' s.heap s'.heap/\HOk P w H' s'.heap/\RelV v u/\Q v H'
def CR(CX:CXT)(outer:List Env)(P:Program)(w:World)(H:Hp)(s:Shared)(Q:VK)(E:XK)(r:Result)(s':Shared):Prop:=
 match r with
 |.ok (.ret u)=>CE outer P w H s Q u s'
 |.ok _=>False
 |.error e=>CX outer H s E e s'
structure FnOk (P:Program) (w:World) (K:W.Frag) (mg:Str->Option Value) (base:Heap) (CX:CXT) (k:Nat) (f:Addr) (fd:FuncData) (ps:List Str) (sp:Sp):Prop where
 len:∀vs H Q E,sp vs H Q E->vs.length=ps.length
 run:∀(A:Around) (outer:List Env) (s:Shared) (H:Hp) (args:Args) (us:List Value) (vs:List V) (Q:VK) (E:XK),Room k A->Env0 P w K mg base A outer s H->BindsTo s fd args (ps.zip us)->Vals vs us->sp vs H Q E->
  codeAny (model P w) A (.call (.ref f) args) (CR CX outer P w H s Q E) s
theorem FnOk.imp{CX:CXT}{k:Nat}{ps:List Str}{sp sp':Sp}(F:FnOk P w K mg base CX k f fd ps sp)
  (h:∀vs H Q E,sp' vs H Q E->sp vs H Q E):FnOk P w K mg base CX k f fd ps sp':=
 ⟨λvs H Q E q=>F.len vs H Q E (h _ _ _ _ q),λA outer s H args us vs Q E hr he hb hv hs=>F.run A outer s H args us vs Q E hr he hb hv (h _ _ _ _ hs)⟩
theorem Env0.make{outer:List Env}(e:Env0 P w K mg base A outer s H)(C:Addr)(us:List Value)(kw:List (Str×Value)) :
  Env0 P w K mg base (A.under (.builtin "type.__call__" ⟨.ref C::us,kw⟩)) outer s H:=⟨by first|exact e.frames|(simpa[Around.under,Code.envs,Code.isFrame,pushEnvs]using e.frames),e.mod,e.bs,e.bsz,e.funs,e.frf,e.hok,e.bare⟩
section
variable {s':Shared}
theorem Inv.env0(I:Inv X pins σ H s):Env0 X.prog X.w X.K X.mg X.base X.A X.stack s H:=
 ⟨I.ok.frames,I.ok.mod,I.bs,lT I.ok.bsz I.sz,I.stack,I.stkFree,I.hok,I.bare⟩
theorem Inv.after{Q:VK}(I:Inv X pins σ H s)(h:CE X.stack X.prog X.w H s Q u s'):EP X pins σ Q u s':=by
 obtain⟨v,H',os,bare,un,hok,r,q⟩:=h;obtain⟨hh,g,d,t,os'⟩:=s';obtain rfl:os'=s.os:=os;exact⟨v,H',I.call (h':=hh) (g':=g) (d':=d) (t':=t) (ch:=[]) un hok bare (λb z=>absurd z (by simp)),r,q⟩
end
def ZY(sp:Sp)(dvs:List V)(E:XK)(t:TA):TE:=λσ H Q=>t σ H λvs H1=>sp (vs++dvs) H1 Q E
def ZZ(C:Addr)(m:Str)(sp:Sp)(dvs:List V)(E:XK)(ta:TE)(t:TA):TE:=λσ H Q=>ta σ H λx H1=>∃a dx fs,x=.ref a/\H1 a=some (.ins C dx fs)/\fs.lookup m=none/\
 t σ H1 λvs H2=>sp (x::(vs++dvs)) H2 Q E
def YY(C:Addr)(sp:Sp)(dvs:List V)(E:XK)(t:TA):TE:=λσ H Q=>t σ H λvs H1=>∀x dx,H1 x=none->H1 dx=none->dx≠x->
 sp (.ref x::(vs++dvs)) (upd (upd H1 dx (.own x)) x (.ins C dx [])) (λv H2=>v=.non/\Q (.ref x) H2) E
def Binds(K:W.Frag)(fd:FuncData)(ps:List Str)(ds:List Value):Prop:=
 ∀(s:Shared) (us:List Value),K.In s.heap->(us++ds).length=ps.length->BindsTo s fd ⟨us,[]⟩ (ps.zip (us++ds))
theorem Binds.all{ps:List Str}(h:∀us:List Value,us.length=ps.length->bindArgs fd ⟨us,[]⟩=pure (ps.zip us)):Binds K fd ps []:=λs us _ hl=>by
 rw[lV]at hl ⊢;exact .of_eq (h us hl)
def uq(CX:CXT)(X:Cx)(E:XK):Prop:=∀(pins:List (Addr×Obj)) (σ:St) (H:Hp) (s:Shared) (e:Value) (s':Shared),Inv X pins σ H s->CX X.stack H s E e s'->X.xe e s'
section
variable {CX:CXT}{k:Nat}{ps:List Str}{sp:Sp}{dvs:List V}{ds:List Value}{E:XK}{m:Str}{p apos:Pos}{o:Expr}
theorem UH{Q:VK}(F:FnOk X.prog X.w X.K X.mg X.base CX k f fd ps sp)(hr:Room k X.A)(hb:Binds X.K fd ps ds)(hd:Vals dvs ds)(hx:uq CX X E)
  (I:Inv X pins σ H s)(r:Vals vs us)(h:sp (vs++dvs) H Q E):wpAny (model X.prog X.w) X.A (call (.ref f) us) (EP X pins σ Q) X.xe s:=by
 have r2:Vals (vs++dvs) (us++ds):=r.append hd;have hl:(us++ds).length=ps.length:=by rw[<-r2.length];exact F.len _ _ _ _ h
 refine wpAny_call (codeAny_mono (F.run X.A X.stack s H ⟨us,[]⟩ (us++ds) (vs++dvs) Q E hr I.env0 (hb s us I.kIn hl) r2 h) λr s' hq=>?_);cases r with
 |error e=>exact hx pins σ H s e s' I hq
 |ok fl=>
  cases fl with
  |ret u=>exact I.after hq
  |next=>exact False.elim hq
  |brk=>exact False.elim hq
  |cont=>exact False.elim hq
theorem zgr(F:FnOk X.prog X.w X.K X.mg X.base CX k f fd ps sp)(hr:Room k X.A)(hg:Gl X x)(hm:X.mg x=some (.ref f))(hk:W.keepIn X.K (.ref f)=true)(hb:Binds X.K fd ps ds)(hd:Vals dvs ds)(hx:uq CX X E)
  (ha:PA X (e::es) t)(hdb:(x==("__debug__":Str))=false:=by decide)(he:starEach (e::es) X.env=(false,eval e X.env)::starEach es X.env:=by rfl)(hpl:(backTo pos (starEach es X.env)).any (·.1)=false:=by rfl) :
  PE X (.Call (.Name x p) (e::es) [] pos) (ZY sp dvs E t):=by
 intro pins s σ H Q I h;refine mJ (jr I hg hm ?_ hdb);refine PySem.W.callWith_K (h₀:=X.base) I.ok.mod.kin hk (thn (ha pos pins s σ H _ I h) λus s1 ⟨vs,H1,I1,r,q⟩=>⟨I1.kIn,?_⟩) he hpl;exact UH F hr hb hd hx I1 r q
theorem zgs{pl:Sem Bool}(he:PE X o ta)(c:Cls X.K C)(hm:Meth X.K C m f)(F:FnOk X.prog X.w X.K X.mg X.base CX k f fd ps sp)(hr:Room k X.A)(hb:Binds X.K fd ps ds)(hd:Vals dvs ds)(hx:uq CX X E)(ha:PA X (e::es) t)
    (hst:starEach (e::es) X.env=(false,eval e X.env)::starEach es X.env:=by rfl)(hpl:(backTo pos (starEach es X.env)).any (·.1)=false:=by rfl)
    (ht:eval (.Call (.Attribute o m apos) (e :: es) [] pos) X.env=(do
      let ov<-eval o X.env
      standAt apos.atName
      let(f,first)<-holding [ov] (getMethod ov m pl)
      callWith pos f first (backTo pos (starEach (e::es) X.env)) (backToKw pos (keywordEach [] X.env))):=by rfl) :
    PE X (.Call (.Attribute o m apos) (e::es) [] pos) (ZZ C m sp dvs E ta t):=by
  intro pins s σ H Q I h;refine PySem.W.methodCall_KW (pl:=pl) (thn (he pins s σ H _ I h) λu s1 ⟨x,H1,I1,rx,a,dx,fs,ex,ea,l,q⟩=>?_) ht;subst ex;obtain rfl:u=Value.ref a:=rx;refine YX I1 ea c hm l ?_;refine PySem.W.callWith_K (first:=[.ref a]) (h₀:=X.base) I.ok.mod.kin hm.kp (thn (ha pos pins s1 σ H1 _ I1 q) λus s2 ⟨vs,H2,I2,r,q2⟩=>⟨I2.kIn,?_⟩) hst hpl;exact UH (us:=.ref a::us) (vs:=.ref a::vs) F hr hb hd hx I2 (.cons rfl r) q2
theorem zdJ{pl:Sem Bool}(he:PE X o ta)(c:Cls X.K C)(hm:Meth X.K C m f)(F:FnOk X.prog X.w X.K X.mg X.base CX k f fd ps sp)(hr:Room k X.A)(hb:Binds X.K fd ps ds)(hd:Vals dvs ds)(hx:uq CX X E)
    (ht:eval (.Call (.Attribute o m apos) [] [] pos) X.env=(do
      let ov<-eval o X.env
      standAt apos.atName
      let(f,first)<-holding [ov] (getMethod ov m pl)
      callWith pos f first (backTo pos (starEach [] X.env)) (backToKw pos (keywordEach [] X.env))):=by rfl) :
    PE X (.Call (.Attribute o m apos) [] [] pos) (ZZ C m sp dvs E ta uz):=by
  intro pins s σ H Q I h;refine PySem.W.methodCall_KW (pl:=pl) (thn (he pins s σ H _ I h) λu s1 ⟨x,H1,I1,rx,a,dx,fs,ex,ea,l,q⟩=>?_) ht;subst ex;obtain rfl:u=Value.ref a:=rx;refine YX I1 ea c hm l ?_;exact PySem.W.callWith_K0 (first:=[.ref a]) I1.kIn hm.kp (UH (us:=[.ref a]) (vs:=[.ref a]) F hr hb hd hx I1 (.cons rfl .nil) q)
structure Mk (K:W.Frag) (C f:Addr):Prop where
 makes:W.makesIn K C=true
 init:W.findIn K (.ref C) "__init__" =some (some (.ref f))
 fn:W.isFn K (.ref f)=true
 kp:W.keepIn K (.ref C)=true
theorem UI{Q:VK}(M:Mk X.K C f)(F:FnOk X.prog X.w X.K X.mg X.base CX k f fd ps sp)(hr:Room (k+1) X.A)(hb:Binds X.K fd ps ds)(hd:Vals dvs ds)
    (hx:uq CX X E)(I:Inv X pins σ H s)(r:Vals vs us)
    (h:∀x dx,H x=none->H dx=none->dx≠x->sp (.ref x::(vs++dvs)) (upd (upd H dx (.own x)) x (.ins C dx [])) (λv H2=>v=.non/\Q (.ref x) H2) E) :
    wpAny (model X.prog X.w) X.A (call (.ref C) us) (EP X pins σ Q) X.xe s:=by
  have hq:=h (s.heap.objs.size+1) s.heap.objs.size (I.hok.fresh (Nat.le_succ _)) (I.hok.fresh (lp _)) (lu (Nat.lt_succ_self _));have I2:=Inv.made (C:=C) I;have r2:Vals (V.ref (s.heap.objs.size+1)::(vs++dvs)) (Value.ref (s.heap.objs.size+1)::(us++ds)):=.cons rfl (r.append hd);have hl:(Value.ref (s.heap.objs.size+1)::us++ds).length=ps.length:=by
    have e:=r2.length;rw[F.len _ _ _ _ hq]at e;exact e.symm
  refine wpAny_call (zdH (f:=f) I.kIn M.makes M.init (beq_iff_eq.mp M.fn) (codeAny_mono (F.run _ X.stack _ _ ⟨Value.ref (s.heap.objs.size+1) :: us,[]⟩ (Value.ref (s.heap.objs.size+1) :: (us ++ ds)) _ _ E (hr.make C us [])
    (I2.env0.make C us []) (hb _ (Value.ref (s.heap.objs.size+1)::us) I2.kIn hl) r2 hq) λr s' hq'=>?_))
  cases r with
  |error e=>exact hx pins σ _ _ e s' I2 hq'
  |ok fl=>
    cases fl with
    |ret u=>
      obtain⟨v,H',I3,rv,ev,q3⟩:=I2.after hq';subst ev;exact⟨rv,⟨V.ref (s.heap.objs.size+1),H',I3,rfl,q3⟩⟩
    |next=>exact False.elim hq'
    |brk=>exact False.elim hq'
    |cont=>exact False.elim hq'
theorem zgt(M:Mk X.K C f)(F:FnOk X.prog X.w X.K X.mg X.base CX k f fd ps sp)(hr:Room (k+1) X.A)(hg:Gl X x)(hm:X.mg x=some (.ref C))(hb:Binds X.K fd ps ds)(hd:Vals dvs ds)(hx:uq CX X E)
  (ha:PA X (e::es) t)(hdb:(x==("__debug__":Str))=false:=by decide)(he:starEach (e::es) X.env=(false,eval e X.env)::starEach es X.env:=by rfl)(hpl:(backTo pos (starEach es X.env)).any (·.1)=false:=by rfl) :
  PE X (.Call (.Name x p) (e::es) [] pos) (YY C sp dvs E t):=by
 intro pins s σ H Q I h;refine mJ (jr I hg hm ?_ hdb);refine PySem.W.callWith_K (h₀:=X.base) I.ok.mod.kin M.kp (thn (ha pos pins s σ H _ I h) λus s1 ⟨vs,H1,I1,r,q⟩=>⟨I1.kIn,?_⟩) he hpl;exact UI M F hr hb hd hx I1 r q
theorem zdK(M:Mk X.K C f)(F:FnOk X.prog X.w X.K X.mg X.base CX k f fd ps sp)(hr:Room (k+1) X.A)(hg:Gl X x)(hm:X.mg x=some (.ref C))(hb:Binds X.K fd ps ds)(hd:Vals dvs ds)(hx:uq CX X E)
  (hdb:(x==("__debug__":Str))=false:=by decide):PE X (.Call (.Name x p) [] [] pos) (YY C sp dvs E uz):=by
 intro pins s σ H Q I h;refine mJ (jr I hg hm ?_ hdb);exact PySem.W.callWith_K0 I.kIn M.kp (UI (us:=[]) M F hr hb hd hx I .nil h)
end
def PK(X:Cx)(kws:List Keyword)(t:TA):Prop:=
 ∀(pos:Pos) (pins:List (Addr×Obj)) (s:Shared) (σ:St) (H:Hp) (Q:List V->Hp->Prop),Inv X pins σ H s->t σ H Q->wpAny (model X.prog X.w) X.A (evalAll ((backToKw pos (keywordEach kws X.env)).map (·.2))) (AP X pins σ Q) X.xe s
section
variable {CX:CXT}{k:Nat}{ps ks:List Str}{sp:Sp}{E:XK}{m:Str}{p apos kpos:Pos}{o:Expr}{kws:List Keyword}{te:TE}{tk:TA}{nm:Option Str}
theorem zbI:PK X [] uz:=λ_ _ _ _ H Q I h=>wpAny_evalAll_nil ⟨[],H,I,.nil,h⟩
theorem J6(ha:PE X e te)(hr:PK X kws t):PK X (⟨nm,e,kpos⟩::kws) (vj te t):=by
 intro pos pins s σ H Q I h;show wpAny _ _ (evalAll ((do let v<-eval e X.env;standAt pos;pure v)::(backToKw pos (keywordEach kws X.env)).map (·.2))) _ _ s;refine wpAny_evalAll_cons (l7 (thn (ha pins s σ H _ I h) λu s1 ⟨x,H1,I1,r1,q1⟩=>l7 (wpAny_standAt (lE ?_))));exact thn (hr pos pins s1 σ H1 _ I1 q1) λus s2 ⟨xs,H2,I2,r2,q2⟩=>⟨x::xs,H2,I2,.cons r1 r2,q2⟩
variable {g:List Value->List Value->List Value}{gV:List V->List V->List V}
end
structure FnScope (N P:List Str) (sc:Scope):Prop where
 kind:sc.kind=.function
 co:sc.isCoroutine=false
 gen:sc.isGenerator=false
 nd:N.Nodup
 pre:N.take P.length=P
 par:∀x∈P,sc.names.lookup x=some .local\/sc.names.lookup x=some .cell
 nofree:∀y∈sc.names,y.2≠.free
theorem VA{kindOf:Str->Option NameKind}:∀{binds:List (Str×Value)}{m:Str->Option Value},(∀v,(x,v)∉binds)->bindL kindOf binds m x=m x
 |[],_,_=>rfl
 |(n,v)::r,m,h=>by
  unfold bindL;rw[VA λw hw=>h w (lj _ hw)];split
  .have:x≠n:=by rintro rfl;exact h v li
   simp[this]
  .rfl
theorem VB{kindOf:Str->Option NameKind}:∀{binds:List (Str×Value)}{m:Str->Option Value},(∀v,(x,v)∉binds)->bindC kindOf binds m x=m x
 |[],_,_=>rfl
 |(n,v)::r,m,h=>by
  unfold bindC;rw[VB λw hw=>h w (lj _ hw)];split
  .rfl
  .have:x≠n:=by rintro rfl;exact h v li
   simp[this]
theorem VC{kindOf:Str->Option NameKind}{v:Value}:∀{P:List Str}{vs:List Value}{i:Nat}{m:Str->Option Value},P.Nodup->P[i]? =some x->vs[i]? =some v->kindOf x=some .local->
  bindL kindOf (P.zip vs) m x=some v
 |[],_,_,_,_,h,_,_=>by simp at h
 |_::_,[],_,_,_,_,h,_=>by simp at h
 |p::P,w::vs,0,m,nd,h1,h2,hk=>by
  simp at h1 h2;subst h1;subst h2;show bindL kindOf ((p,w)::P.zip vs) m p=_;unfold bindL;rw[VA λv hv=>(List.nodup_cons.mp nd).1 (List.of_mem_zip hv).1,lg hk];simp
 |p::P,w::vs,i+1,m,nd,h1,h2,hk=>by
  show bindL kindOf ((p,w)::P.zip vs) m x=_;unfold bindL;exact VC (i:=i) (List.nodup_cons.mp nd).2 (by simpa using h1) (by simpa using h2) hk
theorem VD{kindOf:Str->Option NameKind}{v:Value}:∀{P:List Str}{vs:List Value}{i:Nat}{m:Str->Option Value},P.Nodup->P[i]? =some x->vs[i]? =some v->kindOf x≠some .local->
  bindC kindOf (P.zip vs) m x=some v
 |[],_,_,_,_,h,_,_=>by simp at h
 |_::_,[],_,_,_,_,h,_=>by simp at h
 |p::P,w::vs,0,m,nd,h1,h2,hk=>by
  simp at h1 h2;subst h1;subst h2;show bindC kindOf ((p,w)::P.zip vs) m p=_;unfold bindC;rw[VB λv hv=>(List.nodup_cons.mp nd).1 (List.of_mem_zip hv).1,l8 hk];simp
 |p::P,w::vs,i+1,m,nd,h1,h2,hk=>by
  show bindC kindOf ((p,w)::P.zip vs) m x=_;unfold bindC;exact VD (i:=i) (List.nodup_cons.mp nd).2 (by simpa using h1) (by simpa using h2) hk
noncomputable def start(N:List Str)(vs:List V):St:=vs.map some++List.replicate (N.length-vs.length) none
noncomputable def vT(CX:CXT)(P:Program)(w:World)(K:W.Frag)(mg:Str->Option Value)(base:Heap)(N:List Str)(qual:Str)(scope:Scope)(f:Addr)(cd:Value)(A:Around)(outer:List Env)(s:Shared)(H:Hp)(E:XK):Cx where
 prog:=P
 w:=w
 K:=K
 mg:=mg
 base:=base
 A:=A.deeper (envOfC qual scope s.heap.objs.size f cd)
 N:=N
 s₀:=s
 H₀:=H
 env:=envOfC qual scope s.heap.objs.size f cd
 outer:=outer
 stack:=envOfC qual scope s.heap.objs.size f cd::outer
 ex:=[]
 calm:=true
 fn:=λ_=>true
 pn:=[]
 xe:=λe s'=>wpAny (model P w) (A.deeper (envOfC qual scope s.heap.objs.size f cd)) (leaving (envOfC qual scope s.heap.objs.size f cd) e) (λ_ s''=>CX outer H s E e s'') (λe' s''=>CX outer H s E e' s'') s'
theorem UJ{sc:Scope}(h:sc.names.lookup x=some .cell):∃c,(cellsFrom n sc.names []).lookup x=some c:=by
 have q:=PySem.W.cellsFrom_some sc.names n [] (.inl h);exact Option.isSome_iff_exists.mp q
theorem zbJ{CX:CXT}{ps:List Str}{qual:Str}{scope:Scope}{cd:Value}{outer:List Env}{s1:Shared}{E:XK}
  (S:FnScope N ps scope)(hd:A.handled=none)(e0:Env0 P w K mg base A outer s H)(hl:vs.length=ps.length)(r:Vals vs us)
  (x:InCallC s s.heap.objs.size (bindL (envOfC qual scope s.heap.objs.size f cd).kindOf (ps.zip us) λ_=>none) (cellsFrom (s.heap.objs.size+1) scope.names []) (bindC (envOfC qual scope s.heap.objs.size f cd).kindOf (ps.zip us) λ_=>none) s1) :
  Inv (vT CX P w K mg base N qual scope f cd A outer s H E) [] (start N vs) H s1:=by
 have hpl:ps.length<=N.length:=by have:=mw List.length S.pre;rw[mH]at this;omega
 obtain⟨h1,tk,rfl,hk⟩:=x.done;have noA:∀b:Addr,b∉(vT CX P w K mg base N qual scope f cd A outer s H E).ex:=λb z=>absurd (show b∈([]:List Addr)from z) (by simp);refine⟨⟨e0.mod,S.kind,rfl,rfl,lp _,fun y z c h1 h2=>?_,fun y hy=>?_,fun y c _ h=>?_,fun _=>hd,Around.frames_deeper e0.frames,.inr ⟨rfl,rfl⟩,fun b z=>absurd z (noA b),e0.bs,e0.bsz,fun b _ _=>noA b,fun b z=>absurd z (noA b),e0.funs,e0.frf⟩,
  rfl,e0.bare,Un.kept hk,⟨_,x.toInCall.ns,λi y v h1 h2 h3=>?_⟩,λy c h=>⟨_,x.cell y c h⟩,e0.hok.fresh (lp _),λy c h=>?_,λp hp=>absurd (show p∈([]:List (Addr×Obj))from hp) (by simp),e0.hok.kept hk,?_⟩
 .exact name_of_addr x.apart (PySem.mem_of_lookup h1) (PySem.mem_of_lookup h2)
 .have hy:scope.names.lookup y=some .cell\/scope.names.lookup y=some .free:=hy
  rcases hy with hy|hy
  .exact UJ hy
  .exact absurd rfl (S.nofree _ (PySem.mem_of_lookup hy))
 .exact Nat.le_of_lt (x.above y c (PySem.mem_of_lookup h))
 .have hi:i<vs.length:=by
   unfold start at h2;by_cases hi:i<vs.length
   .exact hi
   .rw[mE (by simpa using hi)]at h2
    rw[List.getElem?_replicate]at h2;split at h2<;>cases h2
  have ha:vs[i]? =some v:=by
   unfold start at h2;rw[mq (by simpa using hi),lw]at h2;cases e:vs[i]? with
   |none=>rw[e]at h2;cases h2
   |some a=>rw[e]at h2;cases h2;rfl
  obtain⟨u,hu,rv⟩:=r.get ha;have hp:ps[i]? =some y:=by
   rw[<-S.pre,List.getElem?_take_of_lt (by omega)];exact h1
  have ndP:ps.Nodup:=by rw[<-S.pre];exact S.nd.sublist (List.take_sublist _ _)
  refine⟨u,rv,?_⟩;rcases S.par y (lK hp)with k|k
  .exact .inl ⟨k,VC ndP hp hu k⟩
  .obtain⟨c,e⟩:=UJ (n:=s.heap.objs.size+1) k
   refine .inr ⟨.inl k,c,e,?_⟩;have q:=x.cell y c e;rw[VD ndP hp hu (by show scope.names.lookup y≠_;rw[k];decide)]at q;exact q
 .exact e0.hok.fresh (Nat.le_of_lt (x.above y c (PySem.mem_of_lookup h)))
 .unfold start
  show _=N.length;rw[lI,l6,List.length_replicate];omega
theorem zfx{CX:CXT}{k:Nat}{name qual:Str}{params:Arguments}{body:List Stmt}{scope:Scope}{dV kV doc pm cdv ct oc:Value}{an od:Option Addr}
    {osl:Array (Option Value)}{ps:List Str}{sp:Sp}(lk:K.lookup f=some ⟨oc,od,.func (W.fnOf name qual params body scope dV kV doc pm an cdv ct),osl⟩)(hcd:W.codeIn K cdv qual=true)(S:FnScope N ps scope)
    (len:∀vs H Q E,sp vs H Q E->vs.length=ps.length)
    (hbody:∀ (A:Around) (outer:List Env) (s:Shared) (H:Hp) (vs:List V) (Q:VK) (E:XK),Room k (A.deeper (envOfC qual scope s.heap.objs.size f cdv))->sp vs H Q E->
      ∃t,PSs (vT CX P w K mg base N qual scope f cdv A outer s H E) body t/\t { nx:=λ_ H'=>Q .non H',rt:=Q } (start N vs) H) :
    FnOk P w K mg base CX (k+1) f (W.fnOf name qual params body scope dV kV doc pm an cdv ct) ps sp:=by
  refine⟨len,λA outer s H args us vs Q E hr e0 hb r hsp=>?_⟩;have hl:=len _ _ _ _ hsp;have KX:K.In s.heap:=e0.mod.kin.keeps λb o e=>(e0.bs b o e).1;have lim:s.heap.NoLimit:=e0.mod.nolimit.keeps λb o e=>(e0.bs b o e).1;have hkind:∀y∈ps.zip us,scope.names.lookup y.1=some .local\/(scope.names.lookup y.1=some .cell/\((cellsFrom (s.heap.objs.size+1) scope.names []).lookup y.1).isSome=true):=λ⟨n,v⟩ hy=>by
    rcases S.par n (List.of_mem_zip hy).1 with q|q
    · exact .inl q
    · exact .inr ⟨q,PySem.W.cellsFrom_some _ _ _ (.inl q)⟩
  refine codeAny_call_function hr.depth (KX _ _ lk) rfl S.co S.gen rfl (PySem.W.codeRec_of KX hcd) (hb _ _ _ _ ?_);refine wpAny_newFunctionEnv_cells S.kind hkind λenv he s1 x=>?_;subst he;refine⟨lim.keeps x.toInCall.keep,codeAny_func ?_⟩;obtain⟨t,ht,hq⟩:=hbody A outer s H vs Q E (hr.deeper _) hsp;have I:Inv (vT CX P w K mg base N qual scope f cdv A outer s H E) [] (start N vs) H s1:=zbJ S hr.hd e0 hl r x;refine wpAny_mono (ht [] s1 (start N vs) H _ I hq) (λfl s' hs=>?_) λe s' hs=>hs;have fin:∀{σ':St}{H':Hp}{v:V}{u:Value},Inv (vT CX P w K mg base N qual scope f cdv A outer s H E) [] σ' H' s'->RelV v u->Q v H'->CE outer P w H s Q u s':=
    λ{σ' H' v u} J rv q=>⟨v,H',J.os,J.bare,J.base,J.hok,rv,q⟩
  cases fl with
  |ret u=>
    obtain⟨v,σ',H',J,rv,q⟩:=hs;exact fin J rv q
  |next=>
    obtain⟨σ',H',J,q⟩:=hs;exact fin (v:=V.non) (u:=Value.none) J rfl q
  |brk=>
    obtain⟨_,_,_,q⟩:=hs;exact False.elim q
  |cont=>
    obtain⟨_,_,_,q⟩:=hs;exact False.elim q
section
variable {p:Pos}{id T:String}{r:List V->Hp->VK->Prop}
def tCB(r:List V->Hp->VK->Prop)(t:TA):TE:=λσ H Q=>t σ H λvs H1=>r vs H1 Q
theorem yd(hc:yw X (.builtin id) r)(hg:Gl X x)(hm:X.mg x=none)(hv:bootBuiltins x=some (.builtin id))(ha:PA X (e::es) t)(hn:x≠"__name__":=by decide)(hdb:(x==("__debug__":Str))=false:=by decide)
  (he:starEach (e::es) X.env=(false,eval e X.env)::starEach es X.env:=by rfl)(hpl:(backTo pos (starEach es X.env)).any (·.1)=false:=by rfl):PE X (.Call (.Name x p) (e::es) [] pos) (tCB r t):=by
 intro pins s σ H Q I h;refine mJ (vD I hg hm hv ?_ hn hdb);exact PyProof.Rows.callWith_builtin1 (thn (ha pos pins s σ H _ I h) λus s1 ⟨vs,H1,I1,r1,q1⟩=>hc pins s1 σ H1 vs us Q I1 r1 q1) he hpl
theorem yQ(hc:yw X (.type T) r)(hg:Gl X x)(hm:X.mg x=none)(hv:bootBuiltins x=some (.type T))(ha:PA X (e::es) t)(hn:x≠"__name__":=by decide)(hdb:(x==("__debug__":Str))=false:=by decide)
  (he:starEach (e::es) X.env=(false,eval e X.env)::starEach es X.env:=by rfl)(hpl:(backTo pos (starEach es X.env)).any (·.1)=false:=by rfl):PE X (.Call (.Name x p) (e::es) [] pos) (tCB r t):=by
 intro pins s σ H Q I h;refine mJ (vD I hg hm hv ?_ hn hdb);exact mh (thn (ha pos pins s σ H _ I h) λus s1 ⟨vs,H1,I1,r1,q1⟩=>hc pins s1 σ H1 vs us Q I1 r1 q1) he hpl
end
end L2
variable {K:PySem.W.Frag}{E Q:PySem.Value->PySem.Shared->Prop}{mg:PySem.Str->Option PySem.Value}{pins:List (PySem.Addr×PySem.Obj)}{w:PySem.World}{X:L2.Cx}{s:PySem.Shared}{P prog:PySem.Program}{C a f p dx:PySem.Addr}{H:L2.Hp}{ds:List PySem.PyData}{fd:PySem.FuncData}{A:PySem.Around}{pos:PySem.Pos}{es:List PySem.Expr}{x:PySem.Str}{us:List PySem.Value}{n i c:Nat}{vs:List L2.V}{e tg:PySem.Expr}{kvs:List (L2.Key×L2.V)}{b:List Nat}{u:PySem.Value}{σ:L2.St}{base h:PySem.Heap}{N:List PySem.Str}{t:L2.TA}{st:PySem.Stmt}{v:L2.V}{ta:L2.TE}
namespace HT
open PySem PyProof.Rows
section
open PySem.SeqAt
open PySem.AutoSeq1 (wpAny_loadPart')
open PySem.MeetsSeq PySem.MeetsSeq2 PySem.MeetsSeq3
end
noncomputable def sIx(n d:Nat):Option Int->Nat
 |none=>d
 |some v=>if v<0 then(v+(n:Int)).toNat else min v.toNat n
end HT
namespace L2
open PySem PySem.Spec PyProof.Rows
abbrev TO:=St->Hp->(Option Int->Hp->Prop)->Prop
def PO(X:Cx)(e:Option Expr)(t:TO):Prop:=
 ∀(pins:List (Addr×Obj)) (s:Shared) (σ:St) (H:Hp) (Q:Option Int->Hp->Prop),Inv X pins σ H s->t σ H Q->
  wpAny (model X.prog X.w) X.A (evalPart e X.env) (λu s'=>∃o H',Inv X pins σ H' s'/\IsPart u o/\Q o H') X.xe s
def J7:TO:=λ_ H Q=>Q none H
def zfy(t:TE):TO:=λσ H Q=>t σ H λx H1=>∃i,x=.int i/\Q (some i) H1
section
variable {te:TE}{lo hi:Option Expr}{tl th:TO}{p2:Pos}
theorem Z0:PO X none J7:=by
 intro pins s σ H Q I h;rw[evalPart_none];exact lE ⟨none,H,I,.none,h⟩
theorem vx(h:PE X e te):PO X (some e) (zfy te):=by
 intro pins s σ H Q I hw;rw[evalPart_some];refine thn (h pins s σ H _ I hw) λu s1 ⟨x,H1,I1,r1,q1⟩=>?_;obtain⟨i,rfl,q⟩:=q1;obtain⟨t,rfl⟩:=r1;exact⟨some i,H1,I1,.int i t,q⟩
def SlR(X:Cx)(r:V->Option Int->Option Int->Hp->VK->Prop):Prop:=
 ∀(pins:List (Addr×Obj)) (s:Shared) (σ:St) (H:Hp) (x:V) (v vl vu:Value) (lo hi:Option Int) (sl:Addr) (Q:VK),Inv X pins σ H s->RelV x v->s.heap.IsSliceOf sl vl vu .none->IsPart vl lo->IsPart vu hi->r x lo hi H Q->
  ∃T id,typeLookup (.type T) "__getitem__" =pure (some (.builtin id))/\s.TypeIs v T/\wpAny (model X.prog X.w) X.A (getItem v (.ref sl)) (EP X pins σ Q) X.xe s
def tSl(r:V->Option Int->Option Int->Hp->VK->Prop)(te:TE)(tl th:TO):TE:=λσ H Q=>te σ H λx H1=>tl σ H1 λl H2=>th σ H2 λu H3=>r x l u H3 Q
theorem vV{r:V->Option Int->Option Int->Hp->VK->Prop}(hr:SlR X r)(he:PE X e te)(hl:PO X lo tl)(hu:PO X hi th):PE X (.Subscript e (.Slice lo hi none p2) pos) (tSl r te tl th):=by
 intro pins s σ H Q I h;refine Subscript_ (thn (he pins s σ H _ I h) λv s1 ⟨x,H1,I1,r1,q1⟩=>?_);refine wpAny_Slice (thn (hl pins s1 σ H1 _ I1 q1) λvl s2 ⟨l,H2,I2,pl,q2⟩=>thn (hu pins s2 σ H2 _ I2 q2) λvu s3 ⟨u,H3,I3,pu,q3⟩=>?_);rw[evalPart_none];refine lE ?_;have I4:Inv X pins σ H3 { s3 with heap:=s3.heap.push { cls:=.type "slice",data:=.fields #[vl,vu,.none] } }:=I3.kept (t':=s3.toks) λb ob q=>l9 _ q;obtain⟨T,id,hT,ht,hg⟩:=hr pins { s3 with heap:=s3.heap.push { cls:=.type "slice",data:=.fields #[vl,vu,.none] } } σ H3 x v vl vu l u s3.heap.objs.size Q I4 r1 (Heap.IsSliceOf.new ..) pl pu q3;show wpAny (model X.prog X.w) X.A (subscriptTail e (.Slice lo hi none p2) v (.ref s3.heap.objs.size)) (EP X pins σ Q) X.xe { s3 with heap:=s3.heap.push { cls:=.type "slice",data:=.fields #[vl,vu,.none] } };exact tail_any (ops:=[.ref s3.heap.objs.size,v]) ht hT hg (by with_unfolding_all rfl)
noncomputable def XI(xs:List V)(lo hi:Option Int):List V:=(xs.drop (HT.sIx xs.length 0 lo)).take (HT.sIx xs.length xs.length hi-HT.sIx xs.length 0 lo)
theorem JD(xs:List V)(lo hi:Option Int):(XI xs lo hi).length<=xs.length:=by
 unfold XI;rw[mH,mI];omega
end
noncomputable def ixN(n:Nat)(i:Int):Option Nat:=if 0<=i then(if i<n then some i.toNat else none)else if -(n:Int)<=i then some (i+n).toNat else none
noncomputable def atI{α:Type}(xs:List α)(i:Int):Option α:=(ixN xs.length i).bind λj=>xs[j]?
theorem J8{i:Int}{j:Nat}(h:ixN n i=some j):seqIndex? i n=some j/\j<n/\-(n:Int)<=i/\i<n:=by
 unfold ixN at h;by_cases h0:0<=i
 .rw[lg h0]at h
  by_cases h1:i<n
  .rw[lg h1]at h
   have e:i.toNat=j:=lU h;exact⟨by rw[seqIndex_of h0 h1,e],by omega,by omega,h1⟩
  .rw[l8 h1]at h;cases h
 .rw[l8 h0]at h
  by_cases h1:-(n:Int)<=i
  .rw[lg h1]at h
   have e:(i+n).toNat=j:=lU h;exact⟨by rw[seqIndex_neg (by omega) h1,e],by omega,h1,by omega⟩
  .rw[l8 h1]at h;cases h
theorem XJ{α:Type}{xs:List α}{i:Int}{v:α}(h:atI xs i=some v):∃j,seqIndex? i xs.length=some j/\xs[j]? =some v/\j<xs.length/\-(xs.length:Int)<=i/\i<xs.length:=by
 unfold atI at h;cases e:ixN xs.length i with
 |none=>rw[e]at h;cases h
 |some j=>
  rw[e]at h;obtain⟨h1,h2,h3,h4⟩:=J8 e;exact⟨j,h1,h,h2,h3,h4⟩
theorem uX{α:Type}{xs:List α}{j:Nat}{v:α}(h:xs[j]? =some v):atI xs (j:Int)=some v:=by
 have hj:j<xs.length:=(lx.mp h).1;have e:ixN xs.length (j:Int)=some j:=by
  unfold ixN;rw[lg (by omega),lg (by omega)];simp
 unfold atI;rw[e];exact h
def J9(b:Expr):Prop:=∀o i,subscripted b false o i=operate [o,i] (getItem o i)
def IxR(X:Cx)(r:R2):Prop:=
 ∀(value slice:Expr) (pins:List (Addr×Obj)) (s:Shared) (σ:St) (H:Hp) (x y:V) (v u:Value) (Q:VK),Inv X pins σ H s->RelV x v->RelV y u->r x y H Q->
  subscripted slice false v u=operate [v,u] (getItem v u)->wpAny (model X.prog X.w) X.A (subscriptTail value slice v u) (EP X pins σ Q) X.xe s
def MtR(X:Cx)(id:String)(r:V->List V->Hp->VK->Prop):Prop:=
 ∀(pins:List (Addr×Obj)) (s:Shared) (σ:St) (H:Hp) (x:V) (xs:List V) (v:Value) (us:List Value) (Q:VK),Inv X pins σ H s->RelV x v->Vals xs us->r x xs H Q->
  wpAny (model X.prog X.w) X.A (call (.builtin id) (v::us)) (EP X pins σ Q) X.xe s
section
variable {a b:Expr}{tb:TE}
theorem zke{r:R2}(hr:IxR X r)(ha:PE X a ta)(hb:PE X b tb)(hs:J9 b):PE X (.Subscript a b pos) (tOp r ta tb):=by
 intro pins s σ H Q I h;exact Subscript_ (zdD ha hb I h λv u s2 x y H2 I2 rx ry q=>hr a b pins s2 σ H2 x y v u Q I2 rx ry q (hs _ _))
def K8(K:W.Frag):R2:=λx y H Q=>∃p xs i v,x=.ref p/\y=.int i/\SqL K H p xs/\atI xs i=some v/\Q v H
def zdL(K:W.Frag):R2:=λx y H Q=>∃p xs i v,x=.ref p/\y=.int i/\SqT K H p xs/\atI xs i=some v/\Q v H
def zio:R2:=λx y H Q=>∃z i c,x=.str z/\y=.int i/\z.length<=sizeLine/\atI z.cps.toList i=some c/\Q (.str ⟨#[c]⟩) H
theorem zgu:IxR X (K8 X.K):=by
 intro value slice pins s σ H x y v u Q I rx ry h hs;obtain⟨p,xs,i,z,rfl,rfl,hq,he,q⟩:=h;cases rx;obtain⟨t,rfl⟩:=ry;obtain⟨its,r,pl,hz⟩:=I.list hq;obtain⟨j,h1,h2,h3,h4,h5⟩:=XJ he;obtain⟨w,ew,rw'⟩:=r.get h2;have hl:=r.length;have hn:=u9;have fin:EP X pins σ Q w s:=⟨z,H,I,rw',q⟩;by_cases h0:0<=i
 .have hj:i.toNat=j:=by
   rw[seqIndex_of h0 h5]at h1;exact lU h1
  exact item_listR pl.isList h0 (by omega) (by rw[hj];simpa using ew) fin hs
 .have hj:(i+(its.toArray.size:Int)).toNat=j:=by
   rw[seqIndex_neg (by omega) h4]at h1;rw[lC,<-hl];exact lU h1
  exact subscriptTail_builtinR (x:=w) pl.isList.typeIs slot_list_getitem.lookup
   (wpAny_getItem_list_neg (Q:=λr s'=>r=w/\EP X pins σ Q r s') pl.isList (by omega) (by rw[lC]<;>omega) (by omega) (by rw[hj];simpa using ew) ⟨rfl,fin⟩) hs
theorem ziq:IxR X (zdL X.K):=by
 intro value slice pins s σ H x y v u Q I rx ry h hs;obtain⟨p,xs,i,z,rfl,rfl,hq,he,q⟩:=h;cases rx;obtain⟨t,rfl⟩:=ry;obtain⟨its,r,pl,hz⟩:=I.tuple hq;obtain⟨j,h1,h2,h3,h4,h5⟩:=XJ he;obtain⟨w,ew,rw'⟩:=r.get h2;have hl:=r.length;have hn:=u9;have fin:EP X pins σ Q w s:=⟨z,H,I,rw',q⟩;exact subscriptTail_builtinR (x:=w) pl.typeIs slot_tuple_getitem.lookup
  (getItem_tuple (j:=j) (Q:=λr s'=>r=w/\EP X pins σ Q r s') pl (by omega) (by omega) (by rw[lC,<-hl];exact h1) (by simpa using ew) ⟨rfl,fin⟩) hs
theorem zbK:IxR X zio:=by
  intro value slice pins s σ H x y v u Q I rx ry h hs;obtain⟨z,i,c,rfl,rfl,hz,he,q⟩:=h;obtain⟨t,rfl⟩:=rx;obtain⟨t',rfl⟩:=ry;obtain⟨j,h1,h2,h3,h4,h5⟩:=XJ he;have hl:z.cps.toList.length=z.length:=by simp[Str.length]
  rw[hl]at h1 h4 h5;have hn:=u9;exact tail_any (typeIs_str s z t) slot_str_getitem.lookup (getItem_str (c:=c) (by
    have e1:decide (i < -(2 ^ 63:Int))=false:=m5 (by omega);have e2:decide (i≥2 ^ 63)=false:=m5 (by omega);rw[e1,e2,Bool.or_false]) (by rw[h1];simpa using h2) ⟨.str ⟨#[c]⟩,H,I.tok _,⟨_,rfl⟩,q⟩) hs
theorem K9(its:List Value)(n j:Nat)(u:Value):Obj.mapSeq (·.setIfInBounds j u) { cls:=.type "list",data:=.seq its.toArray n } = { cls:=.type "list",data:=.seq (its.set j u).toArray n }:=by
 simp[Obj.mapSeq]
theorem Inv.lst{xs:List V}(I:Inv X pins σ H s)(h:H p=some (.lst xs)) :
  ∃(its:List Value) (n:Nat),Vals xs its/\s.heap.get? p=some { cls:=.type "list",data:=.seq its.toArray n }/\xs.length<=sizeLine:=by
 obtain⟨z,its,n,r,e⟩:=I.hok p _ h;exact⟨its,n,r,e,z⟩
theorem Inv.lstUpd{xs ys:List V}{its its':List Value}{n':Nat}{f:Obj->Obj}(I:Inv X pins σ H s)(h:H p=some (.lst xs))
  (ho:s.heap.get? p=some { cls:=.type "list",data:=.seq its.toArray n })(hf:f { cls:=.type "list",data:=.seq its.toArray n } = { cls:=.type "list",data:=.seq its'.toArray n' })(r:Vals ys its')(hz:ys.length<=sizeLine)(t:Nat) :
  Inv X pins σ (upd H p (.lst ys)) { s with heap:=s.heap.update p f,toks:=t }:=by
 have e:(s.heap.update p f).get? p=some { cls:=.type "list",data:=.seq its'.toArray n' }:=by
  rw[Heap.get?_update_self f ho (by rw[hf]<;>rfl),hf]
 refine I.write (x:=p) (e:=p) (by rw[h];trivial) (.inl rfl) (λb u hb q=>(lW _ _ (Ne.symm hb)).trans q) ⟨_,e⟩ ?_;exact⟨hz,its',n',r,e⟩
def zfz:V->V->V->Hp->(Hp->Prop)->Prop:=λo i v H Q=>∃p xs k j,o=.ref p/\i=.int k/\H p=some (.lst xs)/\ixN xs.length k=some j/\Q (upd H p (.lst (xs.set j v)))
theorem qd:zh8 X zfz:=by
 intro pins s σ H o i v ov iv u Q I ro ri rv h;obtain⟨p,xs,k,j,rfl,rfl,hp,hj,q⟩:=h;cases ro;obtain⟨t,rfl⟩:=ri;obtain⟨its,n,r,ho,hz⟩:=I.lst hp;obtain⟨h1,h2,h3,h4⟩:=J8 hj;have hl:=r.length;have hn:=u9;have I':Inv X pins σ (upd H p (.lst (xs.set j v))) { s with heap:=s.heap.update p (Obj.mapSeq (·.setIfInBounds j u)) }:=
  I.lstUpd hp ho (K9 its n j u) (r.set rv j) (by rw[List.length_set];exact hz) s.toks
 by_cases h0:0<=k
 .have hk:k.toNat=j:=by
   rw[seqIndex_of h0 h4]at h1;exact lU h1
  exact PySem.W.ki_setAt ho h0 (by omega) (by rw[lC,<-hl];exact h4) (by rw[hk];exact⟨_,I',q⟩)
 .have hk:(k+(its.toArray.size:Int)).toNat=j:=by
   rw[seqIndex_neg (by omega) h3]at h1;rw[lC,<-hl];exact lU h1
  exact PySem.W.ki_setBack ho (by omega) (by rw[lC,<-hl];exact h3) (by omega) (by rw[hk];exact⟨_,I',q⟩)
theorem UK(lo hi:Option Int)(n:Nat):(sliceBounds lo hi none n).1 =((HT.sIx n 0 lo:Nat):Int)/\(sliceBounds lo hi none n).2.1 =((HT.sIx n n hi:Nat):Int)/\(sliceBounds lo hi none n).2.2=1:=by
 refine⟨?_,?_,rfl⟩
 .cases lo with
  |none=>simp[sliceBounds,HT.sIx]
  |some i=>
   simp only[sliceBounds,HT.sIx,Option.getD_none,show(1:Int)>0 by decide,if_true];by_cases h:i<0
   .simp only[h,if_true]<;>omega
   .simp only[h,if_false]<;>omega
 .cases hi with
  |none=>simp[sliceBounds,HT.sIx]
  |some i=>
   simp only[sliceBounds,HT.sIx,Option.getD_none,show(1:Int)>0 by decide,if_true];by_cases h:i<0
   .simp only[h,if_true]<;>omega
   .simp only[h,if_false]<;>omega
theorem V5(its:List Value)(lo hi:Option Int):slicePick its.toArray lo hi none=((its.drop (HT.sIx its.length 0 lo)).take (HT.sIx its.length its.length hi-HT.sIx its.length 0 lo)).toArray:=by
 obtain⟨h1,h2,h3⟩:=UK lo hi its.toArray.size;unfold slicePick;rw[h1,h2,h3];simp only[sliceRange_one,pick_run,lC]<;>rfl
def zdM(K:W.Frag):V->Option Int->Option Int->Hp->VK->Prop:=λx lo hi H Q=>∃a xs,x=.ref a/\SqL K H a xs/\∀p,H p=none->Q (.ref p) (upd H p (.lst (XI xs lo hi)))
theorem zgv:SlR X (zdM X.K):=by
 intro pins s σ H x v vl vu lo hi sl Q I rx hs pl pu h;obtain⟨a,xs,rfl,hx,q⟩:=h;cases rx;obtain⟨its,r,ht,hz⟩:=I.list hx;have hlen:=r.length;refine⟨"list",_,slot_list_getitem.lookup,ht.isList.typeIs,?_⟩;refine wpAny_getItem_list_slice ht.isList hs pl pu .none (by simp) ?_ (by rw[lC]<;>omega);rw[V5,<-hlen];refine⟨.ref s.heap.objs.size,_,I.laid (t':=s.toks) (o:=.lst (XI xs lo hi)) (λb ob q=>l9 _ q) (lp _) ?_,rfl,q _ (I.hok.fresh (lp _))⟩;exact⟨lT (JD xs lo hi) hz,_,0,(r.drop (HT.sIx xs.length 0 lo)).take (HT.sIx xs.length xs.length hi-HT.sIx xs.length 0 lo),ly _ rfl⟩
noncomputable def uT:V->Bool
 |.non=>true
 |.bl _=>true
 |.int _=>true
 |.str _=>true
 |_=>false
noncomputable def eqV:V->V->Bool
 |.non,.non=>true
 |.bl a,.bl b=>a==b
 |.bl a,.int b=>(if a then 1 else 0)==b
 |.int a,.bl b=>a==(if b then 1 else 0)
 |.int a,.int b=>a==b
 |.str a,.str b=>a==b
 |_,_=>false
theorem zir{y x:V}{v:Value}(ry:RelV y u)(rx:RelV x v)(fy:uT y=true)(fx:uT x=true):SeqAt.EqAt A s u v (eqV y x):=by
 cases y with
 |non=>
  cases ry;cases x with
  |non=>cases rx;exact SeqAt.EqAt.same _
  |bl b=>cases rx;exact SeqAt.EqAt.none_bool b
  |int b=>obtain⟨t,rfl⟩:=rx;exact SeqAt.EqAt.none_int b t
  |str b=>obtain⟨t,rfl⟩:=rx;exact SeqAt.EqAt.none_str b t
  |_=>exact absurd (show false=true from fx) lP
 |bl a=>
  cases ry;cases x with
  |non=>cases rx;exact SeqAt.EqAt.bool_none a
  |bl b=>cases rx;exact SeqAt.EqAt.bool_bool a b
  |int b=>obtain⟨t,rfl⟩:=rx;exact SeqAt.EqAt.bool_int a b t
  |str b=>obtain⟨t,rfl⟩:=rx;exact SeqAt.EqAt.bool_str a b t
  |_=>exact absurd (show false=true from fx) lP
 |int a=>
  obtain⟨t',rfl⟩:=ry;cases x with
  |non=>cases rx;exact SeqAt.EqAt.int_none a t'
  |bl b=>cases rx;exact SeqAt.EqAt.int_bool a t' b
  |int b=>obtain⟨t,rfl⟩:=rx;exact SeqAt.EqAt.int_int a t' b t
  |str b=>obtain⟨t,rfl⟩:=rx;exact SeqAt.EqAt.int_str a t' b t
  |_=>exact absurd (show false=true from fx) lP
 |str a=>
  obtain⟨t',rfl⟩:=ry;cases x with
  |non=>cases rx;exact SeqAt.EqAt.str_none a t'
  |bl b=>cases rx;exact SeqAt.EqAt.str_bool a t' b
  |int b=>obtain⟨t,rfl⟩:=rx;exact SeqAt.EqAt.str_int a t' b t
  |str b=>obtain⟨t,rfl⟩:=rx;exact SeqAt.EqAt.str_str a t' b t
  |_=>exact absurd (show false=true from fx) lP
 |_=>exact absurd (show false=true from fy) lP
noncomputable def eqU(x:V)(u:Value):Bool:=match u with
 |.none=>eqV .non x
 |.bool b=>eqV (.bl b) x
 |.int i _=>eqV (.int i) x
 |.str z _=>eqV (.str z) x
 |_=>false
theorem zbL{x y:V}(r:RelV y u)(f:uT y=true):eqU x u=eqV y x:=by
 cases y with
 |non=>cases r;rfl
 |bl b=>cases r;rfl
 |int i=>obtain⟨t,rfl⟩:=r;rfl
 |str z=>obtain⟨t,rfl⟩:=r;rfl
 |_=>exact absurd (show false=true from f) lP
theorem XL{x:V}:∀{xs:List V}{us:List Value},Vals xs us->xs.all uT=true->us.any (eqU x)=xs.any λy=>eqV y x
 |_,_,.nil,_=>rfl
 |y::xs,u::us,.cons r t,f=>by
  rw[List.all_cons,Bool.and_eq_true]at f;rw[mF,mF,zbL r f.1,XL t f.2]
theorem Yt{x:V}{v:Value}(rx:RelV x v)(fx:uT x=true):∀{xs:List V}{us:List Value},Vals xs us->xs.all uT=true->∀u∈us,SeqAt.EqAt A s u v (eqU x u)
 |_,_,.nil,_=>λu hu=>by cases hu
 |y::xs,u::us,.cons r t,f=>λu' hu=>by
  rw[List.all_cons,Bool.and_eq_true]at f;rcases lm.mp hu with rfl|hu
  .rw[zbL r f.1];exact zir r rx f.1 fx
  .exact Yt rx fx t f.2 u' hu
noncomputable def inV(x:V)(xs:List V):Bool:=xs.any λy=>eqV y x
def rIn(K:W.Frag)(neg:Bool):R2:=λx y H Q=>∃p xs,y=.ref p/\(SqL K H p xs\/SqT K H p xs)/\uT x=true/\xs.all uT=true/\Q (.bl (if neg then !inV x xs else inV x xs)) H
theorem zbM:OpR X (compareOp .In) (rIn X.K false):=by
 intro pins s σ H x y v u Q I rx ry h;obtain⟨p,xs,rfl,hq,fx,fs,q⟩:=h;cases ry;rcases hq with hq|hq
 .obtain⟨its,r,pl,hz⟩:=I.list hq
  refine SeqAt.in_listAt (eqU x) pl.isList (λw hw=>Yt rx fx r fs w (by simpa using hw)) ⟨.bl _,H,I,rfl,?_⟩;rw[show its.toArray.any (eqU x)=its.any (eqU x)by simp,XL r fs];exact q
 .obtain⟨its,r,pl,hz⟩:=I.tuple hq
  refine SeqAt.in_tupleAt (eqU x) pl (λw hw=>Yt rx fx r fs w (by simpa using hw)) ⟨.bl _,H,I,rfl,?_⟩;rw[show its.toArray.any (eqU x)=its.any (eqU x)by simp,XL r fs];exact q
theorem UL:yw X (.builtin "len") (λxs H Q=>∃p ys,xs=[.ref p]/\(SqL X.K H p ys\/SqT X.K H p ys)/\Q (.int ys.length) H):=by
 intro pins s σ H xs us Q I r h;obtain⟨p,ys,rfl,hq,q⟩:=h;obtain⟨u,rfl,rx⟩:=jR r;cases rx;have hn:=u9;rcases hq with hq|hq
 .obtain⟨its,r',pl,hz⟩:=I.list hq
  have hlen:=r'.length;exact Calls.call_len_list pl.isList (by simp only[lC]<;>omega) ⟨.int ys.length,H,I.tok _,⟨s.toks+1,by rw[lC,hlen]⟩,q⟩
 .obtain⟨its,r',pl,hz⟩:=I.tuple hq
  have hlen:=r'.length;exact len_tuple pl (by simp only[lC]<;>omega) ⟨.int ys.length,H,I.tok _,⟨s.toks+1,by rw[lC,hlen]⟩,q⟩
theorem qe:yw X (.builtin "len") (λxs H Q=>∃z,xs=[.str z]/\z.length<=sizeLine/\Q (.int z.length) H):=by
 intro pins s σ H xs us Q I r h;obtain⟨z,rfl,hz,q⟩:=h;obtain⟨u,rfl,t,rfl⟩:=jR r;have hn:=u9;exact len_str (by omega) ⟨.int z.length,H,I.tok _,⟨_,rfl⟩,q⟩
theorem UM:yw X (.type "list") (λxs H Q=>∃p ys,xs=[.ref p]/\(SqL X.K H p ys\/SqT X.K H p ys)/\∀l,H l=none->Q (.ref l) (upd H l (.lst ys))):=by
 intro pins s σ H xs us Q I r h;obtain⟨p,ys,rfl,hq,q⟩:=h;obtain⟨u,rfl,rx⟩:=jR r;cases rx;have fin:∀(its:List Value),Vals ys its->ys.length<=sizeLine->∀(h':Heap) (c':Nat),(∀b o',s.heap.get? b=some o'->h'.get? b=some o')->
   h'.get? s.heap.objs.size=some { cls:=.type "list",dict:=none,data:=.seq its.toArray c',slots:=#[] }->EP X pins σ Q (.ref s.heap.objs.size) { s with heap:=h' }:=λits r' hz h' c' kp e=>
  ⟨.ref s.heap.objs.size,_,I.laid (t':=s.toks) kp (lp _) (show yr X.prog X.w _ h' _ (.lst ys)from⟨hz,its,c',r',e⟩),rfl,q _ (I.hok.fresh (lp _))⟩
 rcases hq with hq|hq
 .obtain⟨its,r',pl,hz⟩:=I.list hq
  have hlen:=r'.length;obtain⟨o,ho,hc,n,hd⟩:=pl.isList;exact call_list_seq p (.inl rfl) ho hc hd (λh' c' kp e=>fin its r' hz h' c' kp e) (by simp only[lC]<;>omega)
 .obtain⟨its,r',pl,hz⟩:=I.tuple hq
  have hlen:=r'.length;obtain⟨o,ho,hc,n,hd⟩:=pl;exact call_list_seq p (.inr rfl) ho hc hd (λh' c' kp e=>fin its r' hz h' c' kp e) (by simp only[lC]<;>omega)
theorem V6:yw X (.type "tuple") (λxs H Q=>∃p ys,xs=[.ref p]/\((SqL X.K H p ys/\∀l,H l=none->Q (.ref l) (upd H l (.tup ys)))\/(SqT X.K H p ys/\Q (.ref p) H))):=by
 intro pins s σ H xs us Q I r h;obtain⟨p,ys,rfl,h⟩:=h;obtain⟨u,rfl,rx⟩:=jR r;cases rx;rcases h with⟨hq,q⟩|⟨hq,q⟩
 .obtain⟨its,r',pl,hz⟩:=I.list hq
  have hlen:=r'.length;refine call_tuple_list pl.isList (λh' kp=>?_) (by simp only[lC]<;>omega);have I1:Inv X pins σ H { s with heap:=h' }:=I.kept (t':=s.toks) kp;have I2:Inv X pins σ (upd H h'.objs.size (.tup ys)) { s with heap:=h'.push { cls:=.type "tuple",data:=.seq its.toArray } }:=
   I1.laid (t':=s.toks) (λb o e=>l9 _ e) (lp _) (show yr X.prog X.w _ _ _ (.tup ys)from⟨hz,its,r',IsTup.new _ _⟩)
  exact⟨.ref h'.objs.size,_,I2,rfl,q _ (I1.hok.fresh (lp _))⟩
 .obtain⟨its,r',pl,hz⟩:=I.tuple hq
  exact call_tuple_same pl ⟨.ref p,H,I,rfl,q⟩
def tyV(K:W.Frag)(T:String)(x:V)(H:Hp):Prop:=match x with
 |.str _=>T= "str"
 |.int _=>T= "int"
 |.ref p=>(T= "list"/\∃xs,SqL K H p xs)\/(T= "tuple"/\∃o,K.lookup p=some o/\o.cls=.type "tuple"/\o.dict=none)\/
   (T= "dict"/\((∃kvs,H p=some (.dK kvs))\/∃kvs,H p=some (.dT kvs)))\/(T= "set"/\∃S n,H p=some (.set S n))
 |_=>False
theorem zbN{T:String}{x:V}{v:Value}(I:Inv X pins σ H s)(r:RelV x v)(ty:tyV X.K T x H) :
  s.TypeIs v T/\∀a,v=.ref a->∃ob,s.heap.get? a=some ob/\ob.dict=none:=by
 cases x with
 |str z=>
  obtain⟨t,rfl⟩:=r;cases(show T= "str" from ty);exact⟨typeIs_str s z t,λ_ e=>nomatch e⟩
 |int i=>
  obtain⟨t,rfl⟩:=r;cases(show T= "int" from ty);exact⟨typeIs_int s i t,λ_ e=>nomatch e⟩
 |ref p=>
  cases r;rcases ty with⟨rfl,xs,hq⟩|⟨rfl,o,hk,hc,hd⟩|⟨rfl,hk⟩|⟨rfl,S,n,hk⟩
  .obtain⟨its,_,pl,_⟩:=I.list hq
   refine⟨pl.isList.typeIs,λa e=>?_⟩;cases e;obtain⟨o,n,e,c,hd,_⟩:=pl;exact⟨o,e,hd⟩
  .refine⟨⟨o,I.kIn p o hk,hc⟩,λa e=>?_⟩
   cases e;exact⟨o,I.kIn _ o hk,hd⟩
  .have z:∃o,s.heap.get? p=some o/\o.ExactDict:=by
    rcases hk with⟨kvs,hk⟩|⟨kvs,hk⟩
    .obtain⟨_,_,_,_,o,_,_,e,ex,_⟩:=I.hok p _ hk
     exact⟨o,e,ex⟩
    .obtain⟨_,_,_,_,o,_,_,e,ex,_⟩:=I.hok p _ hk
     exact⟨o,e,ex⟩
   obtain⟨o,e,ex⟩:=z;refine⟨⟨o,e,ex.1⟩,λa e2=>?_⟩;cases e2;exact⟨o,e,ex.2.1⟩
  .obtain⟨o,_,_,_,e,ex,_⟩:=I.hok p _ hk
   refine⟨⟨o,e,ex.1⟩,λa e2=>?_⟩;cases e2;exact⟨o,e,ex.2.1⟩
 |_=>exact False.elim ty
def zdN(K:W.Frag)(T:String)(r:V->List V->Hp->VK->Prop)(to:TE):TE:=λσ H Q=>to σ H λx H1=>tyV K T x H1/\r x [] H1 Q
def tBM(K:W.Frag)(T:String)(r:V->List V->Hp->VK->Prop)(to:TE)(t:TA):TE:=λσ H Q=>to σ H λx H1=>tyV K T x H1/\t σ H1 λxs H2=>r x xs H2 Q
variable {o:Expr}{to:TE}{name:Str}{apos cpos:Pos}{T id:String}{r:V->List V->Hp->VK->Prop}
theorem zis(pa:PlainAttrs T)(slot:Slot T name id)(hty:typeOf (.builtin id)=pure (.type "method_descriptor"))(hm:MtR X id r)(ho:PE X o to)
  (hbase:attributeBase o name X.env (eval o X.env)=eval o X.env:=by rfl)(hline:(apos.endLine==cpos.line)=true:=by rfl):PE X (.Call (.Attribute o name apos) [] [] cpos) (zdN X.K T r to):=by
 intro pins s σ H Q I h;refine wpAny_Call_method0_late hbase hline (thn (ho pins s σ H _ I h) λv s1 ⟨x,H1,I1,r1,ty,q1⟩=>?_);obtain⟨h1,h2⟩:=zbN I1 r1 ty;exact⟨T,id,pa,slot,hty,h1,h2,my rfl (PySem.evalArgs_none (hm pins s1 σ H1 x [] v [] Q I1 r1 .nil q1))⟩
theorem zkf(pa:PlainAttrs T)(slot:Slot T name id)(hty:typeOf (.builtin id)=pure (.type "method_descriptor"))(hm:MtR X id r)(ho:PE X o to)(ha:PA X (e::es) t)
    (hbase:attributeBase o name X.env (eval o X.env)=eval o X.env:=by rfl)
    (hfew:((backTo cpos (starEach (e :: es) X.env)).all (fun x=>!x.1) && (backToKw cpos (keywordEach [] X.env)).all (fun x=>x.1.isSome)
      && decide ((e::es).length+([]:List Keyword).length+(if([]:List Keyword).isEmpty then 0 else 1)<30))=true:=by rfl)
    (hline:(apos.endLine==cpos.line)=true:=by rfl)(hs:starEach (e::es) X.env=(false,eval e X.env)::starEach es X.env:=by rfl)(hplain:(backTo cpos (starEach es X.env)).any (·.1)=false:=by rfl) :
    PE X (.Call (.Attribute o name apos) (e::es) [] cpos) (tBM X.K T r to t):=by
  intro pins s σ H Q I h;refine wpAny_Call_method_late hbase hfew hline rfl (thn (ho pins s σ H _ I h) λv s1 ⟨x,H1,I1,r1,ty,q1⟩=>?_);obtain⟨h1,h2⟩:=zbN I1 r1 ty;refine⟨T,id,pa,slot,hty,h1,h2,?_⟩;have hA:=ha cpos pins s1 σ H1 _ I1 q1;rw[hs]at hA ⊢;refine my (by show(false||(backTo cpos (starEach es X.env)).any (·.1))=false;rw[hplain]<;>rfl) (Calls.evalArgs_plain ?_);exact thn hA λus s2 ⟨vs,H2,I2,r2,q2⟩=>hm pins s2 σ H2 x vs v us Q I2 r1 r2 q2
end
def MtM(X:Cx)(id:String)(r:V->List V->Hp->VK->Prop):Prop:=
 ∀(pins:List (Addr×Obj)) (s:Shared) (σ:St) (H:Hp) (x:V) (xs:List V) (v:Value) (us:List Value) (Q:VK),Inv X pins σ H s->RelV x v->Vals xs us->r x xs H Q->
  wpAny (model X.prog X.w) X.A (call (.builtin id) (v::us)) (EP X pins σ Q) X.xe s
theorem Vals.one:∀{x:V}{us:List Value},Vals [x] us->∃u,us=[u]/\RelV x u
 |_,_,.cons r .nil=>⟨_,rfl,r⟩
theorem Vals.two:∀{x y:V}{us:List Value},Vals [x,y] us->∃u v,us=[u,v]/\RelV x u/\RelV y v
 |_,_,_,.cons r (.cons q .nil)=>⟨_,_,rfl,r,q⟩
theorem Vals.zero:∀{us:List Value},Vals [] us->us=[]
 |_,.nil=>rfl
theorem Vals.dropLast{xs:List V}(h:Vals xs us):Vals xs.dropLast us.dropLast:=by
 induction h with
 |nil=>exact .nil
 |cons r t ih=>
  cases t with
  |nil=>exact .nil
  |cons q t'=>exact .cons r ih
theorem Vals.eraseIdx:∀{xs:List V}{us:List Value}(i:Nat),Vals xs us->Vals (xs.eraseIdx i) (us.eraseIdx i)
 |_,_,_,.nil=>.nil
 |_,_,0,.cons _ t=>t
 |_,_,i+1,.cons r t=>.cons r (Vals.eraseIdx i t)
theorem zaa{α:Type}(l:List α):l.eraseIdx (l.length-1)=l.dropLast:=by
 induction l with
 |nil=>rfl
 |cons a r ih=>
  cases r with
  |nil=>rfl
  |cons b r=>
   have e:(a::b::r).length-1 =((b::r).length-1)+1:=by
    have h1:(a::b::r).length=r.length+2:=rfl;have h2:(b::r).length=r.length+1:=rfl;omega
   rw[e,List.eraseIdx_cons_succ,ih]
   all_goals rfl
theorem VE{α:Type}:∀(l:List α) (i:Nat),(l.eraseIdx i).length<=l.length
 |[],_=>lp _
 |_::_,0=>Nat.le_succ _
 |_::r,i+1=>Nat.succ_le_succ (VE r i)
section
variable {l b:Addr}{xs ys zs:List V}
theorem Inv.lset{its its':List Value}{f:Array Value->Array Value}{t':Nat}(I:Inv X pins σ H s)(hH:H l=some (.lst xs))
  (e:s.heap.get? l=some { cls:=.type "list",data:=.seq its.toArray n })(hf:f its.toArray=its'.toArray)(hv:Vals ys its')(hz:ys.length<=sizeLine) :
  Inv X pins σ (upd H l (.lst ys)) { s with heap:=s.heap.update l (Obj.mapSeq f),toks:=t' }:=by
 have q:=PySem.IsL.update e f;rw[hf]at q;refine I.write (x:=l) (e:=l) (by rw[hH];exact trivial) (.inl rfl) (λb' u hb hu=>(lW s.heap (Obj.mapSeq f) (Ne.symm hb)).trans hu) ⟨_,q⟩ ?_;exact⟨hz,its',_,hv,q⟩
theorem Inv.lnew{its:List Value}{t':Nat}(I:Inv X pins σ H s)(hv:Vals ys its)(hz:ys.length<=sizeLine) :
  Inv X pins σ (upd H s.heap.objs.size (.lst ys)) { s with heap:=s.heap.push { cls:=.type "list",data:=.seq its.toArray },toks:=t' }:=
 I.laid (λ_ _ q=>l9 _ q) (lp _) ⟨hz,its,0,hv,ly _ rfl⟩
theorem Inv.fresh(I:Inv X pins σ H s):H s.heap.objs.size=none:=I.hok.fresh (lp _)
theorem Inv.lstM(I:Inv X pins σ H s)(hH:H l=some (.lst xs)):xs.length<=sizeLine/\∃(its:List Value) (n:Nat),Vals xs its/\xs.length=its.length/\s.heap.get? l=some { cls:=.type "list",data:=.seq its.toArray n }:=by
 obtain⟨z,its,n,r,e⟩:=I.hok l _ hH;exact⟨z,its,n,r,r.length,e⟩
theorem zdO(h:n<=sizeLine):Builtin.List.listTooLong n=false:=by
 unfold Builtin.List.listTooLong;exact m5 (by omega)
end
def Z1:V->List V->Hp->VK->Prop:=λx vs H Q=>∃l xs y,x=.ref l/\vs=[y]/\H l=some (.lst xs)/\xs.length<sizeLine/\Q .non (upd H l (.lst (xs++[y])))
theorem y7:MtM X "list.append" Z1:=by
 intro pins s σ H x vs v us Q I rx rv h;obtain⟨l,xs,y,rfl,rfl,hH,hz,q⟩:=h;cases rx;obtain⟨u,rfl,ru⟩:=rv.one;obtain⟨z,its,n,r,hl,e⟩:=I.lstM hH;refine call_meets F.slot_list_append ⟨_,e,rfl⟩ F.entry_list_append (F.args_list_append_2 _ _) (PySem.list_append l its.toArray n u (by rw[lC];omega)) ⟨e,?_⟩;refine⟨.non,_,I.lset (its':=its++[u]) hH e (by simp) (r.append (.cons ru .nil)) ?_,rfl,q⟩;rw[lI,List.length_singleton];omega
def Ka:V->List V->Hp->VK->Prop:=λx vs H Q=>∃l b xs zs,x=.ref l/\vs=[.ref b]/\H l=some (.lst xs)/\H b=some (.lst zs)/\xs.length+zs.length<=sizeLine/\Q .non (upd H l (.lst (xs++zs)))
theorem VF:MtM X "list.extend" Ka:=by
 intro pins s σ H x vs v us Q I rx rv h;obtain⟨l,b,xs,zs,rfl,rfl,hH,hB,hz,q⟩:=h;cases rx;obtain⟨u,rfl,ru⟩:=rv.one;cases ru;obtain⟨z,its,n,r,hl,e⟩:=I.lstM hH;obtain⟨z2,its2,n2,r2,hl2,e2⟩:=I.lstM hB;have hsz:its.toArray.size+its2.toArray.size<=sizeLine:=by rw[lC,lC];omega
 have hlong:¬(!its.toArray.isEmpty&&Builtin.List.listTooLong (its.toArray.size+its2.toArray.size))=true:=by
  rw[zdO hsz,Bool.and_false];exact lP
 refine call_meets F.slot_list_extend ⟨_,e,rfl⟩ F.entry_list_extend (F.args_list_extend_2 _ _)
  (AutoSeq1.list_extend_list_list_0 l its.toArray n b its2.toArray n2 hlong (by rw[lC];omega) (by omega)) ⟨e,e2,?_⟩
 refine⟨.non,_,I.lset (its':=its++its2) hH e (by simp) (r.append r2) ?_,rfl,q⟩;rw[lI];omega
def zit:V->List V->Hp->VK->Prop:=λx vs H Q=>∃l xs y,x=.ref l/\vs=[]/\H l=some (.lst xs)/\xs[xs.length-1]? =some y/\Q y (upd H l (.lst xs.dropLast))
theorem ziu:MtM X "list.pop" zit:=by
 intro pins s σ H x vs v us Q I rx rv h;obtain⟨l,xs,y,rfl,rfl,hH,hy,q⟩:=h;cases rx;have hus:=rv.zero;subst hus;obtain⟨z,its,n,r,hl,e⟩:=I.lstM hH;obtain⟨u,hu,ru⟩:=r.get hy;have hy':its.toArray[its.toArray.size-1]? =some u:=by
  show its.toArray[its.length-1]? =some u;rw[<-Array.getElem?_toList,<-hl];exact hu
 refine call_meets F.slot_list_pop ⟨_,e,rfl⟩ F.entry_list_pop (F.args_list_pop_1 _) (MeetsSeq.list_pop_last l its.toArray n u hy' (by rw[lC];omega)) ⟨e,?_⟩;refine⟨y,_,I.lset (its':=its.dropLast) hH e ?_ r.dropLast ?_,ru,q⟩
 .show its.toArray.eraseIdxIfInBounds (its.toArray.size-1)=its.dropLast.toArray
  rw[lC,List.eraseIdxIfInBounds_toArray,zaa]
 .rw[List.length_dropLast]
  omega
def zbO:V->List V->Hp->VK->Prop:=λx vs H Q=>∃l xs i k y,x=.ref l/\vs=[.int i]/\H l=some (.lst xs)/\-(2 ^ 63)<=i/\i<2 ^ 63/\seqIndex? i xs.length=some k/\xs[k]? =some y/\Q y (upd H l (.lst (xs.eraseIdx k)))
theorem zdP:MtM X "list.pop" zbO:=by
 intro pins s σ H x vs v us Q I rx rv h;obtain⟨l,xs,i,k,y,rfl,rfl,hH,h1,h2,hk,hy,q⟩:=h;cases rx;obtain⟨u,rfl,ru⟩:=rv.one;obtain⟨t,rfl⟩:=ru;obtain⟨z,its,n,r,hl,e⟩:=I.lstM hH;obtain⟨w,hw,rw'⟩:=r.get hy;refine call_meets F.slot_list_pop ⟨_,e,rfl⟩ F.entry_list_pop (F.args_list_pop_2 _ _)
  (MeetsSeq.list_pop_at l its.toArray n i t k w (fitsIndex_both h1 h2) (by rw[lC,<-hl];exact hk) (by rw[<-Array.getElem?_toList];exact hw) (by rw[lC];omega)) ⟨e,?_⟩
 refine⟨y,_,I.lset (its':=its.eraseIdx k) hH e ?_ (r.eraseIdx k) ?_,rw',q⟩
 .show its.toArray.eraseIdxIfInBounds k=(its.eraseIdx k).toArray
  rw[List.eraseIdxIfInBounds_toArray]
 .have:=VE xs k
  omega
end L2
namespace Att
open PySem PySem.W PySem.Calls PyProof.Rows
theorem YZ{P:Params}:∀(ns:List Int) (vs:List Value),WellAll P h vs (ns.map WData.int)->IntsAre vs ns:=by
 intro ns
 induction ns with
 |nil=>
  intro vs w;rw[List.map_nil]at w;cases w;exact .nil
 |cons n ns ih=>
  intro vs w;rw[lG]at w;cases w with
  |cons a b=>
   cases a;exact .cons _ _ (ih _ b)
theorem zbP{l:OpenLaw}(hn:l.most=some n){P:Params}{args:List WData}{vals:List Value}
  (hpre:l.row.toRowW.claim.pre args=true)(hwl:WellAll P h vals args) :
  ∃a vs ns,vals=[Value.ref a]/\args=[WData.list (ns.map WData.int)]/\h.get? a=some { cls:=.type "list",data:=.seq vs.toArray }/\IntsAre vs ns/\ns.length<=n:=by
 have hsh:WShape.hasAll [] args [.list .int]=true:=(pre_splitW hpre).1;have hc:l.pre.holds [] { args:=args } =true:=(pre_splitW hpre).2;obtain⟨d,r,rfl,h1,h2⟩:=hasAllW_cons hsh;obtain rfl:=hasAllW_nil h2;obtain⟨xs,rfl,h3⟩:=hasW_list h1;obtain⟨ns,rfl⟩:=items_int h3;have hlen:ns.length<=n:=by
  unfold OpenLaw.pre at hc;have h4:(WTm.not (.lt (.lit (.int (n:Int))) (.len (.arg 0)))).holds [] { args:=[.list (ns.map .int)] } =true:=by
   have h4:=(holds_andW hc).1;rw[hn]at h4;exact h4
  have h5:=condW_of h4 (w_not (w_lt w_lit (w_len_list (w_arg rfl))));rw[l6]at h5;refine Nat.le_of_not_lt λq=>?_;have q':(n:Int)<((ns.length:Nat):Int):=by omega
  first
   |(rw[lQ q']at h5;exact absurd h5 (by decide))
   |(simp at h5;omega)
 cases hwl with
 |cons w1 w2=>
  cases w2;cases w1 with
  |list ho hall=>exact⟨_,_,ns,rfl,rfl,ho,YZ ns _ hall,hlen⟩
theorem zbQ(l:OpenLaw)(args:List WData):l.row.toRowW.claim.post args (.bool true) args=true:=
 postW_of (r:=l.row.toRowW) (X:=(true==true))
  (show WShape.has [] (.bool true) .bool=true by first|rfl|decide|simp[WShape.has,WShape.arms,WShape.armsAll])
  (show(WTm.eq .res (.lit (.bool true))).value [] { args:=args,res:=some (.bool true),after:=args } =some (.bool (true==true))from w_eq_bool (w_res rfl) w_lit) rfl
section
variable {K:Frag}
noncomputable def zlV(h:Heap)(L d:Addr):List (Addr×Obj):=(List.range h.objs.size).filterMap λa=>if a=L\/a=d then none else(h.get? a).map λo=>(a,o)
end
end Att
namespace L2
open PySem PySem.Spec PyProof.Rows
theorem qK:∀{vs:List Value}{ns:List Int},IntsAre vs ns->Vals (ns.map V.int) vs
 |_,_,.nil=>.nil
 |_,_,.cons n t h=>.cons ⟨t,rfl⟩ (qK h)
def ziv(H:Hp):Prop:=∀b,H b=none\/∃o xs,H b=some (.frz o (.lst xs))
theorem zdQ{mb:Str->Option Value}{CX:CXT}{k:Nat}{fa:Addr}{sp:Sp}{s₁:Shared}{vs:List Value}{ns:List Int}
    (KX:K.In s₁.heap)(hns:s₁.heap.Ns mainGlobals mg)(hb:s₁.heap.Ns builtinsNs mb)(hbb:∀x:Str,x≠"__name__"->mb x=bootBuiltins x)(hlim:s₁.heap.NoLimit)(hg:s₁.gens= #[])
    (ha:s₁.heap.get? a=some { cls:=.type "list",data:=.seq vs.toArray })(hi:IntsAre vs ns)(hl:ns.length<=sizeLine)(hr:Room k callerA)
    (F:∀base:Heap,K.In base->base.Ns mainGlobals mg->FnOk P w K mg base CX k fa fd [x] sp)(hbind:∀(s:Shared) (u:Value),BindsTo s fd ⟨[u],[]⟩ [(x,u)])
    (hsp:∀H:Hp,ziv H->SqL K H a (ns.map V.int)->sp [.ref a] H (λv _=>v=.bl true) λ_ _ _=>False)
    (hCX:∀H e s',CX [] H s₁ (λ_ _ _=>False) e s'->False) :
    codeAny (model P w) callerA (.call (.ref fa) ⟨[.ref a],[]⟩) (λr s'=>r=.ok (.ret (.bool true))/\OldK s₁.heap s'.heap/\s'.os=s₁.os/\AllBare s'.gens) s₁:=by
  have rv:=qK hi;have lenV:=hi.length;have core:∀H:Hp,ziv H->SqL K H a (ns.map V.int)->HOk P w H s₁.heap->(∀b,H b≠none->b=a)->(H a≠none->K.lookup a=none)->
      codeAny (model P w) callerA (.call (.ref fa) ⟨[.ref a],[]⟩) (λr s'=>r=.ok (.ret (.bool true))/\OldK s₁.heap s'.heap/\s'.os=s₁.os/\AllBare s'.gens) s₁:=by
    intro H hO hS hok hA hK;have base_of:∀{b:Addr}{o:Obj},s₁.heap.get? b=some o->H b=none->(jP s₁.heap H).get? b=some o:=λe n=>zdy e n;have noA:∀{b:Addr}{o:Obj}{es:Array DictEntry}{ep:Nat},s₁.heap.get? b=some o->o.data=.dict es ep->H b=none:=λ{b o es ep} e d=>by
      cases q:H b with
      |none=>rfl
      |some u=>
        have e':b=a:=hA b (by rw[q];simp);subst e';rw[ha]at e;cases e;have d':Data.seq vs.toArray _=Data.dict es ep:=d;cases d'
    have nsK:∀{b:Addr}{m:Str->Option Value},s₁.heap.Ns b m->(jP s₁.heap H).Ns b m:=λ{b m} ⟨o,es,ep,e,d,r⟩=>⟨o,es,ep,base_of e (noA e d),d,r⟩;have hKb:K.In (jP s₁.heap H):=fun b o e=>base_of (KX b o e) (by
      cases q:H b with
      |none=>rfl
      |some u=>
        have e':b=a:=hA b (by rw[q];simp);subst e';rw[hK (by rw[q];simp)]at e;cases e)
    have hM:Mod K mg (jP s₁.heap H):=⟨hKb,nsK hns,⟨mb,nsK hb,hbb⟩,let⟨mc,h1,h2⟩:=hlim;⟨mc,nsK h1,h2⟩⟩;have e0:Env0 P w K mg (jP s₁.heap H) callerA [] s₁ H:=⟨rfl,hM,λb o e=>zgj e,Nat.le_of_eq (zbv _ _),trivial,λb hb=>absurd (show b∈([]:List Addr)from hb) (by simp),hok,.of_eq hg⟩;refine codeAny_mono ((F _ hKb (nsK hns)).run callerA [] s₁ H ⟨[.ref a],[]⟩ [.ref a] [.ref a] _ _ hr e0 (hbind s₁ (.ref a)) (.cons rfl .nil) (hsp H hO hS)) λr s' h=>?_;cases r with
    |error e=>exact(hCX H e s' h).elim
    |ok fl=>
      cases fl with
      |next=>exact False.elim h
      |brk=>exact False.elim h
      |cont=>exact False.elim h
      |ret u=>
        obtain⟨v,H',os,bare,un,hok',r',q⟩:=h;have q':v=.bl true:=q;subst q';obtain rfl:u=Value.bool true:=r';refine⟨rfl,OldK.of_keep λb o e=>?_,os,bare⟩;cases q:H b with
        |none=>exact un.keep b o e q (by intro z;exact absurd (show b∈([]:List Addr)from z) (by simp)) (by simp)
        |some u=>
          rcases hO b with z|⟨ob,xs,z⟩
          · rw[q]at z;cases z
          · have z2:=un.frzs b ob _ z
            obtain⟨e1,_⟩:=hok b _ z;obtain⟨e2,_⟩:=hok' b _ z2;rw[e]at e1;cases e1;exact e2
  cases hk:K.lookup a with
  |some o=>
    have e:=KX a o hk;rw[ha]at e;cases e;refine core (λ_=>none) (λ_=>.inl rfl) (.inr ⟨_,vs.toArray,_,hk,rfl,rfl,rfl,by rw[lC,lenV];exact hl,by simpa using rv⟩) (λb u z=>by have z':(none:Option HO)=some u:=z;cases z') (λb z=>absurd rfl z) λz=>absurd rfl z
  |none=>
    refine core (λb=>if b=a then some (.frz { cls:=.type "list",data:=.seq vs.toArray } (.lst (ns.map V.int)))else none) (λb=>?_) (.inl (.inr ⟨{ cls:=.type "list",data:=.seq vs.toArray },lg rfl⟩)) (λb u z=>?_) (λb z=>?_) λ_=>hk
    · by_cases hb:b=a
      · exact .inr ⟨_,_,lg hb⟩
      · exact .inl (l8 hb)
    · by_cases hb:b=a
      · have z':=(lg hb).symm.trans z
        cases z';subst hb;exact⟨ha,by rw[l6];exact hl,vs,_,rv,ha⟩
      · have z':=(l8 hb).symm.trans z
        cases z'
    · by_cases hb:b=a
      · exact hb
      · exact absurd (l8 hb) z
noncomputable def yp(s:Stmt)(j:Nat):Stmt:=match s with
 |.ClassDef _ _ _ body _ _ _ _ _ _ _=>body.getD j (.Pass ⟨0,0,0,0⟩)
 |_=>.Pass ⟨0,0,0,0⟩
noncomputable def defArgs(s:Stmt):Arguments:=match s with
 |.FunctionDef _ a _ _ _ _ _ _ _ _=>a
 |_=>{ posonlyargs:=[],args:=[],vararg:=none,kwonlyargs:=[],kw_defaults:=[],kwarg:=none,defaults:=[] }
noncomputable def defBody(s:Stmt):List Stmt:=match s with
 |.FunctionDef _ _ b _ _ _ _ _ _ _=>b
 |_=>[]
noncomputable def defScope(s:Stmt):Scope:=match s with
 |.FunctionDef _ _ _ _ _ _ sc _ _ _=>sc
 |_=>{ kind:=.function,names:=[],isGenerator:=false,isCoroutine:=false }
abbrev CX0:CXT:=λ_ _ _ _ _ _=>False
abbrev E0:XK:=λ_ _ _=>False
theorem Y0:uq CX0 X E0:=λ_ _ _ _ _ _ _ h=>h.elim
structure Fun (K:W.Frag) (x qual:Str) (st:Stmt) (f:Addr) (fd:FuncData):Prop where
 ex:∃(oc:Value) (od:Option Addr) (kV doc pm:Value) (an:Option Addr) (cdv ct:Value) (osl:Array (Option Value)),
  fd=W.fnOf x qual (defArgs st) (defBody st) (defScope st) .none kV doc pm an cdv ct/\K.lookup f=some ⟨oc,od,.func fd,osl⟩/\W.codeIn K cdv qual=true
 kp:W.keepIn K (.ref f)=true
theorem Fun.ok{qual:Str}{ps:List Str}{k:Nat}{sp:Sp}(F:Fun K x qual st f fd)(S:FnScope N ps (defScope st))(len:∀vs H Q E,sp vs H Q E->vs.length=ps.length)
    (hbody:∀ (cdv:Value) (A:Around) (outer:List Env) (s:Shared) (H:Hp) (vs:List V) (Q:VK) (E:XK),Room k (A.deeper (envOfC qual (defScope st) s.heap.objs.size f cdv))->sp vs H Q E->
      ∃t,PSs (vT CX0 P w K mg base N qual (defScope st) f cdv A outer s H E).nox (defBody st) t/\t { nx:=λ_ H'=>Q .non H',rt:=Q } (start N vs) H):FnOk P w K mg base CX0 (k+1) f fd ps sp:=by
  obtain⟨oc,od,kV,doc,pm,an,cdv,ct,osl,rfl,lk,hcd⟩:=F.ex;refine zfx lk hcd S len λA outer s H vs Q E hr hsp=>?_;obtain⟨t,h,q⟩:=hbody cdv A outer s H vs Q E hr hsp;exact⟨t,h.nox,q⟩
theorem Fun.binds{qual:Str}{ps:List Str}(F:Fun K x qual st f fd)
  (h:∀(kV doc pm:Value) (an:Option Addr) (cdv ct:Value) (us:List Value),us.length=ps.length->bindArgs (W.fnOf x qual (defArgs st) (defBody st) (defScope st) .none kV doc pm an cdv ct) ⟨us,[]⟩=pure (ps.zip us)):Binds K fd ps []:=by
 obtain⟨oc,od,kV,doc,pm,an,cdv,ct,osl,rfl,lk,hcd⟩:=F.ex;exact .all (h kV doc pm an cdv ct)
theorem UN{qual:Str}{oc:Value}{od an:Option Addr}{osl:Array (Option Value)}{kV doc pm cdv ct:Value}(l:K.lookup f=some ⟨oc,od,.func (W.fnOf x qual (defArgs st) (defBody st) (defScope st) .none kV doc pm an cdv ct),osl⟩)
  (c:W.codeIn K cdv qual=true)(k:W.keepIn K (.ref f)=true):Fun K x qual st f (W.fnOf x qual (defArgs st) (defBody st) (defScope st) .none kV doc pm an cdv ct):=⟨⟨oc,od,kV,doc,pm,an,cdv,ct,osl,rfl,l,c⟩,k⟩
theorem zfA{k:Nat}(hr:Room k A):A.units+1<cLine:=Nat.lt_of_le_of_lt (Nat.add_le_add_left (by decide:1<=64) _) hr.units
theorem xJ(h:n<=1000):n<sizeLine:=Nat.lt_of_le_of_lt h (by decide)
theorem pv(i:Nat)(hN:X.N[i]? =some x:=by rfl)(hv:Vis X.env.scope x:=by first|exact Or.inl rfl|exact Or.inr (Or.inl rfl)|exact Or.inr (Or.inr rfl))(hd:(x==("__debug__":Str))=false:=by decide)
  (hcd:(x==("__classdict__":Str))=false:=by decide):PE X (.Name x pos) (KQ i):=zh0 hN hv hd hcd
def Same(H H':Hp):Prop:=∀b o,H b=some o->H' b=some o
theorem Same.refl(H:Hp):Same H H:=λ_ _ h=>h
theorem Same.trans{H1 H2:Hp}(a:Same H H1)(b:Same H1 H2):Same H H2:=λc o h=>b c o (a c o h)
theorem Same.free{H':Hp}(e:Same H H'){l:Addr}(h:H' l=Option.none):H l=Option.none:=by
 cases q:H l with
 |none=>rfl
 |some o=>
  rw[e l o q]at h;cases h
theorem Same.seq{H':Hp}{xs:List V}(e:Same H H')(h:SqL K H a xs):SqL K H' a xs:=by
 rcases h with(h|⟨o,h⟩)|h
 .exact .inl (.inl (e _ _ h))
 .exact .inl (.inr ⟨o,e _ _ h⟩)
 .exact .inr h
theorem zgw{R:Result->Shared->Prop}{elt iter:Expr}{ifs:List Expr}{scope:Scope}{it acc:Value}{env:Env}(J:Nat->Shared->Prop)
    (turn:∀ k s0,J k s0->wpAny (model prog w) A (pyNext it) (fun r s1=>match r with
      |none=>R (.ok .next) s1
      |some v=>wpAny (model prog w) A (letOwnedTupleGo tg it v) (fun _ s2=>wpAny (model prog w) A (assign tg env v) (fun _ s3=>
          wpAny (model prog w) A (forIn ifs true fun c r=>if r=true then do let ok <- isTrue c env (eval c env);pure (ForInStep.yield ok) else pure (ForInStep.yield r)) (fun ok s4=>
            if ok=true then wpAny (model prog w) A (eval elt env) (λx s5=>wpAny (model prog w) A (call (.builtin "list.append") [acc,x]) (λ_ s6=>∃j,j<k/\J j s6) (λ_ _=>False) s5) (λ_ _=>False) s4
            else ∃j,j<k/\J j s4) (λ_ _=>False) s3) (λ_ _=>False) s2) (λ_ _=>False) s1) (λ_ _=>False) s0)
    (k:Nat)(h:J k s):codeAny (model prog w) A (.compLoop (.ListComp elt [⟨tg,iter,ifs,0⟩] scope pos) 0 it acc env) R s:=by
  refine codeAny_loop rfl J (λk0 s0 hJ=>?_) k h;show wpAny _ A ((compTurn (.ListComp elt [⟨tg,iter,ifs,0⟩] scope pos) 0 it acc env).onRaise (λx=>do noteFrame x env;theTreesLotGoes x)) _ _ s0;refine wpAny_noted ?_;rw[compTurn_list];refine l7 (wpAny_standAt (l7 (wpAny_mono (turn k0 s0 hJ) (λr s1 h1=>?_) λ_ _ f=>f.elim)));cases r with
  |none=>exact lE h1
  |some v=>
    refine l7 (wpAny_mono h1 (λ_ s2 h2=>l7 (wpAny_mono h2 (λ_ s3 h3=>l7 (wpAny_mono h3 (λok s4 h4=>?_) λ_ _ f=>f.elim)) λ_ _ f=>f.elim)) λ_ _ f=>f.elim);cases ok with
    |false=>exact lE ⟨rfl,h4⟩
    |true=>exact l7 (l7 (wpAny_mono h4 (λx s5 h5=>l7 (wpAny_mono h5 (λ_ s6 h6=>lE (lE ⟨rfl,h6⟩)) λ_ _ f=>f.elim)) λ_ _ f=>f.elim))
def PTs(X:Cx)(ifs:List Expr)(t:TT):Prop:=
 ∀(pins:List (Addr×Obj)) (s:Shared) (σ:St) (H:Hp) (Q:Bool->Hp->Prop),Inv X pins σ H s->t σ H Q->
  wpAny (model X.prog X.w) X.A (forIn ifs true λc r=>if r=true then do let ok<-isTrue c X.env (eval c X.env);pure (ForInStep.yield ok)else pure (ForInStep.yield r)) (TP X pins σ Q) X.xe s
def ziw:TT:=λ_ H Q=>Q true H
theorem yy:PTs X [] ziw:=λ_ _ _ H _ I h=>wpAny_tests_nil ⟨H,I,h⟩
theorem XM{c:Expr}{t:TT}(h:PT X c t):PTs X [c] t:=λpins s σ H Q I hw=>wpAny_tests_one (h pins s σ H Q I hw)
noncomputable def yz(X:Cx)(N:List Str)(scope:Scope)(cl:List (Str×Addr))(C:Addr)(s:Shared)(H:Hp)(fp:List Addr):Cx where
 prog:=X.prog
 w:=X.w
 K:=X.K
 mg:=X.mg
 base:=X.base
 A:=X.A
 N:=N
 s₀:=s
 H₀:=H
 env:=compEnvC scope cl C X.env
 outer:=X.stack
 stack:=X.stack
 ex:=fp
 fn:=λ_=>false
 calm:=X.calm
 pn:=[]
 xe:=λ_ _=>False
noncomputable def jS(n:Nat)(js:List Nat)(σ:St):St:=List.replicate n none++js.map λj=>(σ[j]?).join
structure LcOk (X:Cx) (N:List Str) (n:Nat) (js:List Nat) (scope:Scope) (cl:List (Str×Addr)):Prop where
 clos:closureFor scope X.env=pure cl
 nocell:∀y∈scope.names,y.2≠.cell
 kind:scope.kind=.function
 names:∀y∈scope.names,y.2=.local->scope.names.lookup y.1=some .local
 cells:∀x c,cl.lookup x=some c->X.env.cells.lookup x=some c
 has:∀x,((relabel scope X.env).names.lookup x=some .cell\/(relabel scope X.env).names.lookup x=some .free)->∃c,cl.lookup x=some c
 len:n+js.length=N.length
 free:∀(i:Nat) (x:Str),N[n+i]? =some x->∃j c,js[i]? =some j/\X.N[j]? =some x/\(X.env.scope.names.lookup x=some .cell\/X.env.scope.names.lookup x=some .free)/\
  ((relabel scope X.env).names.lookup x=some .cell\/(relabel scope X.env).names.lookup x=some .free)/\cl.lookup x=some c
section
variable {js:List Nat}{scope:Scope}{cl:List (Str×Addr)}
theorem LcOk.ok(L:LcOk X N n js scope cl)(I:Inv X pins σ H s){fp:List Addr}(hf:∀b∈fp,FpOk X pins H b)(hlt:∀b∈fp,b<s.heap.objs.size)(hC:s.heap.objs.size<=C):(yz X N scope cl C s H fp).Ok where
 mod:=I.ok.mod
 kind:=L.kind
 glob:=I.ok.glob
 blt:=I.ok.blt
 above:=hC
 inj:=λx y c h1 h2=>I.ok.inj x y c (L.cells x c h1) (L.cells y c h2)
 has:=λx hx=>L.has x hx
 cab:=λx c hx _=>by cases hx
 hd:=I.ok.hd
 frames:=I.ok.frames
 stk:=.inl rfl
 exf:=λb hb=>⟨lu (lH (hlt b hb) hC),λx c e=>(hf b hb).2.2.2.2.1 x c (L.cells x c e)⟩
 bs:=I.bs
 bsz:=lT I.ok.bsz I.sz
 noex:=λb o e hb=>by
  rcases(hf b hb).2.2.2.1 with z|z
  .exact I.ok.noex b o e z
  .exact absurd (lH (lq (I.ok.bs b o e).1) z) (mR _)
 exfs:=λb hb hz=>by
  rcases lm.mp (I.stkSub b hz)with z|z
  .exact(hf b hb).2.1 z
  .exact(hf b hb).2.2.1 z
 funs:=I.stack
 frf:=I.stkFree
theorem zdR{js:List Nat}(h:(jS n js σ)[i]? =some (some v)):∃k j,i=n+k/\js[k]? =some j/\σ[j]? =some (some v):=by
 unfold jS at h;by_cases hi:i<n
 .rw[mq (by simpa using hi),List.getElem?_replicate]at h
  split at h<;>cases h
 .rw[mE (by simpa using hi),List.length_replicate,lw]at h
  cases e:js[i-n]? with
  |none=>rw[e]at h;cases h
  |some j=>
   rw[e]at h;refine⟨i-n,j,by omega,e,?_⟩;cases e2:σ[j]? with
   |none=>rw[Option.map_some,e2]at h;cases h
   |some o=>
    rw[Option.map_some,e2]at h;have h':o=some v:=lU h;rw[h']
theorem Inv.lc(L:LcOk X N n js scope cl)(I:Inv X pins σ H s){fp:List Addr}(hf:∀b∈fp,FpOk X pins H b)(hlt:∀b∈fp,b<s.heap.objs.size){D:Addr}{h1:Heap}{m:Str->Option Value}{tk:Nat}
  (hD:s.heap.objs.size<=D)(hC:s.heap.objs.size<=C)(hDC:D≠C)(hn:h1.Ns C m)(old:∀b o,s.heap.get? b=some o->h1.get? b=some o){k:Nat}(hl:h1.get? D=some { cls:=.type "list",data:=.seq ([]:List Value).toArray k }) :
  Inv (yz X N scope cl C s H fp) [] (jS n js σ) (upd H D (.lst [])) { s with heap:=h1,toks:=tk } where
 ok:=L.ok I hf hlt hC
 os:=rfl
 bare:=I.bare
 base:=Un.laid old hD (I.hok.fresh hD)
 loc:=by
  refine⟨m,hn,λi x v e1 e2 e3=>?_⟩;obtain⟨k,j,rfl,ej,eσ⟩:=zdR e2;obtain⟨j',c,ej',eN,kx,kr,ec⟩:=L.free k x e1;rw[ej]at ej';cases ej';obtain⟨mx,hmx,hl'⟩:=I.loc;obtain⟨u,r,lk⟩:=hl' j x v eN eσ (kx.elim (λz=>.inr (.inl z)) λz=>.inr (.inr z));refine⟨u,r,.inr ⟨kr,c,ec,?_⟩⟩;have hcx:=L.cells x c ec;rcases lk with⟨z,_⟩|⟨_,c',e',hc'⟩
  .have z':X.env.scope.names.lookup x=some .local:=z
   rcases kx with y|y<;>rw[y]at z'<;>cases z'
  .rw[hcx]at e'
   cases e';obtain⟨o,ho,hd⟩:=hc';exact⟨o,old _ _ ho,hd⟩
 cell:=λx c e=>by
  obtain⟨v,o,ho,hd⟩:=I.cell x c (L.cells x c e);exact⟨v,o,old _ _ ho,hd⟩
 free:=by
  show upd H D (.lst []) C=none;rw[zu (Ne.symm hDC)];exact I.hok.fresh hC
 freeC:=λx c e=>by
  obtain⟨v,o,ho,hd⟩:=I.cell x c (L.cells x c e);rw[zu (lu (lH (lq ho) hD))];exact I.freeC x c (L.cells x c e)
 pin:=λp hp=>absurd (show p∈([]:List (Addr×Obj))from hp) (by simp)
 hok:=I.hok.laid old hD ⟨lO _,[],k,.nil,hl⟩
 len:=by
  show(jS n js σ).length=N.length;unfold jS;rw[lI,List.length_replicate,l6];exact L.len
theorem Inv.unlc{fp:List Addr}{σ':St}{H':Hp}{s':Shared}{h':Heap}(I:Inv X pins σ H s)(hf:∀b∈fp,FpOk X pins H b)(hC:s.heap.objs.size<=C)(I':Inv (yz X N scope cl C s H fp) [] σ' H' s')(hs:Heap.SameBut C s'.heap h') :
  Inv X pins σ H' { s' with heap:=h' }:=by
 have nC:∀b o,s.heap.get? b=some o->b≠C:=λb o e=>lu (lH (lq e) hC);have hfree:H' C=none:=I'.free;have u:=I'.base;refine I.call' (ch:=fp) (s':={ s' with heap:=h' }) I'.os ⟨λb o e n hb hx=>?_,λb o e n hb hx=>?_,u.free,λb o e hx=>?_,u.tups,u.frzs,u.tbls⟩ (λb ob e=>?_) I'.bare λb hb=>⟨(hf b hb).2.2.2.1,(hf b hb).2.1,(hf b hb).2.2.2.2.1,(hf b hb).2.2.2.2.2⟩
 .exact(hs.2 b (nC b o e)).trans (u.keep b o e n hb hx)
 .obtain⟨sl,q⟩:=u.slot b o e n hb hx
  exact⟨sl,(hs.2 b (nC b o e)).trans q⟩
 .obtain⟨o',q⟩:=u.there b o e hx
  exact⟨o',(hs.2 b (nC b o e)).trans q⟩
 .refine(I'.hok b ob e).stay (λc w' hc q=>(hs.2 c ?_).trans q) (λ_ q=>q) λ_ _ q=>q
  rintro rfl;rcases hc with rfl|hc
  .rw[hfree]at e
   cases e
  .rw[hfree]at hc
   cases hc
def tLc(wi:TI)(n:Nat)(js:List Nat)(g:TG)(tt:TT)(te:TE):TE:=λσ H Q=>wi σ H λJ H1=>∀D,H1 D=none->∃W:Nat->Nat->St->Hp->Prop,(∃m,W 0 m (jS n js σ) (upd H1 D (.lst [])))/\∀i m σ' H',W i m σ' H'->
  (J.stop i H'/\Q (.ref D) H')\/(J.go i H'/\∃ Nx:St->Hp->Prop,(∀ σ2 H2,Nx σ2 H2->∃ m',m' < m/\W (i+1) m' σ2 H2)/\
    ∀x H2,J.yld i H' x H2->g x σ' H2 λσ3 H3=>tt σ3 H3 λok H4=>if ok=true then te σ3 H4 λy H5=>∃ys,H5 D=some (.lst ys)/\ys.length<sizeLine/\Nx σ3 (upd H5 D (.lst (ys++[y])))else Nx σ3 H4)
theorem Kb{elt iter:Expr}{ifs:List Expr}{g:TG}{tt:TT}{te:TE}{it:Addr}{fp:List Addr}{tn:Nat->Heap->Prop}{J:It}{Q:V->Hp->Prop}{RR:Value->Addr->Result->Shared->Prop}
    (L:LcOk X N n js scope cl)(hc:X.calm=true)(I:Inv X pins σ H s)(T:Turn X.prog X.w X.K tg J fp it tn)(t0:tn 0 s.heap)(hf:∀b∈fp,FpOk X pins H b)
    (hg:∀C s0 H0 fp0,PG (yz X N scope cl C s0 H0 fp0) tg g)(ht:∀C s0 H0 fp0,PTs (yz X N scope cl C s0 H0 fp0) ifs tt)(he:∀C s0 H0 fp0,PE (yz X N scope cl C s0 H0 fp0) elt te)
    (hw:∀ D,H D=none->∃ W:Nat->Nat->St->Hp->Prop,(∃ m,W 0 m (jS n js σ) (upd H D (.lst [])))/\∀ i m σ' H',W i m σ' H'->
      (J.stop i H'/\Q (.ref D) H')\/(J.go i H'/\∃ Nx:St->Hp->Prop,(∀ σ2 H2,Nx σ2 H2->∃ m',m' < m/\W (i+1) m' σ2 H2)/\
        ∀x H2,J.yld i H' x H2->g x σ' H2 λσ3 H3=>tt σ3 H3 λok H4=>if ok=true then te σ3 H4 λy H5=>∃ys,H5 D=some (.lst ys)/\ys.length<sizeLine/\Nx σ3 (upd H5 D (.lst (ys++[y])))else Nx σ3 H4))
    (fin:∀D C σ' H' s',s.heap.objs.size<=C->Inv (yz X N scope cl C s H fp) [] σ' H' s'->Q (.ref D) H'->RR (.ref D) C (.ok .next) s') :
    wpAny (model X.prog X.w) X.A (newList []) (fun acc s1=>wpAny (model X.prog X.w) X.A (newFunctionEnv scope X.env.globals cl [] X.env.qual none .none (some X.env)) (fun cenv s2=>
      codeAny (model X.prog X.w) X.A (.compStart (.ListComp elt [⟨tg,iter,ifs,0⟩] scope pos) 0 (.ref it) acc { cenv with scope:=relabel scope X.env }) (RR acc cenv.locals) s2) E s1) E s:=by
  refine wpAny_newObj_type (wpAny_newFunctionEnv L.nocell (by intro y hy;simp at hy) (λh1 hn1 hs1=>?_) L.kind);dsimp only at hn1 hs1 ⊢
  generalize hG:s.heap.push { cls:=.type "list",dict:=none,data:=.seq ([]:List Value).toArray } =G at hn1 hs1 ⊢
  have eC:G.objs.size=s.heap.objs.size+1:=by rw[<-hG,Heap.size_push]
  have hC:s.heap.objs.size<=G.objs.size:=by rw[eC];exact Nat.le_succ _
  have hDC:s.heap.objs.size≠G.objs.size:=by rw[eC];exact lu (Nat.lt_succ_self _)
  have hlt:∀b∈fp,b<s.heap.objs.size:=λb hb=>by
    obtain⟨o,e,_⟩:=T.obj 0 _ t0 b hb;exact lq e
  have old:∀b o,s.heap.get? b=some o->h1.get? b=some o:=λb o e=>by
    have hb:=lq e;exact hs1.extBut b o (lu (lH hb hC)) (l9 _ (hG▸l9 _ e))
  have hl:h1.get? s.heap.objs.size=some { cls:=.type "list",data:=.seq ([]:List Value).toArray 0 }:=hs1.extBut _ _ hDC (l9 _ (hG▸ly _ rfl));have I1:∀tk,Inv (yz X N scope cl G.objs.size s H fp) [] (jS n js σ) (upd H s.heap.objs.size (.lst [])) { s with heap:=h1,toks:=tk }:=λtk=>Inv.lc L I hf hlt (lp _) hC hDC hn1 old hl;have t1:tn 0 h1:=T.keep _ _ _ t0 λb _ o e=>old b o e;obtain⟨W,⟨m0,w0⟩,step⟩:=hw s.heap.objs.size (I.hok.fresh (lp _));have fr1:∀b∈fp,upd H s.heap.objs.size (.lst []) b=none:=λb hb=>by
    rw[zu (lu (hlt b hb))];exact(hf b hb).1
  have fps:∀{H':Hp},(∀b∈fp,H' b=none)->∀b∈fp,FpOk (yz X N scope cl G.objs.size s H fp) [] H' b:=λ{H'} hn b hb=>by
    refine⟨hn b hb,lu (lH (hlt b hb) hC),λhz=>?_,.inl hb,λx c e=>(hf b hb).2.2.2.2.1 x c (L.cells x c e),λp hp=>absurd (show p∈([]:List (Addr×Obj))from hp) (by simp)⟩;rcases lm.mp (I.stkSub b hz)with z|z
    · exact(hf b hb).2.1 z
    · exact(hf b hb).2.2.1 z
  have loop:∀s0:Shared,s0= { s with heap:=h1,toks:=s.toks+([]:List (Str×Value)).length }->
      codeAny (model X.prog X.w) X.A (.compLoop (.ListComp elt [⟨tg,iter,ifs,0⟩] scope pos) 0 (.ref it) (.ref s.heap.objs.size) (compEnvC scope cl G.objs.size X.env)) (RR (.ref s.heap.objs.size) G.objs.size) s0:=by
    rintro s0 rfl;refine zgw (λk s'=>∃i σ' H',Inv (yz X N scope cl G.objs.size s H fp) [] σ' H' s'/\tn i s'.heap/\(∀b∈fp,H' b=none)/\W i k σ' H') ?_ m0 ⟨0,_,_,I1 _,t1,fr1,w0⟩;rintro k s3 ⟨i,σ3,H3,I3,t3,fr3,w3⟩;rcases step i k σ3 H3 w3 with⟨stop,qn⟩|⟨go,Nx,hN,body⟩
    · refine thn (T.done (yz X N scope cl G.objs.size s H fp) rfl rfl rfl hc i [] s3 σ3 H3 _ I3 (fps fr3) t3 stop) λr s4 ⟨hr,I4⟩=>?_
      subst hr;exact fin _ _ σ3 H3 s4 hC I4 qn
    · refine thn (T.item (yz X N scope cl G.objs.size s H fp) rfl rfl rfl hc i [] s3 σ3 H3 _ I3 (fps fr3) t3 go) λr s4 ⟨u,hr,h4⟩=>?_
      subst hr;refine thn h4 λ_ s5 ⟨x,H5,I5,r5,y5,t5,fr5⟩=>?_;have I5':=I5.pinned (fps fr5) (T.obj _ _ t5);refine thn (hg _ _ _ _ _ s5 σ3 H5 x u _ I5' r5 (body x H5 y5)) λ_ s6 ⟨σ6,H6,I6,q6⟩=>?_;have again:∀{σ7:St}{H7:Hp}{s7:Shared},Inv (yz X N scope cl G.objs.size s H fp) ([]++kZ fp s5.heap) σ7 H7 s7->Nx σ7 H7->
          ∃j,j<k/\∃i σ' H',Inv (yz X N scope cl G.objs.size s H fp) [] σ' H' s7/\tn i s7.heap/\(∀b∈fp,H' b=none)/\W i j σ' H':=λ{σ7 H7 s7} I7 n7=>by
        obtain⟨m',hm,w7⟩:=hN σ7 H7 n7;refine⟨m',hm,i+1,σ7,H7,I7.unpinned,T.keep _ _ _ t5 λb hb o e=>(I7.pin (b,o) (lN _ (lN _ (uR hb e)))).1,λb hb=>?_,w7⟩;obtain⟨o,e,_⟩:=T.obj _ _ t5 b hb;exact(I7.pin (b,o) (lN _ (lN _ (uR hb e)))).2.1
      refine thn (ht _ _ _ _ _ s6 σ6 H6 _ I6 q6) λok s7 ⟨H7,I7,q7⟩=>?_;cases ok with
      |false=>
        rw[l8 (by decide)]at q7 ⊢;exact again I7 q7
      |true=>
        rw[lg rfl]at q7 ⊢;refine thn (he _ _ _ _ _ s7 σ6 H7 _ I7 q7) λv s8 ⟨y,H8,I8,r8,ys,e8,z8,q8⟩=>?_;refine thn (y7 _ s8 σ6 H8 (.ref s.heap.objs.size) [y] (.ref s.heap.objs.size) [v] (λ_ H9=>Nx σ6 H9) I8 rfl (.cons r8 .nil) ⟨_,ys,y,rfl,rfl,e8,z8,q8⟩) λ_ s9 ⟨_,H9,I9,_,q9⟩=>?_;exact again I9 q9
  exact codeAny_compStart_list (loop _ rfl) (T.self X.A 0 _ _ _ t1 (loop _ rfl))
theorem vE{elt iter:Expr}{ifs:List Expr}{wi:TI}{g:TG}{tt:TT}{te:TE}(L:LcOk X N n js scope cl)(hc:X.calm=true)(hi:PI X tg iter wi)
  (hg:∀C s0 H0 fp0,PG (yz X N scope cl C s0 H0 fp0) tg g)(ht:∀C s0 H0 fp0,PTs (yz X N scope cl C s0 H0 fp0) ifs tt)(he:∀C s0 H0 fp0,PE (yz X N scope cl C s0 H0 fp0) elt te)
  (hs:∀x,foldedSetIterable iter X.env x=pure x:=by intro _;rfl):PE X (.ListComp elt [⟨tg,iter,ifs,0⟩] scope pos) (tLc wi n js g tt te):=by
 intro pins s σ H Q I h;rw[eval_ListComp];refine wpAny_comprehension_free (use:=none) rfl hs L.clos L.kind L.names (thn (hi pins s σ H _ I h) λv s1 h1=>thn h1 λitv s2 h2=>?_);obtain⟨it,fp,tn,J,H2,e,I2,T,t2,f2,hw⟩:=h2;subst e;refine Kb (RR:=λacc C=>compPost (model X.prog X.w) X.A X.xe none (EP X pins σ Q) acc C) L hc I2 T t2 f2 hg ht he hw ?_;intro D C σ' H' s' hC I' q;obtain⟨m,hn,_⟩:=I'.loc;exact⟨m,hn,λh' hs'=>⟨.ref D,H',I2.unlc f2 hC I' hs',rfl,q⟩⟩
theorem qf{elt iter:Expr}{ifs:List Expr}{pos' spos:Pos}{wi:TI}{g:TG}{tt:TT}{te:TE}(hN:X.N.Nodup)(hx:X.N[i]? =some x)(hk:X.env.scope.names.lookup x=some .local)
  (L:LcOk X N n js scope cl)(hc:X.calm=true)(hi:PI X tg iter wi)
  (hg:∀C s0 H0 fp0,PG (yz X N scope cl C s0 H0 fp0) tg g)(ht:∀C s0 H0 fp0,PTs (yz X N scope cl C s0 H0 fp0) ifs tt)(he:∀C s0 H0 fp0,PE (yz X N scope cl C s0 H0 fp0) elt te)
  (hsw:swapsWith (.ListComp elt [⟨tg,iter,ifs,0⟩] scope pos) (some (.Name x pos')) spos.line X.env=pure true:=by rfl)
  (hs:∀x,foldedSetIterable iter X.env x=pure x:=by intro _;rfl):PS X (.Assign [.Name x pos'] (.ListComp elt [⟨tg,iter,ifs,0⟩] scope pos) spos) (Yr (tLc wi n js g tt te) (qI i)):=by
 intro pins s σ H Dn I h;rw[exec_Assign_Name_used _ _ _ _ hsw];refine l7 (wpAny_standAt (l7 ?_));show wpAny _ X.A (do let _<-comprehension (.ListComp elt [⟨tg,iter,ifs,0⟩] scope pos) scope X.env _ (newList []) false (eval iter X.env) (some (assign (.Name x pos') X.env))) _ _ s;refine l7 (thn (wpAny_comprehension_free (use:=some (assign (.Name x pos') X.env)) (Q:=λ_ s'=>SP X pins Dn .next s') rfl hs L.clos L.kind L.names (thn (hi pins s σ H _ I h) λv s1 h1=>thn h1 λitv s2 h2=>?_)) λ_ s' hq=>lE (lE hq));obtain⟨it,fp,tn,J,H2,e,I2,T,t2,f2,hw⟩:=h2;subst e;refine Kb (Q:=λx H1=>qI i x σ H1 Dn.nx) (RR:=λacc C=>compPost (model X.prog X.w) X.A X.xe (some (assign (.Name x pos') X.env)) (λ_ s'=>SP X pins Dn .next s') acc C) L hc I2 T t2 f2 hg ht he hw ?_;intro D C σ' H' s' hC I' q;obtain⟨m,hn,_⟩:=I'.loc;have I3:Inv X pins σ H' s':=I2.unlc (h':=s'.heap) f2 hC I' (.refl ..);show wpAny _ X.A (assign (.Name x pos') X.env (.ref D)) _ X.xe s';refine wpAny_assign_Name (Vz (v:=.ref D) I3 hN hx (.inl hk) rfl (λs4 I4 hb=>?_) (.inr hk));obtain⟨a,hsa,ha⟩:=hb;have bl:∀b o,s2.heap.get? b=some o->b≠C:=λb o e=>lu (lH (lq e) hC);have hL:C≠X.env.locals:=λz=>absurd (lH I2.lt (z▸hC)) (mR _);have hcl:∀y c,X.env.cells.lookup y=some c->c≠C:=λy c e=>by
  obtain⟨v,o,ho,_⟩:=I2.cell y c e;exact bl c o ho
 have hCa:C≠a:=by
  rcases ha with rfl|ha
  .exact hL
  .exact Ne.symm (hcl _ _ ha)
 exact⟨m,hn.sameBut hsa hCa,λh' hs'=>⟨_,H',I4.turned (h':=h') (t':=s4.toks) (it:=C) (λb o hb e=>(hs'.2 b hb).trans e) I'.free hL (.inr (lT I2.sz hC)) hcl (λp hp=>bl _ _ (I2.pin p hp).1),q⟩⟩
end
structure Cal (P:Program) (w:World) (K:W.Frag) (mg:Str->Option Value) (base:Heap) (k:Nat) (x:Str) (dvs:List V) (sp:Sp):Prop where
 ex:∃(f:Addr) (fd:FuncData) (ps:List Str) (ds:List Value),FnOk P w K mg base CX0 k f fd ps sp/\mg x=some (.ref f)/\W.keepIn K (.ref f)=true/\Binds K fd ps ds/\Vals dvs ds
section
variable {k:Nat}{sp:Sp}{dvs:List V}{p:Pos}
theorem zix(c:Cal X.prog X.w X.K X.mg X.base k x dvs sp)(hr:Room k X.A)(hg:Gl X x)(ha:PA X (e::es) t)(hdb:(x==("__debug__":Str))=false:=by decide)
  (he:starEach (e::es) X.env=(false,eval e X.env)::starEach es X.env:=by rfl)(hpl:(backTo pos (starEach es X.env)).any (·.1)=false:=by rfl):PE X (.Call (.Name x p) (e::es) [] pos) (ZY sp dvs E0 t):=by
 obtain⟨f,fd,ps,ds,F,hm,hk,hb,hd⟩:=c.ex;exact zgr F hr hg hm hk hb hd Y0 ha hdb he hpl
end
theorem ziy:OpR X (compareOp .Is) (λx y H Q=>∃b,y=.bl b/\Q (.bl (decide (x=.bl b))) H):=by
 intro pins s σ H x y v u Q I rx ry h;obtain⟨b,rfl,q⟩:=h;cases ry;refine wpAny_is_plain ?_ (yg I q ?_)
 all_goals cases x<;>first
  |(obtain⟨t,rfl⟩:=rx;rfl)
  |(cases rx;rfl)
  |(cases rx;rename_i c;cases c<;>cases b<;>rfl)
theorem JE:yw X (.builtin "isinstance") (λxs H Q=>∃x n t b,xs=[x,.ty n]/\TyOf X.K H x t/\W.kitOne X.K t (.type n)=some b/\Q (.bl b) H):=by
 intro pins s σ H xs us Q I r h;obtain⟨x,n,t,b,rfl,ty,e,q⟩:=h;obtain⟨u,c,rfl,ru,rc⟩:=r.two;cases rc;exact zbG I ru ty e λtk=>⟨.bl b,H,I.tok tk,rfl,q⟩
def zkg(K:W.Frag)(H:Hp)(x:V):Prop:=∃n,TyOf K H x (.type n)/\(n= "NoneType"\/n= "str"\/n= "list"\/n= "tuple"\/n= "dict")
def Th(K:W.Frag)(H:Hp)(x:V):Option Int->Prop
 |some i=>x=.int i
 |none=>(∃b,x=.bl b)\/zkg K H x
mutual
def Rep(K:W.Frag)(H:Hp):PyData->V->Prop
 |.none,x=>x=.non
 |.bool b,x=>x=.bl b
 |.int i,x=>x=.int i
 |.str z,x=>x=.str z
 |.list ds,x=>∃a xs,x=.ref a/\SqL K H a xs/\Reps K H ds xs
 |.tuple ds,x=>∃a xs,x=.ref a/\SqT K H a xs/\Reps K H ds xs
 |.dict kvs,x=>kvs=[]/\∃a,x=.ref a/\Rd H a (.dK [])
def Reps(K:W.Frag)(H:Hp):List PyData->List V->Prop
 |[],xs=>xs=[]
 |d::ds,xs=>∃x r,xs=x::r/\Rep K H d x/\Reps K H ds r
end
theorem SqL.same{H':Hp}{xs:List V}(e:Same H H')(h:SqL K H a xs):SqL K H' a xs:=e.seq h
theorem SqT.same{H':Hp}{xs:List V}(e:Same H H')(h:SqT K H a xs):SqT K H' a xs:=by
 rcases h with(h|⟨o,h⟩)|h
 .exact .inl (.inl (e _ _ h))
 .exact .inl (.inr ⟨o,e _ _ h⟩)
 .exact .inr h
mutual
theorem Rep.same{H':Hp}(e:Same H H'):∀(d:PyData) (x:V),Rep K H d x->Rep K H' d x
 |.none,_,h=>h
 |.bool _,_,h=>h
 |.int _,_,h=>h
 |.str _,_,h=>h
 |.list ds,x,h=>by
  obtain⟨a,xs,e1,h1,h2⟩:=h;exact⟨a,xs,e1,h1.same e,Reps.same e ds xs h2⟩
 |.tuple ds,x,h=>by
  obtain⟨a,xs,e1,h1,h2⟩:=h;exact⟨a,xs,e1,h1.same e,Reps.same e ds xs h2⟩
 |.dict _,_,h=>by
  obtain⟨e1,a,e2,h1⟩:=h;refine⟨e1,a,e2,?_⟩;rcases h1 with h1|⟨o,h1⟩
  .exact .inl (e _ _ h1)
  .exact .inr ⟨o,e _ _ h1⟩
theorem Reps.same{H':Hp}(e:Same H H'):∀(ds:List PyData) (xs:List V),Reps K H ds xs->Reps K H' ds xs
 |[],_,h=>h
 |d::ds,xs,h=>by
  obtain⟨x,r,e1,h1,h2⟩:=h;exact⟨x,r,e1,Rep.same e d x h1,Reps.same e ds r h2⟩
end
theorem Reps.length:∀{ds:List PyData}{xs:List V},Reps K H ds xs->ds.length=xs.length
 |[],xs,h=>by
  cases(show xs=[]from h);rfl
 |d::ds,_,h=>by
  obtain⟨x,r,rfl,_,h2⟩:=h;rw[lL,lL,h2.length]
theorem Reps.snoc:∀{ds:List PyData}{xs:List V}{d:PyData}{x:V},Reps K H ds xs->Rep K H d x->Reps K H (ds++[d]) (xs++[x])
 |[],_,d,x,h,h'=>by
  rw[show _=_ from h];exact⟨x,[],rfl,h',rfl⟩
 |d0::ds,_,d,x,h,h'=>by
  obtain⟨y,r,rfl,h1,h2⟩:=h;exact⟨y,r++[x],rfl,h1,h2.snoc h'⟩
mutual
theorem Rep.reads(I:Inv X pins σ H s):∀(d:PyData) (x:V) (u:Value),Rep X.K H d x->RelV x u->∃as,Reads s.heap u d as
 |.none,x,u,h,r=>by
  cases(show x=V.non from h);cases r;exact⟨_,.none⟩
 |.bool b,x,u,h,r=>by
  cases(show x=V.bl b from h);cases r;exact⟨_,.bool b⟩
 |.int i,x,u,h,r=>by
  cases(show x=V.int i from h);obtain⟨t,rfl⟩:=r;exact⟨_,.int i t⟩
 |.str z,x,u,h,r=>by
  cases(show x=V.str z from h);obtain⟨t,rfl⟩:=r;exact⟨_,.str z t⟩
 |.list ds,x,u,h,r=>by
  obtain⟨a,xs,rfl,h1,h2⟩:=h;cases r;obtain⟨its,rv,⟨o,n,e,c,_,dt⟩,_⟩:=I.list h1;obtain⟨as,q⟩:=Reps.reads I ds xs its h2 rv;exact⟨_,.list e c dt (by simpa using q)⟩
 |.tuple ds,x,u,h,r=>by
  obtain⟨a,xs,rfl,h1,h2⟩:=h;cases r;obtain⟨its,rv,⟨o,e,c,n,dt⟩,_⟩:=I.tuple h1;obtain⟨as,q⟩:=Reps.reads I ds xs its h2 rv;exact⟨_,.tuple e c dt (by simpa using q)⟩
 |.dict kvs,x,u,h,r=>by
  obtain⟨rfl,a,rfl,h1⟩:=h;cases r;obtain⟨_,_,vs,kv,dd⟩:=(show yr X.prog X.w H s.heap a (.dK [])from h1.ok I.hok);cases kv;obtain⟨o,es,ep,h2,h3,h4,_,h5,_⟩:=dd;have e0:es= #[]:=by
   have:=h5.length;exact Array.eq_empty_of_size_eq_zero (by simpa using this)
  subst e0;exact⟨_,.dict h2 h3.1 h4 .nil .nil⟩
theorem Reps.reads(I:Inv X pins σ H s):∀(ds:List PyData) (xs:List V) (us:List Value),Reps X.K H ds xs->Vals xs us->∃as,ReadsAll s.heap us ds as
 |[],xs,us,h,r=>by
  cases(show xs=[]from h);cases r;exact⟨_,.nil⟩
 |d::ds,xs,us,h,r=>by
  obtain⟨x,xc,rfl,h1,h2⟩:=h;cases r with
  |cons r1 r2=>
   obtain⟨as,q⟩:=Rep.reads I d x _ h1 r1;obtain⟨bs,q2⟩:=Reps.reads I ds xc _ h2 r2;exact⟨_,.cons q q2⟩
end
def zdS(K:W.Frag):R2:=λx y H Q=>∃d e,Rep K H d x/\Rep K H e y/\SeqAt.shaped d=true/\SeqAt.shaped e=true/\Q (.bl (!PyData.eqv d e)) H
theorem ziz(hu:X.A.units+64<cLine):OpR X (compareOp .NotEq) (zdS X.K):=by
 intro pins s σ H x y v u Q I rx ry h;obtain⟨d,e,h1,h2,s1,s2,q⟩:=h;obtain⟨as,r1⟩:=Rep.reads I d x v h1 rx;obtain⟨bs,r2⟩:=Rep.reads I e y u h2 ry;exact ne_dataH r1 r2 s1 s2 hu ⟨.bl _,H,I,rfl,q⟩
noncomputable def UO:Expr->Bool
 |.Starred ..=>false
 |_=>true
theorem V7{env:Env}(h:UO e=true):starEach (e::es) env=(false,eval e env)::starEach es env:=by
 cases e<;>first|rfl|cases h
structure QA (X:Cx) (es:List Expr) (t:TA):Prop where
 pa:PA X es t
theorem qn:QA X [] uz:=⟨zim⟩
theorem qc{te:TE}(ha:PE X e te)(hr:QA X es t)(h:UO e=true:=by rfl):QA X (e::es) (vj te t):=⟨zgq ha hr.pa (V7 h)⟩
theorem yS(h:QA X es t):PE X (.List es pos) (UG t):=zbH h.pa
theorem yb{k:Nat}(h:QA X es t):PE X (.Tuple es k pos) (zdI t):=zin h.pa
def Sm(a:Int):Prop:=-1000000000000<=a/\a<=1000000000000
theorem Sm.mulL{a b:Int}(h:Sm a):XG a b:=.inl ⟨Int.lt_of_lt_of_le (by decide) h.1,Int.lt_of_le_of_lt h.2 (by decide)⟩
theorem Sm.mulR{a b:Int}(h:Sm b):XG a b:=.inr ⟨Int.lt_of_lt_of_le (by decide) h.1,Int.lt_of_le_of_lt h.2 (by decide)⟩
theorem zgx{a b:Int}(h1:-1000000000000<=a)(h2:a<=1000000000000):XG a b:=Sm.mulL ⟨h1,h2⟩
theorem zdT{a b:Int}(h1:-1000000000000<=b)(h2:b<=1000000000000):XG a b:=Sm.mulR ⟨h1,h2⟩
theorem qg{o:HO}(hp:H p=none):Same H (upd H p o):=λb u e=>by
 rw[zu (yB e hp)];exact e
theorem Yu{H':Hp}{r:Addr}{o:HO}(hs:Same H H')(hr:H r=none):Same H (upd H' r o):=λb u e=>by
 rw[zu (yB e hr)];exact hs b u e
structure FunD (K:W.Frag) (x qual:Str) (st:Stmt) (ds:List Value) (f:Addr) (fd:FuncData):Prop where
 ex:∃(oc:Value) (od:Option Addr) (kV doc pm:Value) (an:Option Addr) (cdv ct:Value) (osl:Array (Option Value)) (T:Addr) (oT:Obj) (n:Nat),
  fd=W.fnOf x qual (defArgs st) (defBody st) (defScope st) (.ref T) kV doc pm an cdv ct/\K.lookup f=some ⟨oc,od,.func fd,osl⟩/\W.codeIn K cdv qual=true/\K.lookup T=some oT/\oT.data=.seq ds.toArray n
 kp:W.keepIn K (.ref f)=true
theorem FunD.ok{qual:Str}{ds:List Value}{ps:List Str}{k:Nat}{sp:Sp}(F:FunD K x qual st ds f fd)(S:FnScope N ps (defScope st))(len:∀vs H Q E,sp vs H Q E->vs.length=ps.length)
    (hbody:∀ (cdv:Value) (A:Around) (outer:List Env) (s:Shared) (H:Hp) (vs:List V) (Q:VK) (E:XK),Room k (A.deeper (envOfC qual (defScope st) s.heap.objs.size f cdv))->sp vs H Q E->
      ∃t,PSs (vT CX0 P w K mg base N qual (defScope st) f cdv A outer s H E).nox (defBody st) t/\t { nx:=λ_ H'=>Q .non H',rt:=Q } (L2.start N vs) H):FnOk P w K mg base CX0 (k+1) f fd ps sp:=by
  obtain⟨oc,od,kV,doc,pm,an,cdv,ct,osl,T,oT,n,rfl,lk,hcd,_,_⟩:=F.ex;refine zfx lk hcd S len λA outer s H vs Q E hr hsp=>?_;obtain⟨t,h,q⟩:=hbody cdv A outer s H vs Q E hr hsp;exact⟨t,h.nox,q⟩
theorem FunD.binds{qual:Str}{ds es:List Value}{ps:List Str}(F:FunD K x qual st ds f fd)
    (h:∀ (T:Addr) (kV doc pm:Value) (an:Option Addr) (cdv ct:Value) (us:List Value),(us ++ es).length=ps.length->
      ∃k,bindArgs (W.fnOf x qual (defArgs st) (defBody st) (defScope st) (.ref T) kV doc pm an cdv ct) ⟨us,[]⟩=seqItems? (W.fnOf x qual (defArgs st) (defBody st) (defScope st) (.ref T) kV doc pm an cdv ct).defaults >>= k/\k (some ds.toArray)=pure (ps.zip (us++es))):Binds K fd ps es:=by
  obtain⟨oc,od,kV,doc,pm,an,cdv,ct,osl,T,oT,n,rfl,lk,hcd,hT,hd⟩:=F.ex;intro s us hK hl;obtain⟨k,h1,h2⟩:=h T kV doc pm an cdv ct us hl;exact .of_defaults rfl (hK _ _ hT) hd h1 h2
theorem qT{α:Type}{c:α}:∀{l:List (Str×α)},l.lookup x=some c->(x,c)∈l
 |[],h=>by cases h
 |(y,d)::l,h=>by
  rw[List.lookup_cons]at h;cases e:x==y with
  |true=>
   rw[e]at h;have h1:x=y:=by simpa using e
   have h2:d=c:=lU h;rw[h1,h2];exact li
  |false=>
   rw[e]at h;exact lj _ (qT h)
noncomputable def XN(k:Option NameKind):Bool:=match k with
 |some .cell=>true
 |some .free=>true
 |_=>false
theorem Kc{k:Option NameKind}(h:XN k=true):k=some .cell\/k=some .free:=by
 unfold XN at h;split at h
 .exact .inl rfl
 .exact .inr rfl
 .cases h
inductive CellsIn (big:List (Str×Addr)):List (Str×Addr)->Prop
 |nil:CellsIn big []
 |cons {x:Str}{c:Addr}{l:List (Str×Addr)}:big.lookup x=some c->CellsIn big l->CellsIn big ((x,c)::l)
theorem CellsIn.mem{big:List (Str×Addr)}{c:Addr}:∀{l:List (Str×Addr)},CellsIn big l->(x,c)∈l->big.lookup x=some c
 |_,.nil,h=>by cases h
 |_,.cons e r,h=>by
  rcases lm.mp h with z|z
  .cases z
   exact e
  .exact r.mem z
theorem xf{js:List Nat}{scope:Scope}{cl:List (Str×Addr)}(clos:closureFor scope X.env=pure cl:=by rfl)(nocell:(scope.names.all λy=>!(y.2 == .cell))=true:=by rfl)(kind:scope.kind=.function:=by rfl)
  (names:(scope.names.all λy=>!(y.2 == .local)||scope.names.lookup y.1==some .local)=true:=by rfl)(cells:CellsIn X.env.cells cl:=by repeat' first|exact CellsIn.nil|refine CellsIn.cons rfl ?_)
  (has:((relabel scope X.env).names.all λy=>!(XN (some y.2))||(cl.lookup y.1).isSome)=true:=by rfl)(len:n+js.length=N.length:=by rfl)
  (free:((N.drop n).zip js).all (λp=>X.N[p.2]? == some p.1&&XN (X.env.scope.names.lookup p.1)&&XN ((relabel scope X.env).names.lookup p.1)&&(cl.lookup p.1).isSome)=true:=by rfl):LcOk X N n js scope cl where
 clos:=clos
 nocell:=λy hy e=>by
  have h:=List.all_eq_true.mp nocell y hy;rw[e]at h;cases h
 kind:=kind
 names:=λy hy e=>by
  have h:=List.all_eq_true.mp names y hy;rw[e]at h;simpa using h
 cells:=λx c h=>cells.mem (qT h)
 has:=λx h=>by
  have key:∀k,(relabel scope X.env).names.lookup x=some k->XN (some k)=true->∃c,cl.lookup x=some c:=λk e hk=>by
   have h1:=List.all_eq_true.mp has (x,k) (qT e);rw[hk]at h1;exact Option.isSome_iff_exists.mp (by simpa using h1)
  rcases h with h|h
  .exact key _ h rfl
  .exact key _ h rfl
 len:=len
 free:=λi x h=>by
  have hd:(N.drop n)[i]? =some x:=by rw[List.getElem?_drop];exact h
  have hi:i<(N.drop n).length:=(lx.mp hd).1;have hj:i<js.length:=by rw[mI]at hi;omega
  have hz:((N.drop n).zip js)[i]? =some (x,js[i]):=by
   rw[List.getElem?_zip_eq_some];exact⟨hd,ls hj⟩
  have h1:=List.all_eq_true.mp free (x,js[i]) (lK hz);simp only[Bool.and_eq_true,beq_iff_eq]at h1;obtain⟨⟨⟨a1,a2⟩,a3⟩,a4⟩:=h1;obtain⟨c,hc⟩:=Option.isSome_iff_exists.mp a4;exact⟨js[i],c,ls hj,a1,Kc a2,Kc a3,hc⟩
abbrev Cel:=Str×Int
abbrev zk4:=List (List Cel)
noncomputable def celD(c:Cel):PyData:=.tuple [.str c.1,.int c.2]
def okC(c:Cel):Prop:=PyData.strOk c.1=true
theorem zgy(c d:Cel):PyData.eqv (celD c) (celD d)=decide (c=d):=by
 obtain⟨x,i⟩:=c;obtain⟨y,j⟩:=d;by_cases h1:x=y<;>by_cases h2:i=j<;>simp[celD,PyData.eqv,PyData.eqvAll,h1,h2]
section
variable {H0 H1:Hp}{av:List Addr}{r t l:Addr}{es:List PyData}{d:PyData}
end
section
variable {H0 H1:Hp}{r b t:Addr}{p:zk4}{row:List Cel}
end
def rLo(K:W.Frag):List V->Hp->VK->Prop:=λxs H Q=>∃p ys,xs=[.ref p]/\(SqL K H p ys\/SqT K H p ys)/\∀l:Addr,H l=none->Q (.ref l) (upd H l (.lst ys))
theorem zab(h:X.K=K):yw X (.type "list") (rLo K):=by
 subst h;exact UM
theorem Y1(h:X.K=K):SlR X (zdM K):=by
 subst h;exact zgv
theorem yY(h:X.K=K):IxR X (K8 K):=by
 subst h;exact zgu
def ziA(K:W.Frag):R2:=λx y H Q=>∃l b xs zs,x=.ref l/\y=.ref b/\SqL K H l xs/\SqL K H b zs/\xs.length+zs.length<=sizeLine/\∀p,H p=none->Q (.ref p) (upd H p (.lst (xs++zs)))
theorem qh(hK:X.K=K):OpR X (binaryOp .Add) (ziA K):=by
 subst hK;intro pins s σ H x y v u Q I rx ry h;obtain⟨l,b,xs,zs,rfl,rfl,hH,hB,hz,q⟩:=h;cases rx;cases ry;obtain⟨its,r,⟨o1,n1,e1,c1,d1,m1⟩,z1⟩:=I.list hH;obtain⟨ita,r2,⟨o2,n2,e2,c2,d2,m2⟩,z2⟩:=I.list hB;obtain⟨g1,g2,g3,g4⟩:=o1;obtain⟨f1,f2,f3,f4⟩:=o2;simp only at c1 d1 m1 c2 d2 m2;subst c1 d1 m1 c2 d2 m2;have hs:its.length+ita.length<=sizeLine:=by
  rw[<-r.length,<-r2.length];exact hz
 have ea:its.toArray++ita.toArray=(its++ita).toArray:=by simp
 refine concat_meets ⟨_,e1,rfl⟩ ⟨_,e2,rfl⟩ noFill_list_add seq_list_add F.slot_list_add F.entry_list_add (F.args_list_add_2 _ _) (list_addW l b its.toArray ita.toArray n1 n2 none none g4 f4 (by simpa using hs)) ⟨e1,e2,?_⟩;rw[ea];exact⟨.ref _,_,I.lnew (t':=s.toks) (r.append r2) (by rw[lI];omega),rfl,q _ I.fresh⟩
section
variable {M:Model}
end
end L2
namespace L2
open PySem PySem.W PySem.Spec PySem.Calls PyProof.Rows
section
variable {e:Addr}{oe:Obj}
end
section
variable {ps:List (Addr×Obj)}{Z:Value->Shared->Prop}{e:Addr}
end
end L2
namespace L2
open PySem PySem.Spec PyProof.Rows
section
variable {js:List Nat}{scope:Scope}{cl:List (Str×Addr)}{y:Str}
end
section
variable {κ:Type}[DecidableEq κ]
noncomputable def xg(kvs:List (κ×V))(k:κ):Option V:=(kvs.find? λkv=>decide (kv.1=k)).map (·.2)
noncomputable def xE(kvs:List (κ×V))(k:κ)(v:V):List (κ×V):=
 if(kvs.any λkv=>decide (kv.1=k))=true then kvs.map (λkv=>if kv.1=k then(kv.1,v)else kv)else kvs++[(k,v)]
noncomputable def jT(kvs:List (κ×V))(k:κ):List (κ×V):=kvs.filter λkv=>decide (kv.1≠k)
theorem jU{p:κ×V}{r:List (κ×V)}{k:κ}(e:p.1=k):xg (p::r) k=some p.2:=by simp[xg,mN,e]
theorem jV{p:κ×V}{r:List (κ×V)}{k:κ}(e:¬p.1=k):xg (p::r) k=xg r k:=by simp[xg,mN,e]
theorem UP(k:κ):∀kvs:List (κ×V),(kvs.any λkv=>decide (kv.1=k))=(xg kvs k).isSome
 |[]=>rfl
 |p::r=>by
  rw[mF];by_cases e:p.1=k
  .simp only[jU e,lQ e,Bool.true_or,Option.isSome_some]
  .rw[jV e,m5 e,Bool.false_or];exact UP k r
theorem qU(kvs:List (κ×V))(k:κ)(v:V):(xE kvs k v).length<=kvs.length+1:=by
 unfold xE;split
 .rw[l6];omega
 .rw[lI,lL,List.length_nil];omega
theorem xC.isSome_eq{o:Option V}{u:Option Value}(r:xC o u):o.isSome=u.isSome:=by
 cases o with
 |none=>cases u with
  |none=>rfl
  |some _=>exact(show False from r).elim
 |some _=>cases u with
  |none=>exact(show False from r).elim
  |some _=>rfl
theorem xC.getD{o:Option V}{u:Option Value}{d:V}{d':Value}(r:xC o u)(rd:RelV d d'):RelV (o.getD d) (u.getD d'):=by
 cases o with
 |none=>cases u with
  |none=>exact rd
  |some _=>exact(show False from r).elim
 |some _=>cases u with
  |none=>exact(show False from r).elim
  |some _=>exact r
theorem KV.val{kvs:List (κ×V)}{vs:List (κ×Value)}(r:KV kvs vs)(k:κ):xC (xg kvs k) (valueAt vs k):=by
 unfold KV at r
 induction r with
 |nil=>exact True.intro
 |@cons p q ps qs h t ih=>
  obtain⟨h1,h2⟩:=h;by_cases e:p.1=k
  .have e':q.1=k:=h1.symm.trans e
   have b:valueAt (q::qs) k=some q.2:=by simp[valueAt,mN,e']
   rw[jU e,b];exact h2
  .have e':¬q.1=k:=λz=>e (h1.trans z)
   have b:valueAt (q::qs) k=valueAt qs k:=by simp[valueAt,mN,e']
   rw[jV e,b];exact ih
theorem KV.any{kvs:List (κ×V)}{vs:List (κ×Value)}(r:KV kvs vs)(k:κ):(kvs.any λkv=>decide (kv.1=k))=vs.any λkv=>decide (kv.1=k):=by
 unfold KV at r
 induction r with
 |nil=>rfl
 |cons h t ih=>rw[mF,mF,ih,h.1]
theorem KV.repl{kvs:List (κ×V)}{vs:List (κ×Value)}(r:KV kvs vs)(k:κ){y:V}(ry:RelV y u) :
  KV (kvs.map λkv=>if kv.1=k then(kv.1,y)else kv) (vs.map λkv=>if kv.1=k then(kv.1,u)else kv):=by
 unfold KV at r ⊢
 induction r with
 |nil=>exact .nil
 |@cons p q ps qs h t ih=>
  rw[lG,lG];refine .cons ?_ ih;obtain⟨h1,h2⟩:=h;by_cases e:p.1=k
  .rw[lg e,lg (h1.symm.trans e)];exact⟨h1,ry⟩
  .rw[l8 e,l8 (λz=>e (h1.trans z))];exact⟨h1,h2⟩
theorem KV.put{kvs:List (κ×V)}{vs:List (κ×Value)}(r:KV kvs vs)(k:κ){y:V}(ry:RelV y u):KV (xE kvs k y) (stored vs k u):=by
 unfold xE stored;rw[r.any k];by_cases e:(vs.any λkv=>decide (kv.1=k))=true
 .rw[lg e,lg e];exact r.repl k ry
 .rw[l8 e,l8 e];exact Paired.snoc r ⟨rfl,ry⟩
theorem KV.drop{kvs:List (κ×V)}{vs:List (κ×Value)}(r:KV kvs vs)(k:κ):KV (jT kvs k) (without vs k):=by
 unfold KV at r ⊢;unfold jT without
 induction r with
 |nil=>exact .nil
 |@cons p q ps qs h t ih=>
  obtain⟨h1,h2⟩:=h;rw[List.filter_cons,List.filter_cons];by_cases e:p.1=k
  .have a:¬decide (p.1≠k)=true:=by simp[e]
   have b:¬decide (q.1≠k)=true:=by simp[h1.symm.trans e]
   rw[l8 a,l8 b];exact ih
  .have e':¬q.1=k:=λz=>e (h1.trans z)
   have a:decide (p.1≠k)=true:=by simp[e]
   have b:decide (q.1≠k)=true:=by simp[e']
   rw[lg a,lg b];exact .cons ⟨h1,h2⟩ ih
theorem KV.keys{kvs:List (κ×V)}{vs:List (κ×Value)}(r:KV kvs vs):kvs.map (·.1)=vs.map (·.1):=by
 unfold KV at r
 induction r with
 |nil=>rfl
 |cons h t ih=>rw[lG,lG,ih,h.1]
theorem KV.length{kvs:List (κ×V)}{vs:List (κ×Value)}(r:KV kvs vs):kvs.length=vs.length:=lF r
theorem zdU(kvs:List (κ×V))(k:κ):(jT kvs k).length<=kvs.length:=List.length_filter_le _ _
end
theorem jW{k:Key}(r:RelV (kV k) u):(yo P w).is k u=true:=by
 cases k with
 |inl i=>obtain⟨t,e⟩:=(show ∃t,u=Value.int i t from r);subst e;exact JA P w i t
 |inr x=>obtain⟨t,e⟩:=(show ∃t,u=Value.str x t from r);subst e;exact JB P w x t
theorem VG:∀{ks:List Key}{us:List Value},Vals (ks.map kV) us->ItemsAre (yo P w) ks us
 |[],_,r=>by rw[List.map_nil]at r;cases r;exact .nil
 |k::ks,_,r=>by
  rw[lG]at r;cases r with
  |cons h t=>exact .cons (jW h) (VG t)
abbrev KT(H:Hp):List (List Key×V)->List (List Key×Addr×Value)->Prop:=Paired λp q=>p.1=q.1/\H q.2.1=some (.tup (p.1.map kV))/\RelV p.2 q.2.2
theorem KT.val{kvs:List (List Key×V)}{xs:List (List Key×Addr×Value)}(r:KT H kvs xs)(k:List Key):xC (xg kvs k) ((atKey xs k).map (·.2)):=by
 induction r with
 |nil=>exact True.intro
 |@cons p q ps qs h t ih=>
  obtain⟨h1,_,h2⟩:=h;by_cases e:p.1=k
  .have e':q.1=k:=h1.symm.trans e
   have b:atKey (q::qs) k=some q.2:=by simp[atKey,mN,e']
   rw[jU e,b];exact h2
  .have e':¬q.1=k:=λz=>e (h1.trans z)
   have b:atKey (q::qs) k=atKey qs k:=by simp[atKey,mN,e']
   rw[jV e,b];exact ih
theorem KT.repl{kvs:List (List Key×V)}{xs:List (List Key×Addr×Value)}(r:KT H kvs xs)(k:List Key){y:V}(ry:RelV y u) :
  KT H (kvs.map λkv=>if kv.1=k then(kv.1,y)else kv) (xs.map (putAt k u)):=by
 induction r with
 |nil=>exact .nil
 |@cons p q ps qs h t ih=>
  rw[lG,lG];refine .cons ?_ ih;obtain⟨h1,h2,h3⟩:=h;unfold putAt;by_cases e:p.1=k
  .rw[lg e,lg (h1.symm.trans e)];exact⟨h1,h2,ry⟩
  .rw[l8 e,l8 (λz=>e (h1.trans z))];exact⟨h1,h2,h3⟩
theorem KT.put{kvs:List (List Key×V)}{xs:List (List Key×Addr×Value)}(r:KT H kvs xs)(k:List Key){b:Addr}{y:V}(hb:H b=some (.tup (k.map kV)))(ry:RelV y u) :
  KT H (xE kvs k y) (storedH xs k b u):=by
 have e:(kvs.any λkv=>decide (kv.1=k))=(atKey xs k).isSome:=by
  rw[UP,(r.val k).isSome_eq,Option.isSome_map]
 unfold xE storedH;rw[e];by_cases q:(atKey xs k).isSome=true
 .rw[lg q,lg q];exact r.repl k ry
 .rw[l8 q,l8 q];exact Paired.snoc r ⟨rfl,hb,ry⟩
theorem KT.keeps{H':Hp}{kvs:List (List Key×V)}{xs:List (List Key×Addr×Value)}(r:KT H kvs xs)(ht:∀b ys,H b=some (.tup ys)->H' b=some (.tup ys)):KT H' kvs xs:=
 Paired.mapP r λ_ _ z=>⟨z.1,ht _ _ z.2.1,z.2.2⟩
theorem zfB{u:HO}(ok:HOk P w H h)(e:Rd H a u):yr P w H h a u:=e.ok ok
theorem zac(ok:HOk P w H h)(e:Rd H a (.dK kvs)):kvs.length<=sizeLine/\(a==sysModules)=false/\∃vs,KV kvs vs/\h.DictOf (yo P w) a vs:=
 show yr P w H h a (.dK kvs)from zfB ok e
theorem jX(ok:HOk P w H h)(e:H a=some (.dK kvs)):kvs.length<=sizeLine/\(a==sysModules)=false/\∃vs,KV kvs vs/\h.DictOf (yo P w) a vs:=zac ok (.inl e)
theorem UQ{ks:List Key}(ok:HOk P w H h)(e:H a=some (.tup (ks.map kV))):(tupleKind (yo P w)).is h ks a:=by
 obtain⟨_,its,r,o,h1,h2,n,h3⟩:=(show yr P w H h a (.tup (ks.map kV))from ok a _ e);exact⟨o,its.toArray,n,h1,h2,h3,by simpa using VG r⟩
theorem zad{kvs:List (List Key×V)}(ok:HOk P w H h)(e:Rd H a (.dT kvs)):kvs.length<=sizeLine/\(a==sysModules)=false/\
  ∃xs,KT H kvs xs/\h.DictOfH (tupleKind (yo P w)) a xs:=by
 obtain⟨z,y,xs,r,o,es,ep,h1,h2,h3,h4,h5⟩:=(show yr P w H h a (.dT kvs)from zfB ok e);refine⟨z,y,xs,r,o,es,ep,h1,h2,h3,h4,λx hx=>?_,h5⟩;have all:∀{l:List (List Key×V)}{m:List (List Key×Addr×Value)},KT H l m->∀x∈m,(tupleKind (yo P w)).is h x.1 x.2.1:=by
  intro l m q
  induction q with
  |nil=>intro x hx;exact nomatch hx
  |@cons p q ps qs hq t ih=>
   intro x hx;rcases lm.mp hx with e|hx
   .subst e
    exact UQ ok (by rw[<-hq.1];exact hq.2.1)
   .exact ih x hx
 exact all r x hx
theorem zkh{kvs:List (List Key×V)}(ok:HOk P w H h)(e:H a=some (.dT kvs)):kvs.length<=sizeLine/\(a==sysModules)=false/\
  ∃xs,KT H kvs xs/\h.DictOfH (tupleKind (yo P w)) a xs:=zad ok (.inl e)
def UR(H:Hp)(a:Addr)(y:V)(r:Option V):Prop:=
 (∃kvs k,Rd H a (.dK kvs)/\y=kV k/\r=xg kvs k)\/∃kvs k b,Rd H a (.dT kvs)/\y=.ref b/\H b=some (.tup (k.map kV))/\r=xg kvs k
def US(H:Hp)(a:Addr)(y v:V)(H':Hp):Prop:=
 (∃kvs k,H a=some (.dK kvs)/\y=kV k/\kvs.length<sizeLine/\H'=upd H a (.dK (xE kvs k v)))\/
 ∃kvs k b,H a=some (.dT kvs)/\y=.ref b/\H b=some (.tup (k.map kV))/\kvs.length<sizeLine/\H'=upd H a (.dT (xE kvs k v))
theorem UR.k{k:Key}(e:H a=some (.dK kvs)):UR H a (kV k) (xg kvs k):=.inl ⟨kvs,k,.inl e,rfl,rfl⟩
theorem US.k{k:Key}(e:H a=some (.dK kvs))(hl:kvs.length<sizeLine):US H a (kV k) v (upd H a (.dK (xE kvs k v))):=.inl ⟨kvs,k,e,rfl,hl,rfl⟩
section
variable {y:V}{r:Value}{o:Option V}
theorem Inv.big(I:Inv X pins σ H s):sysModules<s.heap.objs.size:=by
 have h:mainGlobals<s.heap.objs.size:=(I.mod.glob.keeps I.bk).lt;exact Nat.lt_trans (by decide) h
theorem ju{h':Heap}{t':Nat}{ob:HO}(I:Inv X pins σ H s)(mu:Mut (H a))(hs:Heap.SameBut a s.heap h')(he:∃q,h'.get? a=some q)(new:yr X.prog X.w (upd H a ob) h' a ob) :
  Inv X pins σ (upd H a ob) { s with heap:=h',toks:=t' }:=
 I.write (x:=a) (e:=a) mu (.inl rfl) (λb q hb z=>(hs.2 b hb).trans z) he new
theorem k8{H':Hp}{h':Heap}{vs:List (Key×Value)}(z:kvs.length<=sizeLine)(hd:(a==sysModules)=false)(rel:KV kvs vs)(dd:h'.DictOf (yo P w) a vs) :
  yr P w H' h' a (.dK kvs):=⟨z,hd,vs,rel,dd⟩
theorem zbR{H':Hp}{Q:Unit->Shared->Prop}(hu:A.units+1<cLine)(I:Inv X pins σ H s)(g:US H a y v H')(ry:RelV y u)(rv:RelV v r)(h:∀s',Inv X pins σ H' s'->Q () s') :
  wpAny (model X.prog X.w) A (setItem (.ref a) u r) Q E s:=by
 rcases g with⟨kvs,k,e,ey,l,eH⟩|⟨kvs,k,b,e,ey,eb,l,eH⟩
 .subst ey eH
  obtain⟨z,hd,vs,rel,dd⟩:=jX I.hok e;have hz:vs.length<=sizeLine:=by rw[<-rel.length];exact z
  have hl:(xE kvs k v).length<=sizeLine:=by have:=qU kvs k v;omega
  refine wpAny_setItem_pairs (hsz:=hz) (jW ry) dd λh' dd' hs=>h _ ?_;have he:∃q,h'.get? a=some q:=let⟨q,_,_,hq,_⟩:=dd';⟨q,hq⟩
  exact ju I (by rw[e];exact True.intro) hs he (k8 hl hd (rel.put k rv) dd')
 .subst ey eH
  cases(show u=Value.ref b from ry);obtain⟨z,hd,xs,rel,dd⟩:=zkh I.hok e;have hz:xs.length<=sizeLine:=by rw[<-lF rel];exact z
  have hl:(xE kvs k v).length<=sizeLine:=by have:=qU kvs k v;omega
  refine wpAny_setItem_heap (hsz:=hz) (tupleKind_room_in1 hu) (UQ I.hok eb) dd λh' dd' hs=>h _ ?_;obtain⟨q,es,ep,hq,h2,h3,h4,_,h5⟩:=dd';refine ju I (by rw[e];exact True.intro) hs ⟨q,hq⟩ ⟨hl,hd,_,(rel.put k eb rv).keeps λc ys ec=>?_,q,es,ep,hq,h2,h3,h4,h5⟩;rw[zu (zkb ec e (λz=>nomatch z))];exact ec
end
section
variable {k:Key}
theorem zki{more:List Value}(I:Inv X pins σ H s)(e:H a=some (.dK kvs))(ry:RelV (kV k) u)(l:xg kvs k=some v)(hm:more=[]\/∃x,more=[x])
  (h:∀w' s',Inv X pins σ (upd H a (.dK (jT kvs k))) s'->RelV v w'->Q w' s'):wpAny (model X.prog X.w) A (call (.builtin "dict.pop") (.ref a::u::more)) Q E s:=by
 obtain⟨z,hd,vs,rel,dd⟩:=jX I.hok e;obtain⟨w',hw,rw'⟩:=xC.some_of (v:=v) (o:=valueAt vs k) (by rw[<-l];exact rel.val k);have hp:(keyPart u).isSome=true:=by
  cases k with
  |inl i=>obtain⟨t,q⟩:=(show ∃t,u=Value.int i t from ry);subst q;rfl
  |inr x=>obtain⟨t,q⟩:=(show ∃t,u=Value.str x t from ry);subst q;rfl
 have ha:argsOk "dict.pop" ⟨.ref a::u::more,[]⟩:=by
  rcases hm with q|⟨x,q⟩
  .subst q;exact PySem.F.args_dict_pop_2 _ _
  .subst q;exact PySem.F.args_dict_pop_3 _ _ _
 refine call_meetsIn PySem.F.slot_dict_pop dd.typeIs PySem.F.entry_dict_pop ha (meets_dict_pop_there (yo X.prog X.w) a (jW ry) more hm hp)
  ⟨vs,w',dd,by rw[<-rel.length];exact z,hw,λh' dd' hs=>h w' _ ?_ rw'⟩
 have he:∃q,h'.get? a=some q:=let⟨q,_,_,hq,_⟩:=dd';⟨q,hq⟩
 exact ju I (by rw[e];exact True.intro) hs he (k8 (lT (zdU kvs k) z) hd (rel.drop k) dd')
theorem ziB{r:Value}(I:Inv X pins σ H s)(e:H a=some (.dK kvs))(ry:RelV (kV k) u)(l:xg kvs k=none)(h:∀s',Inv X pins σ H s'->Q r s') :
  wpAny (model X.prog X.w) A (call (.builtin "dict.pop") [.ref a,u,r]) Q E s:=by
 obtain⟨z,hd,vs,rel,dd⟩:=jX I.hok e;have hn:valueAt vs k=none:=xC.none_of (by rw[<-l];exact rel.val k);have hp:(keyPart u).isSome=true:=by
  cases k with
  |inl i=>obtain⟨t,q⟩:=(show ∃t,u=Value.int i t from ry);subst q;rfl
  |inr x=>obtain⟨t,q⟩:=(show ∃t,u=Value.str x t from ry);subst q;rfl
 exact call_meetsIn PySem.F.slot_dict_pop dd.typeIs PySem.F.entry_dict_pop (PySem.F.args_dict_pop_3 _ _ _) (meets_dict_pop_default (yo X.prog X.w) a (jW ry) hd hp r) ⟨vs,dd,hn,h _ (I.tok _)⟩
theorem zgz(I:Inv X pins σ H s)(e:H a=some (.dK kvs))(h:∀s',Inv X pins σ (upd H a (.dK [])) s'->Q .none s'):wpAny (model X.prog X.w) A (call (.builtin "dict.clear") [.ref a]) Q E s:=by
 obtain⟨z,hd,vs,rel,dd⟩:=jX I.hok e;refine call_meetsIn PySem.F.slot_dict_clear dd.typeIs PySem.F.entry_dict_clear (PySem.F.args_dict_clear_1 _) (meets_dict_clear (yo X.prog X.w) a) ⟨vs,dd,by rw[<-rel.length];exact z,λh' dd' hs=>h _ ?_⟩;have he:∃q,h'.get? a=some q:=let⟨q,_,_,hq,_⟩:=dd';⟨q,hq⟩
 exact ju (t':=s.toks) I (by rw[e];exact True.intro) hs he (k8 (lO _) hd .nil dd')
end
def zkj(td ty tv:TE):TS:=λD σ H=>tv σ H λv H1=>td σ H1 λx H2=>ty σ H2 λy H3=>∃a H4,x=.ref a/\US H3 a y v H4/\D.nx σ H4
section
variable {o i value:Expr}{pos' tpos:Pos}{td ty tv:TE}
theorem zgA(hu:X.A.units+1<cLine)(ho:PE X o td)(hi:PE X i ty)(hv:PE X value tv)(hs:swapsWith value (some (.Subscript o i pos')) pos.line X.env=pure false) :
  PS X (.Assign [.Subscript o i pos'] value pos) (zkj td ty tv):=by
 intro pins s σ H D I h;refine wpAny_Assign_Subscript (thn (hv pins s σ H _ I h) λr s1 ⟨v,H1,I1,rv,q1⟩=>thn (ho pins s1 σ H1 _ I1 q1) λu s2 ⟨x,H2,I2,rx,q2⟩=>thn (hi pins s2 σ H2 _ I2 q2) λiv s3 ⟨y,H3,I3,ry,a,H4,ex,g,q3⟩=>?_) hs;subst ex;obtain rfl:u=Value.ref a:=rx;exact zbR hu I3 g ry rv λs4 I4=>⟨σ,H4,I4,q3⟩
end
theorem zdV(h:Heap)(hb:sysModules<h.objs.size):yr P w H (h.push { cls:=.type "dict",data:=.dict #[] }) h.objs.size (.dK []):=
 ⟨lO _,mS.mpr (Ne.symm (lu hb)),[],.nil,Heap.DictOf.new h⟩
def Y2:List (TE×TE)->St->Hp->(List (V×V)->Hp->Prop)->Prop
 |[],_,H,Q=>Q [] H
 |(tk,tv)::r,σ,H,Q=>tk σ H λx H1=>tv σ H1 λy H2=>Y2 r σ H2 λps H3=>Q ((x,y)::ps) H3
abbrev VV:List (V×V)->List (Value×Value)->Prop:=Paired λp q=>RelV p.1 q.1/\RelV p.2 q.2
def PPs(X:Cx)(pos:Pos)(keys:List (Option Expr))(values:List Expr)(trs:List (TE×TE)):Prop:=
 ∀(pins:List (Addr×Obj)) (s:Shared) (σ:St) (H:Hp) (Q:List (V×V)->Hp->Prop),Inv X pins σ H s->Y2 trs σ H Q->
  wpAny (model X.prog X.w) X.A (evalPairs (pairTrees keys values X.env pos)) (λvs s'=>∃ps H',Inv X pins σ H' s'/\VV ps vs/\Q ps H') X.xe s
theorem zgB:PPs X pos [] [] []:=λpins s σ H Q I h=>pairTrees_nil_walk ⟨[],H,I,.nil,h⟩
theorem vW{k v:Expr}{ks:List (Option Expr)}{vs:List Expr}{tk tv:TE}{trs:List (TE×TE)}(hk:PE X k tk)(hv:PE X v tv)(hr:PPs X pos ks vs trs) :
    PPs X pos (some k::ks) (v::vs) ((tk,tv)::trs):=λpins s σ H Q I h=>
  pairTrees_cons_walk (thn (hk pins s σ H _ I h) fun u s1 ⟨x,H1,I1,rx,q1⟩=>thn (hv pins s1 σ H1 _ I1 q1) fun w2 s2 ⟨y,H2,I2,ry,q2⟩=>
    thn (hr pins s2 σ H2 _ I2 q2) λws s3 ⟨ps,H3,I3,rel,q3⟩=>⟨(x,y)::ps,H3,I3,.cons ⟨rx,ry⟩ rel,q3⟩)
noncomputable def xK(kvs more:List (Key×V)):List (Key×V):=more.foldl (λacc kv=>xE acc kv.1 kv.2) kvs
theorem KV.merge:∀{more:List (Key×V)}{rs:List (Key×Value)}{kvs:List (Key×V)}{vs:List (Key×Value)},KV more rs->KV kvs vs->KV (xK kvs more) (merged vs rs):=by
 intro more rs kvs vs r;unfold KV at r
 induction r generalizing kvs vs with
 |nil=>intro q;exact q
 |@cons p q ps qs h t ih=>
  intro r0;have e:KV (xE kvs p.1 p.2) (stored vs q.1 q.2):=by
   have:=r0.put p.1 h.2;rw[<-h.1];exact this
  exact ih e
theorem uA:∀(more kvs:List (Key×V)),(xK kvs more).length<=kvs.length+more.length
 |[],kvs=>by show kvs.length<=kvs.length+0;omega
 |p::r,kvs=>by
  have h1:=uA r (xE kvs p.1 p.2);have h2:=qU kvs p.1 p.2;show(xK (xE kvs p.1 p.2) r).length<=_;rw[lL];omega
theorem Y3{P:Program}{w:World}:∀{kvs:List (Key×V)}{ws:List (Value×Value)},VV (kvs.map λkv=>(kV kv.1,kv.2)) ws->∃rs,Carries (yo P w) ws rs/\KV kvs rs
 |[],_,r=>by rw[List.map_nil]at r;cases r;exact⟨[],True.intro,.nil⟩
 |p::kvs,_,r=>by
  rw[lG]at r;cases r with
  |@cons a b as bs h t=>
   obtain⟨rs,c,q⟩:=Y3 (P:=P) (w:=w) t;obtain⟨b1,b2⟩:=b;exact⟨(p.1,b2)::rs,⟨jW h.1,rfl,c⟩,.cons ⟨rfl,h.2⟩ q⟩
def zfC(trs:List (TE×TE)):TE:=λσ H Q=>∀p,H p=none->Y2 trs σ (upd H p (.dK [])) λps H2=>H2 p=some (.dK [])/\∃kvs:List (Key×V),ps=kvs.map (λkv=>(kV kv.1,kv.2))/\kvs.length<=15/\Q (.ref p) (upd H2 p (.dK (xK [] kvs)))
theorem zgC{keys:List (Option Expr)}{values:List Expr}{trs:List (TE×TE)}(h:PPs X pos keys values trs)(hall:keys.all (·.isSome)=true)(hl:keys.length=values.length)(h0:keys≠[])
  (h15:keys.length<=15):PE X (.Dict keys values pos) (zfC trs):=by
 intro pins s σ H Q I q;have hn:=I.hok.fresh (lp s.heap.objs.size);have I1:=I.laid (a:=s.heap.objs.size) (o:=.dK []) (h':=s.heap.push { cls:=.type "dict",data:=.dict #[] }) (t':=s.toks) (λ_ _ q=>l9 _ q) (lp _) (zdV s.heap I.big);refine wpAny_Dict_walk (knd:=yo X.prog X.w) hall hl h0 h15 (thn (h pins _ σ _ _ I1 (q _ hn)) λws s2 ⟨ps,H2,I2,rel,e,kvs,ep,lk,q2⟩=>?_);subst ep;obtain⟨rs,c,rk⟩:=Y3 (P:=X.prog) (w:=X.w) rel;obtain⟨z,hd,vs0,r0,dd⟩:=jX I2.hok e;cases r0;refine⟨rs,c,dd,λh' dd' hs=>⟨.ref s.heap.objs.size,_,?_,rfl,q2⟩⟩;have hz:(xK [] kvs).length<=sizeLine:=by
  have h1:=uA kvs [];rw[List.length_nil]at h1;rw[lS];omega
 have he:∃q,h'.get? s.heap.objs.size=some q:=let⟨q,_,_,hq,_⟩:=dd';⟨q,hq⟩
 exact ju I2 (by rw[e];exact True.intro) hs he (k8 hz hd (rk.merge .nil) dd')
structure M2 (X:Cx) (o:Expr) (m:Str) (apos:Pos) (e f:Expr) (cpos:Pos):Prop where
  base:attributeBase o m X.env (eval o X.env)=eval o X.env
  few:((backTo cpos (starEach [e,f] X.env)).all (fun x=>!x.1) && (backToKw cpos (keywordEach [] X.env)).all (fun x=>x.1.isSome)
    && decide (([e,f]:List Expr).length+([]:List Keyword).length+(if([]:List Keyword).isEmpty then 0 else 1)<30))=true
  line:(apos.endLine==cpos.line)=true
  trees:backTo cpos (starEach [e,f] X.env)=[(false,eval e X.env),(false,eval f X.env)]
def IsD(H:Hp)(a:Addr):Prop:=(∃kvs,Rd H a (.dK kvs))\/∃kvs,Rd H a (.dT kvs)
theorem zbS(I:Inv X pins σ H s)(d:IsD H a) :
  s.TypeIs (.ref a) "dict"/\(∀b,Value.ref a=.ref b->∃ob,s.heap.get? b=some ob/\ob.dict=none)/\(a==sysModules)=false:=by
 rcases d with⟨kvs,e⟩|⟨kvs,e⟩
 .obtain⟨_,hd,vs,_,dd⟩:=zac I.hok e
  refine⟨dd.typeIs,λb q=>?_,hd⟩;cases q;obtain⟨ob,_,_,h1,h2,_⟩:=dd;exact⟨ob,h1,h2.2.1⟩
 .obtain⟨_,hd,xs,_,dd⟩:=zad I.hok e
  refine⟨dd.typeIs,λb q=>?_,hd⟩;cases q;obtain⟨ob,_,_,h1,h2,_⟩:=dd;exact⟨ob,h1,h2.2.1⟩
section
variable {y d:V}{r:Value}{o:Option V}
theorem ziC(hu:A.units+1<cLine)(I:Inv X pins σ H s)(g:UR H a y o)(ry:RelV y u)(rd:RelV d r)(h:∀w' s',Inv X pins σ H s'->RelV (o.getD d) w'->Q w' s') :
  wpAny (model X.prog X.w) A (call (.builtin "dict.get") [.ref a,u,r]) Q E s:=by
 rcases g with⟨kvs,k,e,ey,l⟩|⟨kvs,k,b,e,ey,eb,l⟩
 .subst ey
  obtain⟨z,hd,vs,rel,dd⟩:=zac I.hok e;refine call_meetsIn PySem.F.slot_dict_get dd.typeIs PySem.F.entry_dict_get (PySem.F.args_dict_get_3 _ _ _) (meets_dict_get_default (yo X.prog X.w) a (jW ry) hd r) ⟨_,dd.mapOf,h _ _ (I.tok _) ?_⟩;rw[l];exact(rel.val k).getD rd
 .subst ey
  cases(show u=Value.ref b from ry);obtain⟨z,hd,xs,rel,dd⟩:=zad I.hok e;refine call_meetsIn PySem.F.slot_dict_get dd.typeIs PySem.F.entry_dict_get (PySem.F.args_dict_get_3 _ _ _) (meetsH_dict_get_default (tupleKind (yo X.prog X.w)) a b hd r) ⟨tupleKind_room_in1 hu,k,xs,UQ I.hok eb,dd,h _ _ (I.tok _) ?_⟩;rw[l];exact(rel.val k).getD rd
end
def zbT(td ty tx:TE):TE:=λσ H Q=>td σ H λx H1=>∃a,x=.ref a/\IsD H1 a/\ty σ H1 λy H2=>tx σ H2 λz H3=>∃o,UR H3 a y o/\Q (o.getD z) H3
def zbU(td ty tx:TE):TE:=λσ H Q=>td σ H λx H1=>∃a,x=.ref a/\IsD H1 a/\ty σ H1 λy H2=>tx σ H2 λz H3=>∃kvs k,H3 a=some (.dK kvs)/\y=kV k/\
 (∀v,xg kvs k=some v->Q v (upd H3 a (.dK (jT kvs k))))/\(xg kvs k=none->Q z H3)
section
variable {o f:Expr}{apos cpos:Pos}{td ty tx:TE}
theorem zdW(hu:X.A.units+1<cLine)(ho:PE X o td)(he:PE X e ty)(hf:PE X f tx)(m:M2 X o "get" apos e f cpos):PE X (.Call (.Attribute o "get" apos) [e,f] [] cpos) (zbT td ty tx):=by
  intro pins s σ H Q I h;refine wpAny_Call_method m.base m.few m.line PySem.F.plainAttrs_dict PySem.F.slot_dict_get PySem.F.type_dict_get (thn (ho pins s σ H _ I h) λu s1 ⟨x,H1,I1,rx,a,ex,d,q1⟩=>?_);subst ex;obtain rfl:u=Value.ref a:=rx;obtain⟨t1,t2,_⟩:=zbS I1 d;refine⟨t1,t2,?_⟩;rw[m.trees];refine my rfl (Calls.evalArgs_plain (Calls.spliced_cons (thn (he pins s1 σ H1 _ I1 q1) fun iv s2 ⟨y,H2,I2,ry,q2⟩=>
    Calls.spliced_cons (thn (hf pins s2 σ H2 _ I2 q2) λfv s3 ⟨z,H3,I3,rz,ov,g,q3⟩=>Calls.spliced_nil ?_))))
  exact ziC hu I3 g ry rz λw' s4 I4 rw'=>⟨_,H3,I4,rw',q3⟩
theorem zdX(ho:PE X o td)(he:PE X e ty)(hf:PE X f tx)(m:M2 X o "pop" apos e f cpos):PE X (.Call (.Attribute o "pop" apos) [e,f] [] cpos) (zbU td ty tx):=by
  intro pins s σ H Q I h;refine wpAny_Call_method m.base m.few m.line PySem.F.plainAttrs_dict PySem.F.slot_dict_pop PySem.F.type_dict_pop (thn (ho pins s σ H _ I h) λu s1 ⟨x,H1,I1,rx,a,ex,d,q1⟩=>?_);subst ex;obtain rfl:u=Value.ref a:=rx;obtain⟨t1,t2,_⟩:=zbS I1 d;refine⟨t1,t2,?_⟩;rw[m.trees];refine my rfl (Calls.evalArgs_plain (Calls.spliced_cons (thn (he pins s1 σ H1 _ I1 q1) fun iv s2 ⟨y,H2,I2,ry,q2⟩=>
    Calls.spliced_cons (thn (hf pins s2 σ H2 _ I2 q2) λfv s3 ⟨z,H3,I3,rz,kvs,k,ea,ey,q3,q4⟩=>Calls.spliced_nil ?_))))
  subst ey;cases l:xg kvs k with
  |some v=>exact zki I3 ea ry l (.inr ⟨fv,rfl⟩) λw' s4 I4 rw'=>⟨v,_,I4,rw',q3 v l⟩
  |none=>exact ziB I3 ea ry l λs4 I4=>⟨z,H3,I4,rz,q4 l⟩
end
section
variable {y:V}
end
end L2
namespace PySem
theorem V8:typeLookup (.type "list") "keys" =pure none:=by rw[typeLookup_type,builtinLookup_eq_fast];kernel_rfl
theorem jv:entryFor table "dict.update.loop" =some Builtin.«dict.update.loop»:=entryFor_of_tree (by kernel_rfl)
theorem xR:plainId "dict.update.loop" =true:=by decide +kernel
theorem JF{o:Obj}{xs:Array Value}{k:Nat}{Q:Option Value->Shared->Prop}
  (hx:s.heap.get? a=some o)(hc:o.cls=.type "list")(hdat:o.data=.seq xs k)(hd:o.dict=none)(hA:A.handled=none)
  (h:∀h' tk,(∀b u,s.heap.get? b=some u->h'.get? b=some u)->Q none { s with heap:=h',toks:=tk }) :
  wpAny (model prog w) A (getAttr? (.ref a) "keys") Q E s:=by
 obtain⟨c,dct,dat,sl⟩:=o;simp only at hc hdat hd;subst hc hdat hd;obtain⟨hp,g,d,tk,os⟩:=s;have hT:∀tk',(⟨hp,g,d,tk',os⟩:Shared).TypeIs (.ref a) "list":=λ_=>⟨_,hx,rfl⟩;have f1:=sub_AttributeError;have f3:=F.slot_list_getattribute.lookup;have f4:=F.slot_list_getattribute.bind (.ref a);have f5:=am_list_getattr_none;have hname:(["__module__","__name__","__qualname__","__doc__","__annotations__"]:List Str).contains "keys" =false:=by decide
 unfold getAttr? getAttrBy? getAttrBy
 repeat(any_goals (first|assumption|exact hT _|((with_reducible show wpAny _ _ (call (Value.builtin "list.__getattribute__") _ _) _ _ _);refine call_meets F.slot_list_getattribute (hT _) am_entry_list_getattribute (F.args_list_getattribute_2 _ _) (meets_getattribute_miss_list a xs k sl "keys" _ V8 hname (by decide)) ⟨hx,hA,λh' tk' e hx'=>?_⟩)|wp_step))
 obtain⟨t',u',he⟩:=hx'.there;show wpAny _ _ (getattributeRaised _ _ _ _ _ _ _) _ _ _;unfold getattributeRaised
 repeat(any_goals (first|assumption|wp_step))
 exact h _ _ hx'.keeps
section
variable {K:Type}[DecidableEq K]{knd:KeyKind prog w K}
theorem zdY(hh:A.handled=none){d it l:Addr}{items:Array Value}{r:Value}{R:Result->Shared->Prop}(hdi:d≠it)(hdl:d≠l)(hil:it≠l) :
  ∀(more:List (K×Value)) (i:Nat) (s:Shared) (kvs:List (K×Value)),i+more.length=items.size->s.heap.DictOf knd d kvs->s.heap.IsListIter it l i->s.heap.IsList l items->
   (∀(j:Nat) kv,more[j]? =some kv->∃t key,items[i+j]? =some (.ref t)/\t≠d/\t≠it/\PyProof.Rows.IsTup s.heap t #[key,kv.2]/\knd.is kv.1 key=true)->kvs.length+more.length<=sizeLine->
   (∀h' tk,h'.DictOf knd d (merged kvs more)->(∀c o,c≠d->c≠it->s.heap.get? c=some o->h'.get? c=some o)->R (.ok (.ret r)) { s with heap:=h',toks:=tk })->
   codeAny (model prog w) A (.builtin "dict.update.loop" ⟨[.ref d,.ref it,rawInt i,r],[]⟩) R s:=by
 intro more
 induction more with
 |nil=>
  intro i s kvs hi hd hit hl hp hz hR;refine codeAny_builtin jv ?_;rw[mO xR _];show wpAny _ A.in1 (pyNext (.ref it) >>= _) _ _ _;refine l7 (wpAny_pyNext_list_end (A:=A.in1) hh hit hl (by simp at hi;simp;omega) λh' eb=>?_);show wpAny _ _ (Builtin.Dict.addKeywords d [] >>= _) _ _ _;exact l7 (lE (lE (hR h' s.toks (hd.extBut eb hdi) λc o _ hc q=>eb c o hc q)))
 |cons kv more ih=>
  intro i s kvs hi hd hit hl hp hz hR;obtain⟨t,key,hx,htd,hti,⟨o,ho,hc,n,hdat⟩,hk⟩:=hp 0 kv rfl;refine codeAny_builtin jv ?_;rw[mO xR _];show wpAny _ A.in1 (pyNext (.ref it) >>= _) _ _ _;refine l7 (wpAny_pyNext_list_item hit hl (x:=.ref t) (by simpa using hx) λh1 hit1 sb1=>?_);have ho1:h1.get? t=some o:=(sb1.2 t hti).trans ho;show wpAny _ _ (holding [.ref t] _ >>= _) _ _ _;refine l7 (mD ?_);refine l7 (mi ?_);unfold Builtin.Dict.pairItems;refine l7 (wpAny_typeOf (T:="tuple") ⟨o,ho1,hc⟩ ?_);rw[lg (by decide)];refine l7 (mK ho1 hdat ?_);refine lE ?_;show wpAny _ _ (holding [key,kv.2] (dictSet d key kv.2)) _ _ _;refine mD (wpAny_dictSet_pairs hk (hd.sameBut sb1 hdi) (λh2 hd2 sb2=>?_) (by simp at hz;omega));show wpAny _ _ (again (.builtin "dict.update.loop" ⟨[.ref d,.ref it,rawInt ((i:Int)+1),r],[]⟩)) _ _ _;have ei:((i:Int)+1)=(((i+1:Nat)):Int):=by omega
  rw[ei];have keep:∀c o,c≠d->c≠it->s.heap.get? c=some o->h2.get? c=some o:=λc o h3 h4 q=>(sb2.2 c h3).trans ((sb1.2 c h4).trans q);refine lE ⟨mG xR _,ih (i+1) _ (stored kvs kv.1 kv.2) (by simp at hi;omega) hd2 ?_ ?_ (λj kv' hj=>?_) ?_ λh3 tk hd3 k3=>?_⟩
  .obtain⟨oi,hoi,r1⟩:=hit1
   exact⟨oi,(sb2.2 it (Ne.symm hdi)).trans hoi,r1⟩
  .obtain⟨ol,hol,r1⟩:=hl
   exact⟨ol,keep l ol (Ne.symm hdl) (Ne.symm hil) hol,r1⟩
  .obtain⟨t',key',h1',h2',h3',⟨o',ho',r'⟩,h5'⟩:=hp (j+1) kv' (by simpa using hj)
   refine⟨t',key',?_,h2',h3',⟨o',keep t' o' h2' h3' ho',r'⟩,h5'⟩;rw[<-h1']
   congr 1
   omega
  .have:=stored_length_le kvs kv.1 kv.2
   simp at hz;omega
  .exact hR h3 tk hd3 λc o h4 h5 q=>k3 c o h4 h5 (keep c o h4 h5 q)
theorem zdZ(hh:A.handled=none){l:Addr}{o:Obj}{items:Array Value}(ho:s.heap.get? l=some o)(hc:o.cls=.type "list")(hdat:o.data=.seq items n)(hnd:o.dict=none){more:List (K×Value)}(hlen:more.length=items.size)
  (hp:∀(j:Nat) kv,more[j]? =some kv->∃t key,items[j]? =some (.ref t)/\PyProof.Rows.IsTup s.heap t #[key,kv.2]/\knd.is kv.1 key=true)(hz:more.length<=sizeLine)
  (h:∀h' tk,h'.DictOf knd s.heap.objs.size (merged [] more)->(∀c o,s.heap.get? c=some o->h'.get? c=some o)->Q (.ref s.heap.objs.size) { s with heap:=h',toks:=tk }) :
  wpAny (model prog w) A (call (.type "dict") [.ref l]) Q E s:=by
 refine callType_codes (Q₁:=λobj s₁=>obj=.ref s.heap.objs.size/\s₁= { s with heap:=s.heap.push { cls:=.type "dict",data:=.dict #[] } }) F.kt_called_dict (F.kt_typeCall_dict_1 _) F.entry_dict_init (kt_code_dict_new _ ⟨rfl,rfl⟩) ?_;rintro obj s₁ ⟨rfl,rfl⟩;have hnew:(s.heap.push { cls:=.type "dict",data:=.dict #[] }).DictOf knd s.heap.objs.size []:=Heap.DictOf.new s.heap;refine⟨hnew.typeIs,F.args_dict_init_2 _ _,?_⟩;have ho1:(s.heap.push { cls:=.type "dict",data:=.dict #[] }).get? l=some o:=l9 _ ho;refine l7 ?_;unfold Builtin.Dict.selfAndRest;refine l7 (wpAny_notOrdered_dict hnew.typeIs ?_);refine lE ?_;show wpAny _ _ (Builtin.Dict.updateFrom "dict.__init__" s.heap.objs.size (.ref l) [] .none) _ _ _;unfold Builtin.Dict.updateFrom;refine l7 (wpAny_typeOf (T:="list") ⟨o,ho1,hc⟩ ?_);rw[lg (by decide)];refine l7 (JF (A:=A.in1.in1) ho1 hc hdat hnd hh λh1 tk k1=>?_);rw[lg (by rfl)];refine l7 (wpAny_rule ?_);have ho2:h1.get? l=some o:=k1 _ _ ho1;refine l7 (wpAny_pyIter_list (items:=items) ⟨o,ho2,hc,n,hdat⟩ ?_);have hlt:s.heap.objs.size<h1.objs.size:=lq (k1 _ _ (ly s.heap (o:={ cls:=.type "dict",data:=.dict #[] }) rfl));have hl0:l<s.heap.objs.size:=lq ho;obtain⟨od,es,ep,hod,rd⟩:=hnew;have kk:∀c u,s.heap.get? c=some u->(h1.push { cls:=.type "list_iterator",data:=.fields #[.ref l,.int 0 0] }).get? c=some u:=λc u q=>l9 _ (k1 _ _ (l9 _ q));refine lE ⟨mG xR _,zdY (knd:=knd) (A:=A.in1) (d:=s.heap.objs.size) (it:=h1.objs.size) (l:=l) (items:=items) hh (lu hlt) (Nat.ne_of_gt hl0) (Nat.ne_of_gt (Nat.lt_trans hl0 hlt)) more 0 _ [] (by rw[hlen];omega) ?_ ?_ ?_ (λj kv hj=>?_) (by simpa using hz) λh' tk' hd' k'=>⟨rfl,?_⟩⟩
 .exact⟨od,es,ep,l9 _ (k1 _ _ hod),rd⟩
 .exact⟨_,ly _ rfl,rfl,rfl⟩
 .exact⟨o,l9 _ ho2,hc,n,hdat⟩
 .obtain⟨t,key,e1,⟨ot,e2,r2⟩,e3⟩:=hp j kv hj
  have ht:t<s.heap.objs.size:=lq e2;exact⟨t,key,by simpa using e1,lu ht,lu (Nat.lt_trans ht hlt),⟨ot,kk _ _ e2,r2⟩,e3⟩
 .exact h h' tk' hd' λc u q=>k' c u (lu (lq q)) (lu (Nat.lt_trans (lq q) hlt)) (kk c u q)
end
end PySem
namespace PySem
open PySem PySem.W PySem.Calls PyProof.Rows
section
variable {T:String}{r d:Addr}{P:Nat->Value->Prop}{OK:Heap->Prop}
theorem UT:∀(vs:List Value) (ns:List Int),vs.length=ns.length->(∀(j:Nat) v,vs[j]? =some v->∃i t,v=Value.int i t/\ns[j]? =some i)->PyProof.Rows.IntsAre vs ns
 |[],[],_,_=>.nil
 |v::vs,i::ns,e,h=>by
  obtain⟨k,t,rfl,hk⟩:=h 0 v rfl;cases hk;exact .cons _ t (UT vs ns (by simpa using e) λj v hj=>h (j+1) v (by simpa using hj))
theorem zgD(C:KdlSrc prog w T r d n P OK)(hh:A.handled=none)(hok:OK s.heap)(hn:n<=sizeLine){ns:List Int}(hns:ns.length=n)(h64:n<64)(hP:∀(j:Nat) v,P j v->∃i t,v=Value.int i t/\ns[j]? =some i)
  (h:∀(h1 h':Heap) (tk:Nat) (out:Array Value) (ns':List Int) (e:Nat),PyProof.Rows.IntsAre out.toList ns'->ns'.Perm ns->ns'.Pairwise (·<=·)->(∀b o,s.heap.get? b=some o->h1.get? b=some o)->(∀b o,h1.get? b=some o->h'.get? b=some o)->h'.get? h1.objs.size=some (seqObj "list" out e)->Q (.ref h1.objs.size) { s with heap:=h',toks:=tk }) :
  wpAny (model prog w) A (call (.builtin "sorted") [.ref r]) Q E s:=by
 refine call_function_entry kind_sorted plain_sorted entry_sorted (args_sorted1 _) ?_;unfold Builtin.«sorted»;refine l7 (m:=checkCount "sorted" 1 1 _) (lE ?_);refine l7 (kdu_collect (A:=A.in1) C hh hok hn λh1 tk acc hk hacc=>?_);have hl:acc.toList.length=n:=by rw[me];exact hacc.1
 refine l7 (wpAny_newList ?_ (by rw[hl];exact hn));have hoL:(h1.push (seqObj "list" acc.toList.toArray 0)).get? h1.objs.size=some (seqObj "list" acc.toList.toArray 0):=ly _ rfl;have hI:PyProof.Rows.IntsAre acc.toList ns:=UT _ _ (by rw[hl,hns]) λj v hj=>hP j v (hacc.2 j v (by rw[<-Array.getElem?_toList];exact hj));refine l7 (mD (wpAny_call_entry slot_list_sort ⟨_,hoL,rfl⟩ entry_list_sort (list_sort_tree hoL hI (by rw[hl];exact h64) λout ns' a1 a2 a3=>⟨_,rfl,?_⟩) (args_list_sort _)));obtain⟨e,he⟩:=sortedHeap_at (out:=out) hoL;exact lE ⟨_,rfl,h h1 _ tk out ns' e a1 a2 a3 hk (λb o q=>by rw[sortedHeap_old (lu (lq q)) (by rw[size_push'];exact Nat.lt_succ_of_lt (lq q))];exact l9 _ q) he⟩
end
end PySem
namespace L2
open PySem PySem.Spec PyProof.Rows
theorem Inv.turnedL{h':Heap}{t':Nat}{fp:List Addr}(I:Inv X pins σ H s)(k:∀b o,b∉fp->s.heap.get? b=some o->h'.get? b=some o)
  (hf:∀b∈fp,FpOk X pins H b):Inv X pins σ H { s with heap:=h',toks:=t' }:=by
 have nit:∀b u,H b=some u->b∉fp:=λb u e z=>by rw[(hf b z).1]at e;cases e
 refine I.step (g':=s.gens) (d':=s.drawn) (ch:=fp) (λb hb=>?_) (λb o _ _ hc e _=>k b o hc e) (λb o _ _ hc e _=>⟨o.slots,k b o hc e⟩) (λ_ _ _ _ n=>n)
  (λb o hc e=>⟨o,k b o hc e⟩) (λ_ _ e=>e) (λ_ _ _ e=>e) (λb ps e=>⟨#[],by rw[e];simp⟩) (λm hm=>?_) (λb u e=>?_) I.bare
 .obtain⟨f0,f1,f2,f3,f4,f5⟩:=hf b hb
  exact⟨f3,f1,f4,f5⟩
 .obtain⟨o,es,ep,ho,r⟩:=hm
  exact⟨o,es,ep,k _ o (λz=>(hf _ z).2.1 rfl) ho,r⟩
 .refine(I.hok b u e).stay (λc v hc q=>k c v ?_ q) (λ_ q=>q) λ_ _ q=>q
  rcases hc with z|z
  .rw[z];exact nit b u e
  .exact nit c _ z
noncomputable def Ite(K:W.Frag)(a:Addr):It:=
 ⟨λi H=>∃xs x,SqL K H a xs/\xs[i]? =some x,λi H x H'=>∃t y,x=.ref t/\H t=none/\H'=upd H t (.tup [.int i,y])/\∀xs,SqL K H a xs->xs[i]? =some y,λi H=>∃xs,SqL K H a xs/\xs.length<=i⟩
theorem zbV{k:Nat}(a e it:Addr)(hne:e≠it) :
    Turn P w K (.Tuple es k pos) (Ite K a) [e,it] e (λi h=>(∃old,IsEnum h e it (i:Nat) old)/\h.IsListIter it a i) where
  mem:=by simp
  obj:=λi h st b hb=>by
    obtain⟨⟨old,he⟩,o,e1,c,d⟩:=st;have hb':b=e\/b=it:=by simpa using hb
    rcases hb' with rfl|rfl
    · exact⟨_,he,fun v z=>by
        have z':Data.fields _=Data.cell v:=z;cases z'⟩
    · exact⟨o,e1,λv z=>by rw[d]at z;cases z⟩
  keep:=λi h h' st k=>⟨st.1.elim λold he=>⟨old,k e (by simp) _ he⟩,st.2.at λo q=>k it (by simp) o q⟩
  item:=by
    intro X hP hw hK hc i pins s σ H E I hf st hg;subst hP hw hK;obtain⟨⟨old,he⟩,hit⟩:=st;obtain⟨xs,x,hq,hx⟩:=hg;obtain⟨its,rv,p,hz⟩:=I.list hq;obtain⟨u,hu,ru⟩:=rv.get hx;refine wpAny_pyNext_enum_item he hit p.isList (x:=u) (by simpa using hu) hne λh' he' hit' ht hsz kk=>?_;refine⟨_,rfl,wpAny_letOwnedTupleGo_enum he' λh2 he2 sb=>?_⟩;have hn:=I.hok.fresh (lp s.heap.objs.size);have I1:Inv X pins σ (upd H s.heap.objs.size (.tup [.int i,x])) { s with heap:=s.heap.push { cls:=.type "tuple",data:=.seq [Value.int i s.toks,u].toArray },toks:=s.toks+1 }:=
      I.laid (λb o e=>l9 _ e) (lp _) ⟨by show 2<=sizeLine;decide,[Value.int i s.toks,u],.cons ⟨_,rfl⟩ (.cons ru .nil),IsTup.new s.heap _⟩
    have lt:∀b∈[e,it],b≠s.heap.objs.size:=λb hb=>by
      have hb':b=e\/b=it:=by simpa using hb
      rcases hb' with rfl|rfl
      · exact lu (lq he)
      · obtain⟨o,e1,_⟩:=hit
        exact lu (lq e1)
    have nt:∀b∈[e,it],upd H s.heap.objs.size (.tup [.int i,x]) b=none:=λb hb=>by rw[zu (lt b hb)];exact(hf b hb).1
    have I2:=I1.turnedL (h':=h2) (t':=s.toks+1) (fp:=[e,it]) (fun b o hb q=>by
      have h1:b≠e:=λz=>hb (by simp[z]);have h2':b≠it:=λz=>hb (by simp[z]);by_cases hbz:b=s.heap.objs.size
      · subst hbz
        have q':(s.heap.push { cls:=.type "tuple",data:=.seq #[Value.int i s.toks,u] }).get? s.heap.objs.size=some o:=q;rw[ly s.heap (o:={ cls:=.type "tuple",data:=.seq #[Value.int i s.toks,u] }) rfl]at q';exact(sb.2 _ h1).trans (ht.trans q')
      · have q':(s.heap.push { cls:=.type "tuple",data:=.seq #[Value.int i s.toks,u] }).get? b=some o:=q
        rw[Heap.get?_push_ne _ _ _ hbz]at q';exact(sb.2 b h1).trans (kk b o h1 h2' q')) λb hb=>⟨nt b hb,(hf b hb).2⟩
    have ei:((i:Int)+1)=(((i+1:Nat)):Int):=by omega
    refine⟨.ref s.heap.objs.size,_,I2,rfl,⟨_,x,rfl,hn,rfl,λys hy=>by rw[I.list_inj hy hq];exact hx⟩,⟨⟨_,ei▸he2⟩,hit'.at λo q=>(sb.2 it (Ne.symm hne)).trans q⟩,nt⟩
  done:=by
    intro X hP hw hK hc i pins s σ H E I hf st hg;subst hP hw hK;obtain⟨⟨old,he⟩,hit⟩:=st;obtain⟨xs,hq,hx⟩:=hg;obtain⟨its,rv,p,hz⟩:=I.list hq;have hl:=rv.length;obtain⟨f0,f1,f2,f3,f4,f5⟩:=hf it (by simp);exact wpAny_pyNext_enum_end (I.ok.hd hc) he hit p.isList (by simp;omega) λh' eb=>⟨rfl,I.turned (t':=s.toks) (λb o hb e=>eb b o hb e) f0 f1 f3 f4 f5⟩
  self:=λ_ _ _ _ _ st h=>st.1.elim λold he=>wpAny_pyIter_enum he h
def zae(K:W.Frag)(ta:TA):TI:=λσ H R=>ta σ H λvs H1=>∃a,vs=[.ref a]/\(∃xs,SqL K H1 a xs)/\R (Ite K a) H1
theorem zgE{k:Nat}{tp:Pos}{l:Expr}{ta:TA}{p:Pos}(hg:Gl X "enumerate")(hm:X.mg "enumerate" =none)(ha:PA X [l] ta)(hs:starEach [l] X.env=[(false,eval l X.env)]:=by rfl) :
  PI X (.Tuple es k tp) (.Call (.Name "enumerate" p) [l] [] pos) (zae X.K ta):=by
 intro pins s σ H R I h;refine Call_ (vD I hg hm boot_enumerate (mh (thn (ha pos pins s σ H _ I h) λus s1 ⟨vs,H1,I1,r1,q1⟩=>?_) hs rfl));obtain⟨a,e,⟨xs,hq⟩,q⟩:=q1;subst e;cases r1 with
 |cons r rr=>
  cases rr;cases r;obtain⟨its,rv,p,hz⟩:=I1.list hq;refine call_enumerate_list p.isList λh' hE hI hsz hk=>wpAny_pyIter_enum hE ?_;refine⟨s1.heap.objs.size+1,[s1.heap.objs.size+1,s1.heap.objs.size],_,_,H1,rfl,I1.kept (t':=s1.toks) hk,zbV a _ _ (Nat.succ_ne_self _),⟨⟨_,hE⟩,hI⟩,λb hb=>?_,q⟩;have hb':b=s1.heap.objs.size+1\/b=s1.heap.objs.size:=by simpa using hb
  rcases hb' with rfl|rfl
  .exact I1.fpOk (Nat.le_succ _) (I1.hok.fresh (Nat.le_succ _))
  .exact I1.fpOk (lp _) (I1.hok.fresh (lp _))
noncomputable def ziD(lo c:Int)(n:Nat):It:=⟨λi _=>i<n,λi H x H'=>H'=H/\x=.int (lo+(i:Nat)*c),λi _=>n<=i⟩
theorem JG(it:Addr)(lo c:Int)(n:Nat):Turn P w K tg (ziD lo c n) [it] it (λi h=>IsRangeIter h it (lo+(i:Nat)*c) ((n:Int)-(i:Nat)) c) where
 mem:=by simp
 obj:=λi h st b hb=>by
  have e:b=it:=by simpa using hb
  subst e;exact⟨_,st,fun v z=>by
   have z':Data.fields _=Data.cell v:=z;cases z'⟩
 keep:=λi h h' st k=>k it (by simp) _ st
 item:=by
  intro X hP hw hK hc i pins s σ H E I hf st hg;subst hP hw hK;obtain⟨f0,f1,f2,f3,f4,f5⟩:=hf it (by simp);have W:=Walks.range (prog:=X.prog) (w:=X.w) (I.ok.hd hc) it lo c n;refine W.item i s _ _ hg st λv h' tk hv st' kk=>?_;obtain⟨t,rfl⟩:=hv;have I1:Inv X pins σ H { s with heap:=h',toks:=tk }:=I.turned (λb o hb e=>kk b o (by simpa using hb) e) f0 f1 f3 f4 f5;exact⟨_,rfl,ZW (s:={ s with heap:=h',toks:=tk }) (n:="range_iterator") st' rfl rfl (by decide) ⟨.int (lo+(i:Nat)*c),H,I1,⟨t,rfl⟩,⟨rfl,rfl⟩,st',λb hb=>(hf b hb).1⟩⟩
 done:=by
  intro X hP hw hK hc i pins s σ H E I hf st hg;subst hP hw hK;obtain⟨f0,f1,f2,f3,f4,f5⟩:=hf it (by simp);exact wpAny_pyNext_range_end (I.ok.hd hc) st (by have:n<=i:=hg;omega) λh' eb=>⟨rfl,I.turned (t':=s.toks) (λb o hb e=>eb b o hb e) f0 f1 f3 f4 f5⟩
 self:=λ_ _ _ _ _ st h=>wpAny_pyIter_rangeiter st h
def R3(i j c:Int)(n:Nat):Prop:=c≠0/\Builtin.Range.small i j c=true/\Builtin.Range.rangeSize i j c=n/\Builtin.divisionGoesByPylong (j-i) c=false
def zfD(ta:TA):TI:=λσ H R=>ta σ H λvs H1=>∃(i j c:Int) (n:Nat),vs=[.int i,.int j,.int c]/\R3 i j c n/\R (ziD i c n) H1
theorem zbW{a b c:Expr}{ta:TA}{p:Pos}(hg:Gl X "range")(hm:X.mg "range" =none)(ha:PA X [a,b,c] ta)(hs:starEach [a,b,c] X.env=(false,eval a X.env)::starEach [b,c] X.env:=by rfl)
  (hs2:(backTo pos (starEach [b,c] X.env)).any (·.1)=false:=by rfl):PI X tg (.Call (.Name "range" p) [a,b,c] [] pos) (zfD ta):=by
 intro pins s σ H R I h;refine Call_ (vD I hg hm boot_range (mh (thn (ha pos pins s σ H _ I h) λus s1 ⟨vs,H1,I1,r1,q1⟩=>?_) hs hs2));obtain⟨i,j,k,n,e,⟨k0,sm,sz,dv⟩,q⟩:=q1;subst e;cases r1 with
 |cons r rr=>
  cases rr with
  |cons r' rr=>
   cases rr with
   |cons r2 rr=>
    cases rr;obtain⟨t,rfl⟩:=r;obtain⟨t',rfl⟩:=r';obtain⟨t2,rfl⟩:=r2;refine call_range_3 k0 ?_ (.inl dv);refine wpAny_pyIter_range (IsRange.new ..) sm ?_;have I2:Inv X pins σ H1 { s1 with heap:=s1.heap.push { cls:=.type "range",data:=.fields #[.int i t,.int j t',.int k t2] } }:=I1.kept (t':=s1.toks) λb o e=>l9 _ e;refine⟨_,[(s1.heap.push { cls:=.type "range",data:=.fields #[.int i t,.int j t',.int k t2] }).objs.size],_,_,H1,rfl,I2.kept (t':=s1.toks) λb o e=>l9 _ e,JG _ i k n,?_,λb hb=>?_,q⟩
    .have e1:i+((0:Nat):Int)*k=i:=by simp
     have e2:((n:Nat):Int)-((0:Nat):Int)=Builtin.Range.rangeSize i j k:=by rw[sz];simp
     show IsRangeIter _ _ (i+((0:Nat):Int)*k) (((n:Nat):Int)-((0:Nat):Int)) k;rw[e1,e2];exact ly _ rfl
    .have e:b=(s1.heap.push { cls:=.type "range",data:=.fields #[.int i t,.int j t',.int k t2] }).objs.size:=by simpa using hb
     subst e;exact I2.fpOk (lp _) (I2.hok.fresh (lp _))
noncomputable def srt(ns:List Int):List Int:=ns.mergeSort λa b=>decide (a<=b)
theorem zbX(ns:List Int):(srt ns).Pairwise (·<=·):=by
 have h:=List.pairwise_mergeSort (le:=λa b:Int=>decide (a<=b)) (λa b c h1 h2=>by simp at h1 h2 ⊢;omega) (λa b=>by simp;omega) ns;exact h.imp λh=>by simpa using h
theorem UU:∀{a b:List Int},a.Perm b->a.Pairwise (·<=·)->b.Pairwise (·<=·)->a=b
 |[],b,h,_,_=>by
  have:=h.length_eq;cases b with
  |nil=>rfl
  |cons=>cases this
 |x::a,[],h,_,_=>by cases h.length_eq
 |x::a,y::b,h,ha,hb=>by
  have e:x=y:=by
   have h1:x∈y::b:=h.mem_iff.mp (li ..);have h2:y∈x::a:=h.mem_iff.mpr (li ..);have l1:x<=y:=by
    rcases lm.mp h2 with z|z
    .exact Int.le_of_eq z.symm
    .exact(mL.mp ha).1 y z
   have l2:y<=x:=by
    rcases lm.mp h1 with z|z
    .exact Int.le_of_eq z.symm
    .exact(mL.mp hb).1 x z
   omega
  subst e;rw[UU (List.Perm.cons_inv h) (mL.mp ha).2 (mL.mp hb).2]
theorem zbY{ns ns':List Int}(h1:ns'.Perm ns)(h2:ns'.Pairwise (·<=·)):ns'=srt ns:=UU (h1.trans (List.mergeSort_perm ns _).symm) h2 (zbX ns)
theorem jw(ns:List Int):(srt ns).length=ns.length:=(List.mergeSort_perm ns _).length_eq
theorem vF:∀{ns:List Int}{us:List Value},Vals (ns.map V.int) us->IntsAre us ns
 |[],_,h=>by cases h;exact .nil
 |n::ns,_,h=>by
  cases h with
  |cons h1 h2=>
   obtain⟨t,rfl⟩:=h1;exact .cons n t (vF h2)
def zfE(K:W.Frag):List V->Hp->VK->Prop:=λxs H Q=>∃a ns,xs=[.ref a]/\SqL K H a (ns.map V.int)/\ns.length<64/\∀p,H p=none->Q (.ref p) (upd H p (.lst ((srt ns).map V.int)))
theorem UV:yw X (.builtin "sorted") (zfE X.K):=by
 intro pins s σ H xs us Q I r h;obtain⟨a,ns,rfl,hq,hl,q⟩:=h;obtain⟨u,rfl,ru⟩:=r.one;cases ru;obtain⟨its,rv,p,hz⟩:=I.list hq;have hI:=vF rv;have hlen:=rv.length;rw[l6]at hlen;refine sorted_ints p.isList hI (by omega) λout ns' a1 a2 a3=>?_;obtain⟨e,he⟩:=sortedAll_at s.heap its out;have en:=zbY a2 a3;subst en;refine⟨.ref (s.heap.objs.size+1),_,I.laid (a:=s.heap.objs.size+1) (o:=.lst ((srt ns).map V.int)) (t':=s.toks) (λb o e=>sortedAll_old e) (Nat.le_succ _) ⟨?_,out.toList,e,qK a1,?_⟩,rfl,q _ (I.hok.fresh (Nat.le_succ _))⟩
 .rw[l6,jw,lS];omega
 .rw[Array.toArray_toList];exact he
def Up:List V->Hp->VK->Prop:=λxs H Q=>∃a kvs ns,xs=[.ref a]/\H a=some (.dK kvs)/\kvs.map (·.1)=ns.map (Sum.inl:Int->Key)/\ns.length<64/\∀p,H p=none->Q (.ref p) (upd H p (.lst ((srt ns).map V.int)))
theorem UW(hc:X.calm=true):yw X (.builtin "sorted") Up:=by
 intro pins s σ H xs us Q I r h;obtain⟨a,kvs,ns,rfl,e,hk,hl,q⟩:=h;obtain⟨u,rfl,ru⟩:=r.one;cases ru;obtain⟨z,hd,vs,rel,dd⟩:=jX I.hok e;obtain⟨ep,hat⟩:=dd.dictAt;have kk:=rel.keys;rw[hk]at kk;have hlen:ns.length=vs.length:=by have:=mw List.length kk;simpa using this
 refine zgD (PySem.W.kdl_dict (knd:=yo X.prog X.w) (kvs:=vs) (ep:=ep) hd) (I.ok.hd hc) hat (by rw[lS];omega) (ns:=ns) hlen (by omega) (λj v hv=>?_) λh1 h' tk out ns' e' a1 a2 a3 k1 k2 hp=>?_
 .obtain⟨k,x,hx,hkv⟩:=hv
  have h2:(vs.map (·.1))[j]? =some k:=by rw[lw,hx];rfl
  rw[<-kk,lw]at h2;cases hn:ns[j]? with
  |none=>rw[hn]at h2;cases h2
  |some i=>
   rw[hn]at h2;have h3:(Sum.inl i:Key)=k:=lU h2;subst h3;rcases yF (k:=Sum.inl i) (show qH (Sum.inl i) v=true from hkv)with⟨i',t,e1,e2⟩|⟨x',t,e1,e2⟩
   .cases e1
    exact⟨i,t,e2,rfl⟩
   .cases e1
 .have en:=zbY a2 a3
  subst en;have I1:Inv X pins σ H { s with heap:=h1 }:=I.kept (t':=s.toks) k1;refine⟨.ref h1.objs.size,_,I1.laid (a:=h1.objs.size) (o:=.lst ((srt ns).map V.int)) (t':=tk) k2 (lp _) ⟨?_,out.toList,e',qK a1,?_⟩,rfl,q _ (I1.hok.fresh (lp _))⟩
  .rw[l6,jw,lS];omega
  .rw[Array.toArray_toList];exact hp
def Y4(K:W.Frag)(H:Hp):List V->List (Key×V)->Prop:=Paired λy kv=>∃t,y=.ref t/\SqT K H t [kV kv.1,kv.2]
theorem Y4.keep{H':Hp}{ys:List V}(h:Y4 K H ys kvs)(k:∀b xs,SqT K H b xs->SqT K H' b xs):Y4 K H' ys kvs:=
 Paired.imp' (λy kv ⟨t,e,q⟩=>⟨t,e,k t _ q⟩) h
def zbZ(K:W.Frag):List V->Hp->VK->Prop:=λxs H Q=>∃a ys kvs,xs=[.ref a]/\SqL K H a ys/\Y4 K H ys kvs/\kvs.length<=1000/\∀p,H p=none->Q (.ref p) (upd H p (.dK (xK [] kvs)))
theorem zaf(hc:X.calm=true):yw X (.type "dict") (zbZ X.K):=by
 intro pins s σ H xs us Q I r h;obtain⟨a,ys,kvs,rfl,hq,hp,hl,q⟩:=h;obtain⟨u,rfl,ru⟩:=r.one;cases ru;obtain⟨its,rv,⟨o,n,e,c,hnd,dt⟩,hz⟩:=I.list hq;have l1:=lF hp;have l2:=rv.length;have hval:∃ws:List (Key×Value),KV kvs ws/\∀(j:Nat) kv,ws[j]? =some kv->∃t key,its[j]? =some (.ref t)/\IsTup s.heap t #[key,kv.2]/\(yo X.prog X.w).is kv.1 key=true:=by
  clear q dt e hz l1 l2 hq
  induction hp generalizing its with
  |nil=>exact⟨[],.nil,λj kv hj=>by simp at hj⟩
  |@cons y kv ys kvs hy t ih=>
   cases rv with
   |@cons _ w1 _ ws1 r1 r2=>
    obtain⟨ws,k1,k2⟩:=ih (by simp at hl;omega) _ r2;obtain⟨b,rfl,hb⟩:=hy;cases r1;obtain⟨tt,rt,pt,_⟩:=I.tuple hb;cases rt with
    |@cons _ key _ t1 rk t1r=>
     cases t1r with
     |@cons _ v _ t2 rv' t2r=>
      cases t2r;refine⟨(kv.1,v)::ws,.cons ⟨rfl,rv'⟩ k1,λj kv' hj=>?_⟩;cases j with
      |zero=>
       cases hj;obtain⟨ot,e1,e2,_,e3⟩:=pt;exact⟨b,key,rfl,⟨ot,e1,e2,_,e3⟩,jW rk⟩
      |succ j=>
       obtain⟨t',key',g1,g2,g3⟩:=k2 j kv' (by simpa using hj);exact⟨t',key',by simpa using g1,g2,g3⟩
 obtain⟨ws,k1,k2⟩:=hval;have l3:=k1.length;refine zdZ (knd:=yo X.prog X.w) (I.ok.hd hc) e c dt hnd (more:=ws) (by simp;omega) (λj kv hj=>?_) (by rw[lS];omega) λh' tk dd kk=>?_
 .obtain⟨t,key,g1,g2,g3⟩:=k2 j kv hj
  exact⟨t,key,by simpa using g1,g2,g3⟩
 .refine⟨.ref s.heap.objs.size,_,I.laid (a:=s.heap.objs.size) (o:=.dK (xK [] kvs)) (t':=tk) kk (lp _) ?_,rfl,q _ (I.hok.fresh (lp _))⟩
  have hz2:(xK [] kvs).length<=sizeLine:=by
   have h1:=uA kvs [];rw[List.length_nil]at h1;rw[lS];omega
  exact k8 hz2 (mS.mpr (Ne.symm (lu I.big))) (KV.merge k1 .nil) dd
def Kd:V->List V->Hp->VK->Prop:=λx vs H Q=>∃a kvs,x=.ref a/\vs=[]/\H a=some (.dK kvs)/\Q .non (upd H a (.dK []))
theorem zb0:MtR X "dict.clear" Kd:=by
 intro pins s σ H x xs v us Q I rx r h;obtain⟨a,kvs,rfl,rfl,e1,q⟩:=h;cases r;cases rx;exact zgz I e1 λs' I'=>⟨.non,_,I',rfl,q⟩
structure CalM (P:Program) (w:World) (K:W.Frag) (mg:Str->Option Value) (base:Heap) (k:Nat) (x:Str) (C:Addr) (sp:Sp):Prop where
 ex:∃(f:Addr) (fd:FuncData) (ps:List Str),Mk K C f/\FnOk P w K mg base CX0 k f fd ps sp/\mg x=some (.ref C)/\Binds K fd ps []
section
variable {k:Nat}{sp:Sp}{p:Pos}
theorem jx(c:CalM X.prog X.w X.K X.mg X.base k x C sp)(hr:Room (k+1) X.A)(hg:Gl X x)(ha:PA X (e::es) t)(hdb:(x==("__debug__":Str))=false:=by decide)
  (he:starEach (e::es) X.env=(false,eval e X.env)::starEach es X.env:=by rfl)(hpl:(backTo pos (starEach es X.env)).any (·.1)=false:=by rfl):PE X (.Call (.Name x p) (e::es) [] pos) (YY C sp [] E0 t):=by
 obtain⟨f,fd,ps,M,F,hm,hb⟩:=c.ex;exact zgt M F hr hg hm hb .nil Y0 ha hdb he hpl
end
theorem qL{i:Int}(hg:Gl X x)(h:∃t,X.mg x=some (.int i t))(hd:(x==("__debug__":Str))=false:=by decide):PE X (.Name x pos) (tC (.int i)):=by
 obtain⟨t,e⟩:=h;exact jt hg e ⟨t,rfl⟩ hd
noncomputable def cE:Expr->Option V
 |.Constant (.int i) _ _=>some (.int i)
 |.Constant .none _ _=>some .non
 |.Constant (.bool b) _ _=>some (.bl b)
 |.Constant (.str x) _ _=>some (.str x)
 |_=>none
noncomputable def zag:List Expr->Option (List V)
 |[]=>some []
 |e::es=>match cE e,zag es with
  |some v,some vs=>some (v::vs)
  |_,_=>none
def tCs(vs:List V):TA:=λ_ H Q=>Q vs H
theorem zkk(h:cE e=some v):PE X e (tC v):=by
 unfold cE at h;split at h
 .cases h;exact zd
 .cases h;exact yG
 .cases h;exact yC
 .cases h;exact zS
 .cases h
theorem zgF(h:cE e=some v):UO e=true:=by
 unfold cE at h;split at h<;>first|rfl|cases h
theorem zb1:∀{es:List Expr}{vs:List V},zag es=some vs->QA X es (tCs vs)
 |[],vs,h=>by
  cases h;exact qn
 |e::es,vs,h=>by
  simp only[zag]at h;split at h
  .rename_i v ws h1 h2
   cases h;exact qc (zkk h1) (zb1 h2) (zgF h1)
  .cases h
theorem uY(h:zag es=some vs):PE X (.List es pos) (UG (tCs vs)):=yS (zb1 h)
end L2
namespace L2
open PySem PySem.W PySem.Calls PyProof.Rows
theorem VH{vs:List Value}{ns:List Int}(hi:IntsAre vs ns):∃xs,vs.toArray=PySem.intItems xs/\ns=xs.toList.map (·.1):=by
 obtain⟨xs,e⟩:=hi.allInts.items;exact⟨xs,e,by rw[<-hi.numsOf,<-nums_intItems,<-e]⟩
end L2
namespace PySem
open PySem PySem.W PySem.Calls PyProof.Rows
section
variable {R:Result->Shared->Prop}{I S:Addr}{fp wr:List Addr}{P:Nat->Value->Prop}{St:Nat->Heap->Prop}
def zah(val:Nat->Int)(j:Nat)(v:Value):Prop:=∃b t,b<j/\v=.int (val b) t/\∀i,i<j->val b<=val i
theorem zd0(W:Walks prog w A.in1 I fp wr n P St)(val:Nat->Int)(hval:∀i v,P i v->∃t,v=.int (val i) t)(hSf:S∉fp)(d:Value)(k:Nat) :
  ∀(j:Nat) (s:Shared) (held:Array Value) (c:Nat),n-j=k->j<=n->St j s.heap->((j= 0/\held= #[])\/∃v,zah val j v/\held= #[v,v])->
   s.heap.get? S=some { cls:=.type "list",dict:=none,data:=.seq held c,slots:=#[] }->
   (∀v h' tk,((n= 0/\v=d)\/zah val n v)->(∀b o,b∉wr->b≠S->s.heap.get? b=some o->h'.get? b=some o)->R (.ok (.ret v)) { s with heap:=h',toks:=tk })->
   codeAny (model prog w) A (.builtin "min.loop" ⟨[.ref I,.none,.ref S],[("default",d)]⟩) R s:=by
 have w0:S∉wr:=λz=>hSf (W.sub _ z);have nm:(toString "min" ++ toString ".loop":String)= "min.loop":=by decide
 induction k with
 |zero=>
  intro j s held c ek ej est eh eS fin;have ejn:j=n:=by omega
  subst ejn;refine codeAny_builtin F.entry_min_loop ?_;rw[mO F.plain_min_loop _];rcases eh with⟨e0,rfl⟩|⟨v,hv,rfl⟩
  .show wpAny _ A.in1 (seqItems? (.ref S) >>= _) _ _ s
   refine l7 (mK eS rfl (?_:wpAny _ A.in1 (tryCatch (pyNext (.ref I)) _ >>= _) _ _ s));refine l7 (mi (W.done s _ _ est λh1 tk1 kept=>?_));refine l7 (wpAny_rule (lE ?_));exact fin d h1 tk1 (.inl ⟨e0,rfl⟩) λb o h2 _ h3=>kept b o h2 h3
  .show wpAny _ A.in1 (seqItems? (.ref S) >>= _) _ _ s
   refine l7 (mK eS rfl (?_:wpAny _ A.in1 (tryCatch (pyNext (.ref I)) _ >>= _) _ _ s));refine l7 (mi (W.done s _ _ est λh1 tk1 kept=>?_));have eS1:=kept S _ w0 eS;refine l7 (m:=updateSeq S (λ_=>#[])) (wpAny_updateSeq eS1 rfl (l7 (wpAny_letGo (lE ?_))));exact fin v _ tk1 (.inr hv) λb o h2 h3 h4=>(lW _ _ (Ne.symm h3)).trans (kept b o h2 h4)
 |succ k ih=>
  intro j s held c ek ej est eh eS fin;have lt:j<n:=by omega
  refine codeAny_builtin F.entry_min_loop ?_;rw[mO F.plain_min_loop _];have go:∀(h2:Heap) (tk2:Nat) (v2:Value) (c2:Nat),zah val (j+1) v2->St (j+1) h2->h2.get? S=some { cls:=.type "list",dict:=none,data:=.seq #[v2,v2] c2,slots:=#[] }->(∀b o,b∉wr->b≠S->s.heap.get? b=some o->h2.get? b=some o)->
    codeAny (model prog w) A (.builtin "min.loop" ⟨[.ref I,.none,.ref S],[("default",d)]⟩) R { s with heap:=h2,toks:=tk2 }:=λh2 tk2 v2 c2 b1 b2 b3 b4=>
   ih (j+1) _ _ c2 (by omega) lt b2 (.inr ⟨v2,b1,rfl⟩) b3 λv h' tk z kk=>fin v h' tk z λb o x1 x2 x3=>kk b o x1 x2 (b4 b o x1 x2 x3)
  rcases eh with⟨e0,rfl⟩|⟨v,⟨b0,t0,hb0,rfl,hle⟩,rfl⟩
  .subst e0
   show wpAny _ A.in1 (seqItems? (.ref S) >>= _) _ _ s;refine l7 (mK eS rfl (?_:wpAny _ A.in1 (tryCatch (pyNext (.ref I)) _ >>= _) _ _ s));refine l7 (mi (W.item 0 s _ _ lt est λx h1 tk1 px st1 kept=>?_));have eS1:=kept S _ w0 eS;obtain⟨t,rfl⟩:=hval _ _ px;refine l7 (m:=updateSeq S (λ_=>#[.int (val 0) t,.int (val 0) t])) (wpAny_updateSeq eS1 rfl ?_);rw[nm];refine lE ⟨mG F.plain_min_loop _,go _ tk1 _ _ ⟨0,t,by omega,rfl,λi hi=>?_⟩ (W.frame _ _ _ st1 λb hb o e=>?_) (Heap.get?_update_self _ eS1 rfl) λb o x1 x2 x3=>?_⟩
   .have:i= 0:=by omega
    subst this;exact Int.le_refl _
   .exact(lW _ _ (λz:S=b=>hSf (z▸hb))).trans e
   .exact(lW _ _ (Ne.symm x2)).trans (kept b o x1 x3)
  .show wpAny _ A.in1 (seqItems? (.ref S) >>= _) _ _ s
   refine l7 (mK eS rfl (?_:wpAny _ A.in1 (tryCatch (pyNext (.ref I)) _ >>= _) _ _ s));refine l7 (mi (W.item j s _ _ lt est λx h1 tk1 px st1 kept=>?_));have eS1:=kept S _ w0 eS;obtain⟨t,rfl⟩:=hval _ _ px;have cmp:=CmpOf.ints_lt (prog:=prog) (w:=w) (A:=A.in1) (P:=λi v=>∃t,v=Value.int (val i) t) val (λi v h=>h);refine l7 (m:=tryCatch (holding _ (richCompare .Lt (.int (val j) t) (.int (val b0) t0) >>= _)) _) (mi (mD (l7 (cmp j b0 _ _ _ _ _ ⟨t,rfl⟩ ⟨t0,rfl⟩ ?_))));refine l7 (mD (m8 (l7 (wpAny_letGo (lE ?_)))));by_cases hlt:val j<val b0
   .simp only[hlt,decide_true,if_true]
    refine l7 (m:=updateSeq S (λ_=>#[.int (val j) t,.int (val j) t])) (wpAny_updateSeq eS1 rfl (l7 (wpAny_letGo ?_)));rw[nm];refine lE ⟨mG F.plain_min_loop _,go _ tk1 _ _ ⟨j,t,by omega,rfl,λi hi=>?_⟩ (W.frame _ _ _ st1 λb hb o e=>?_) (Heap.get?_update_self _ eS1 rfl) λb o x1 x2 x3=>?_⟩
    .by_cases hij:i=j
     .rw[hij]
      exact Int.le_refl _
     .have:=hle i (by omega)
      omega
    .exact(lW _ _ (λz:S=b=>hSf (z▸hb))).trans e
    .exact(lW _ _ (Ne.symm x2)).trans (kept b o x1 x3)
   .simp only[hlt,decide_false,Bool.false_eq_true,if_false]
    refine l7 (wpAny_letGo ?_);rw[nm];refine lE ⟨mG F.plain_min_loop _,go _ tk1 _ _ ⟨b0,t0,by omega,rfl,λi hi=>?_⟩ st1 eS1 λb o x1 x2 x3=>kept b o x1 x3⟩;by_cases hij:i=j
    .rw[hij]
     omega
    .exact hle i (by omega)
def zai(val:Nat->Int)(j:Nat)(v:Value):Prop:=∃b t,b<j/\v=.int (val b) t/\∀i,i<j->val i<=val b
theorem zd1(W:Walks prog w A.in1 I fp wr n P St)(val:Nat->Int)(hval:∀i v,P i v->∃t,v=.int (val i) t)(hSf:S∉fp)(d:Value)(k:Nat) :
  ∀(j:Nat) (s:Shared) (held:Array Value) (c:Nat),n-j=k->j<=n->St j s.heap->((j= 0/\held= #[])\/∃v,zai val j v/\held= #[v,v])->
   s.heap.get? S=some { cls:=.type "list",dict:=none,data:=.seq held c,slots:=#[] }->
   (∀v h' tk,((n= 0/\v=d)\/zai val n v)->(∀b o,b∉wr->b≠S->s.heap.get? b=some o->h'.get? b=some o)->R (.ok (.ret v)) { s with heap:=h',toks:=tk })->
   codeAny (model prog w) A (.builtin "max.loop" ⟨[.ref I,.none,.ref S],[("default",d)]⟩) R s:=by
 have w0:S∉wr:=λz=>hSf (W.sub _ z);have nm:(toString "max" ++ toString ".loop":String)= "max.loop":=by decide
 induction k with
 |zero=>
  intro j s held c ek ej est eh eS fin;have ejn:j=n:=by omega
  subst ejn;refine codeAny_builtin F.entry_max_loop ?_;rw[mO F.plain_max_loop _];rcases eh with⟨e0,rfl⟩|⟨v,hv,rfl⟩
  .show wpAny _ A.in1 (seqItems? (.ref S) >>= _) _ _ s
   refine l7 (mK eS rfl (?_:wpAny _ A.in1 (tryCatch (pyNext (.ref I)) _ >>= _) _ _ s));refine l7 (mi (W.done s _ _ est λh1 tk1 kept=>?_));refine l7 (wpAny_rule (lE ?_));exact fin d h1 tk1 (.inl ⟨e0,rfl⟩) λb o h2 _ h3=>kept b o h2 h3
  .show wpAny _ A.in1 (seqItems? (.ref S) >>= _) _ _ s
   refine l7 (mK eS rfl (?_:wpAny _ A.in1 (tryCatch (pyNext (.ref I)) _ >>= _) _ _ s));refine l7 (mi (W.done s _ _ est λh1 tk1 kept=>?_));have eS1:=kept S _ w0 eS;refine l7 (m:=updateSeq S (λ_=>#[])) (wpAny_updateSeq eS1 rfl (l7 (wpAny_letGo (lE ?_))));exact fin v _ tk1 (.inr hv) λb o h2 h3 h4=>(lW _ _ (Ne.symm h3)).trans (kept b o h2 h4)
 |succ k ih=>
  intro j s held c ek ej est eh eS fin;have lt:j<n:=by omega
  refine codeAny_builtin F.entry_max_loop ?_;rw[mO F.plain_max_loop _];have go:∀(h2:Heap) (tk2:Nat) (v2:Value) (c2:Nat),zai val (j+1) v2->St (j+1) h2->h2.get? S=some { cls:=.type "list",dict:=none,data:=.seq #[v2,v2] c2,slots:=#[] }->(∀b o,b∉wr->b≠S->s.heap.get? b=some o->h2.get? b=some o)->
    codeAny (model prog w) A (.builtin "max.loop" ⟨[.ref I,.none,.ref S],[("default",d)]⟩) R { s with heap:=h2,toks:=tk2 }:=λh2 tk2 v2 c2 b1 b2 b3 b4=>
   ih (j+1) _ _ c2 (by omega) lt b2 (.inr ⟨v2,b1,rfl⟩) b3 λv h' tk z kk=>fin v h' tk z λb o x1 x2 x3=>kk b o x1 x2 (b4 b o x1 x2 x3)
  rcases eh with⟨e0,rfl⟩|⟨v,⟨b0,t0,hb0,rfl,hle⟩,rfl⟩
  .subst e0
   show wpAny _ A.in1 (seqItems? (.ref S) >>= _) _ _ s;refine l7 (mK eS rfl (?_:wpAny _ A.in1 (tryCatch (pyNext (.ref I)) _ >>= _) _ _ s));refine l7 (mi (W.item 0 s _ _ lt est λx h1 tk1 px st1 kept=>?_));have eS1:=kept S _ w0 eS;obtain⟨t,rfl⟩:=hval _ _ px;refine l7 (m:=updateSeq S (λ_=>#[.int (val 0) t,.int (val 0) t])) (wpAny_updateSeq eS1 rfl ?_);rw[nm];refine lE ⟨mG F.plain_max_loop _,go _ tk1 _ _ ⟨0,t,by omega,rfl,λi hi=>?_⟩ (W.frame _ _ _ st1 λb hb o e=>?_) (Heap.get?_update_self _ eS1 rfl) λb o x1 x2 x3=>?_⟩
   .have:i= 0:=by omega
    subst this;exact Int.le_refl _
   .exact(lW _ _ (λz:S=b=>hSf (z▸hb))).trans e
   .exact(lW _ _ (Ne.symm x2)).trans (kept b o x1 x3)
  .show wpAny _ A.in1 (seqItems? (.ref S) >>= _) _ _ s
   refine l7 (mK eS rfl (?_:wpAny _ A.in1 (tryCatch (pyNext (.ref I)) _ >>= _) _ _ s));refine l7 (mi (W.item j s _ _ lt est λx h1 tk1 px st1 kept=>?_));have eS1:=kept S _ w0 eS;obtain⟨t,rfl⟩:=hval _ _ px;have cmp:=CmpOf.ints_gt (prog:=prog) (w:=w) (A:=A.in1) (P:=λi v=>∃t,v=Value.int (val i) t) val (λi v h=>h);refine l7 (m:=tryCatch (holding _ (richCompare .Gt (.int (val j) t) (.int (val b0) t0) >>= _)) _) (mi (mD (l7 (cmp j b0 _ _ _ _ _ ⟨t,rfl⟩ ⟨t0,rfl⟩ ?_))));refine l7 (mD (m8 (l7 (wpAny_letGo (lE ?_)))));by_cases hlt:val j>val b0
   .simp only[hlt,decide_true,if_true]
    refine l7 (m:=updateSeq S (λ_=>#[.int (val j) t,.int (val j) t])) (wpAny_updateSeq eS1 rfl (l7 (wpAny_letGo ?_)));rw[nm];refine lE ⟨mG F.plain_max_loop _,go _ tk1 _ _ ⟨j,t,by omega,rfl,λi hi=>?_⟩ (W.frame _ _ _ st1 λb hb o e=>?_) (Heap.get?_update_self _ eS1 rfl) λb o x1 x2 x3=>?_⟩
    .by_cases hij:i=j
     .rw[hij]
      exact Int.le_refl _
     .have:=hle i (by omega)
      omega
    .exact(lW _ _ (λz:S=b=>hSf (z▸hb))).trans e
    .exact(lW _ _ (Ne.symm x2)).trans (kept b o x1 x3)
   .simp only[hlt,decide_false,Bool.false_eq_true,if_false]
    refine l7 (wpAny_letGo ?_);rw[nm];refine lE ⟨mG F.plain_max_loop _,go _ tk1 _ _ ⟨b0,t0,by omega,rfl,λi hi=>?_⟩ st1 eS1 λb o x1 x2 x3=>kept b o x1 x3⟩;by_cases hij:i=j
    .rw[hij]
     omega
    .exact hle i (by omega)
theorem zb2(a v:Value):argsOk "min" ⟨[a],[("default",v)]⟩:=by
 unfold argsOk
 kernel_rfl
theorem call_minDf{l:Addr}{xs:Array (Int×Tok)}{d:Value}(hh:A.handled=none)(hl:s.heap.IsList l (intItems xs))
  (h:∀v h' tk,((xs.size= 0/\v=d)\/zah (numAt xs) xs.size v)->(∀b o,s.heap.get? b=some o->h'.get? b=some o)->Q v { s with heap:=h',toks:=tk }):wpAny (model prog w) A (call (.builtin "min") [.ref l] [("default",d)]) Q E s:=by
 have nm:(toString "min" ++ toString ".loop":String)= "min.loop":=by decide
 have sz:(intItems xs).size=xs.size:=by simp[intItems]
 refine kmb_tree F.kind_min F.plain_min F.entry_min (zb2 _ _) ?_;refine l7 (m:=Builtin.Builtins.bindParams "min" ["key","default"] 0 ⟨[],[("default",d)]⟩) (wpAny_of_eq (show _=pure [none,some d]from rfl) ?_);refine l7 (lE (l7 (iter_intList hl λs2 e st fpl nel=>?_)));subst e;refine l7 (wpAny_newObj_type ?_);rw[nm];have WL:=Walks.list (prog:=prog) (w:=w) (A:=A.in1) hh s.heap.objs.size l nel (intItems xs);refine lE ⟨mG F.plain_min_loop _,zd0 WL (numAt xs) (λ_ _=>intItems_at) (λz=>mR _ (fpl _ z)) d _ 0 _ #[] _ rfl (lO _) (WL.frame _ _ _ st λb _ o e=>l9 _ e) (.inl ⟨rfl,rfl⟩) (ly _ rfl) λv h' tk z kk=>?_⟩;rw[sz]at z;exact h v h' tk z (old_kept λb o x1 x2=>kk b o x1 (lu (lq x2)) (l9 _ x2))
theorem zb3(a v:Value):argsOk "max" ⟨[a],[("default",v)]⟩:=by
 unfold argsOk
 kernel_rfl
theorem call_maxDf{l:Addr}{xs:Array (Int×Tok)}{d:Value}(hh:A.handled=none)(hl:s.heap.IsList l (intItems xs))
  (h:∀v h' tk,((xs.size= 0/\v=d)\/zai (numAt xs) xs.size v)->(∀b o,s.heap.get? b=some o->h'.get? b=some o)->Q v { s with heap:=h',toks:=tk }):wpAny (model prog w) A (call (.builtin "max") [.ref l] [("default",d)]) Q E s:=by
 have nm:(toString "max" ++ toString ".loop":String)= "max.loop":=by decide
 have sz:(intItems xs).size=xs.size:=by simp[intItems]
 refine kmb_tree F.kind_max F.plain_max F.entry_max (zb3 _ _) ?_;refine l7 (m:=Builtin.Builtins.bindParams "max" ["key","default"] 0 ⟨[],[("default",d)]⟩) (wpAny_of_eq (show _=pure [none,some d]from rfl) ?_);refine l7 (lE (l7 (iter_intList hl λs2 e st fpl nel=>?_)));subst e;refine l7 (wpAny_newObj_type ?_);rw[nm];have WL:=Walks.list (prog:=prog) (w:=w) (A:=A.in1) hh s.heap.objs.size l nel (intItems xs);refine lE ⟨mG F.plain_max_loop _,zd1 WL (numAt xs) (λ_ _=>intItems_at) (λz=>mR _ (fpl _ z)) d _ 0 _ #[] _ rfl (lO _) (WL.frame _ _ _ st λb _ o e=>l9 _ e) (.inl ⟨rfl,rfl⟩) (ly _ rfl) λv h' tk z kk=>?_⟩;rw[sz]at z;exact h v h' tk z (old_kept λb o x1 x2=>kk b o x1 (lu (lq x2)) (l9 _ x2))
end
end PySem
namespace L2
open PySem PySem.W PySem.Calls PyProof.Rows
section
variable {p:Pos}{kws:List Keyword}{ks:List Str}{tk:TA}{id:String}{r:List V->List V->Hp->VK->Prop}
def ziE(r:List V->List V->Hp->VK->Prop)(t tk:TA):TE:=λσ H Q=>t σ H λvs H1=>tk σ H1 λzs H2=>r vs zs H2 Q
def k9(X:Cx)(f:Value)(ks:List Str)(r:List V->List V->Hp->VK->Prop):Prop:=∀(pins:List (Addr×Obj)) (s:Shared) (σ:St) (H:Hp) (vs:List V) (us:List Value) (zs:List V) (ws:List Value) (Q:VK),
 Inv X pins σ H s->Vals vs us->Vals zs ws->r vs zs H Q->wpAny (model X.prog X.w) X.A (call f us (ks.zip ws)) (EP X pins σ Q) X.xe s
theorem VI(hc:k9 X (.builtin id) ks r)(hg:Gl X x)(hm:X.mg x=none)(hv:bootBuiltins x=some (.builtin id))(ha:PA X (e::es) t)(hkw:PK X kws tk)(hks:(backToKw pos (keywordEach kws X.env)).filterMap (·.1)=ks:=by rfl)
  (hn:x≠"__name__":=by decide)(hdb:(x==("__debug__":Str))=false:=by decide)(he:backTo pos (starEach (e::es) X.env)=(false,eval e X.env)::backTo pos (starEach es X.env):=by rfl)(hpl:(backTo pos (starEach (e::es) X.env)).any (·.1)=false:=by rfl)
  (hall:(backToKw pos (keywordEach kws X.env)).all (·.1.isSome)=true:=by rfl)(hno:(backToKw pos (keywordEach kws X.env)).any (·.1.isNone)=false:=by rfl):PE X (.Call (.Name x p) (e::es) kws pos) (ziE r t tk):=by
 intro pins s σ H Q I h;refine mJ (vD I hg hm hv ?_ hn hdb);refine callWith_kw (thn (ha pos pins s σ H _ I h) λus s1 ⟨vs,H1,I1,r1,q1⟩=>thn (hkw pos pins s1 σ H1 _ I1 q1) λws s2 ⟨zs,H2,I2,rz,q2⟩=>?_) he hpl hall hno;rw[hks];exact hc pins s2 σ H2 vs us zs ws Q I2 r1 rz q2
def UX(K:W.Frag):List V->List V->Hp->VK->Prop:=λvs zs H Q=>∃(a:Addr) (ns:List Int) (d:Int),vs=[.ref a]/\zs=[.int d]/\SqL K H a (ns.map V.int)/\(ns=[]->Q (.int d) H)/\∀M,M∈ns->(∀b∈ns,M<=b)->Q (.int M) H
def UY(K:W.Frag):List V->List V->Hp->VK->Prop:=λvs zs H Q=>∃(a:Addr) (ns:List Int) (d:Int),vs=[.ref a]/\zs=[.int d]/\SqL K H a (ns.map V.int)/\(ns=[]->Q (.int d) H)/\∀M,M∈ns->(∀b∈ns,b<=M)->Q (.int M) H
theorem call_minDf(hc:X.calm=true):k9 X (.builtin "min") ["default"] (UX X.K):=by
 intro pins s σ H vs us zs ws Q I r rz h;obtain⟨a,ns,d,rfl,rfl,hq,q0,q⟩:=h;obtain⟨u,rfl,ru⟩:=r.one;obtain⟨v,rfl,tv,rfl⟩:=rz.one;cases ru;obtain⟨its,rv,p,hz⟩:=I.list hq;obtain⟨ys,e,hns⟩:=VH (vF rv);have hl:=p.isList;rw[e]at hl;have len:ns.length=ys.size:=by rw[hns,l6,me]
 refine PySem.call_minDf (I.ok.hd hc) hl λv h' tk z hk=>?_;rcases z with⟨z,rfl⟩|⟨b,t,hb,rfl,hle⟩
 .exact⟨.int d,H,I.kept (t':=tk) hk,⟨tv,rfl⟩,q0 (List.length_eq_zero_iff.mp (by omega))⟩
 .refine⟨.int _,H,I.kept (t':=tk) hk,⟨t,rfl⟩,q _ ?_ λa ha=>?_⟩
  .rw[hns,numAt_eq];exact getD_mem (by rw[l6,me];omega)
  .rw[hns]at ha
   obtain⟨j,hj,rfl⟩:=mem_getD ha;rw[l6,me]at hj;rw[<-numAt_eq];exact hle j (by omega)
theorem call_maxDf(hc:X.calm=true):k9 X (.builtin "max") ["default"] (UY X.K):=by
 intro pins s σ H vs us zs ws Q I r rz h;obtain⟨a,ns,d,rfl,rfl,hq,q0,q⟩:=h;obtain⟨u,rfl,ru⟩:=r.one;obtain⟨v,rfl,tv,rfl⟩:=rz.one;cases ru;obtain⟨its,rv,p,hz⟩:=I.list hq;obtain⟨ys,e,hns⟩:=VH (vF rv);have hl:=p.isList;rw[e]at hl;have len:ns.length=ys.size:=by rw[hns,l6,me]
 refine PySem.call_maxDf (I.ok.hd hc) hl λv h' tk z hk=>?_;rcases z with⟨z,rfl⟩|⟨b,t,hb,rfl,hle⟩
 .exact⟨.int d,H,I.kept (t':=tk) hk,⟨tv,rfl⟩,q0 (List.length_eq_zero_iff.mp (by omega))⟩
 .refine⟨.int _,H,I.kept (t':=tk) hk,⟨t,rfl⟩,q _ ?_ λa ha=>?_⟩
  .rw[hns,numAt_eq];exact getD_mem (by rw[l6,me];omega)
  .rw[hns]at ha
   obtain⟨j,hj,rfl⟩:=mem_getD ha;rw[l6,me]at hj;rw[<-numAt_eq];exact hle j (by omega)
end
end L2
namespace L2
open PySem PySem.Spec PyProof.Rows
structure CalT (P:Program) (w:World) (K:W.Frag) (mg:Str->Option Value) (base:Heap) (k:Nat) (m:Str) (C:Addr) (sp:Sp):Prop where
 ex:∃(f:Addr) (fd:FuncData) (ps:List Str),Cls K C/\Meth K C m f/\FnOk P w K mg base CX0 k f fd ps sp/\Binds K fd ps []
section
variable {k:Nat}{sp:Sp}{m:Str}{apos:Pos}{o:Expr}
theorem yi{pl:Sem Bool}(c:CalT X.prog X.w X.K X.mg X.base k m C sp)(hr:Room k X.A)(he:PE X o ta)
    (ht:eval (.Call (.Attribute o m apos) [] [] pos) X.env=(do
      let ov<-eval o X.env
      standAt apos.atName
      let(f,first)<-holding [ov] (getMethod ov m pl)
      callWith pos f first (backTo pos (starEach [] X.env)) (backToKw pos (keywordEach [] X.env))):=by rfl):PE X (.Call (.Attribute o m apos) [] [] pos) (ZZ C m sp [] E0 ta uz):=by
  obtain⟨f,fd,ps,c,M,F,hb⟩:=c.ex;exact zdJ (pl:=pl) he c M F hr hb .nil Y0 ht
theorem ziF{pl:Sem Bool}(c:CalT X.prog X.w X.K X.mg X.base k m C sp)(hr:Room k X.A)(he:PE X o ta)(ha:PA X (e::es) t)
    (hst:starEach (e::es) X.env=(false,eval e X.env)::starEach es X.env:=by rfl)(hpl:(backTo pos (starEach es X.env)).any (·.1)=false:=by rfl)
    (ht:eval (.Call (.Attribute o m apos) (e :: es) [] pos) X.env=(do
      let ov<-eval o X.env
      standAt apos.atName
      let(f,first)<-holding [ov] (getMethod ov m pl)
      callWith pos f first (backTo pos (starEach (e::es) X.env)) (backToKw pos (keywordEach [] X.env))):=by rfl):PE X (.Call (.Attribute o m apos) (e::es) [] pos) (ZZ C m sp [] E0 ta t):=by
  obtain⟨f,fd,ps,c,M,F,hb⟩:=c.ex;exact zgs (pl:=pl) he c M F hr hb .nil Y0 ha hst hpl ht
end
structure SV where
 wide:Int
 high:Int
 row:Int
 col:Int
 late:Bool
 ink:Int
 wrap:Bool
 putting:Bool
 home:Bool
 top:Int
 bottom:Int
 left:Int
 right:Int
 last:V
section
variable {st kp:Addr}{S:SV}
end
structure Sta (K:W.Frag) (C:Addr):Prop where
 cl:Cls K C
 n_picture:NoAttr K C "picture"
 n_wide:NoAttr K C "wide"
 n_high:NoAttr K C "high"
 n_row:NoAttr K C "row"
 n_column:NoAttr K C "column"
 n_late:NoAttr K C "late"
 n_ink:NoAttr K C "ink"
 n_wrap:NoAttr K C "wrap"
 n_putting:NoAttr K C "putting"
 n_home:NoAttr K C "home"
 n_top:NoAttr K C "top"
 n_bottom:NoAttr K C "bottom"
 n_left:NoAttr K C "left"
 n_right:NoAttr K C "right"
 n_stops:NoAttr K C "stops"
 n_kept:NoAttr K C "kept"
 n_last:NoAttr K C "last"
section
variable {sl:Addr}{S:SV}
end
def zb4(td ty tv:TE):TS:=λD σ H=>tv σ H λv H1=>td σ H1 λx H2=>ty σ H2 λy H3=>∃a kvs k,x=.ref a/\H3 a=some (.dK kvs)/\y=kV k/\kvs.length<1000/\D.nx σ (upd H3 a (.dK (xE kvs k v)))
section
variable {o i value:Expr}{td ty tv:TE}{pos':Pos}
theorem PE.cl{t:TE}(h:PE X e t):PE X e (λσ H Q=>∃Q':VK,t σ H Q'/\∀x H1,Q' x H1->Q x H1):=λpins s σ H Q I ⟨Q',q,w⟩=>
 thn (h pins s σ H Q' I q) λv s1 ⟨x,H1,I1,r1,q1⟩=>⟨x,H1,I1,r1,w x H1 q1⟩
theorem zd2(hu:X.A.units+1<cLine)(ho:PE X o td)(hi:PE X i ty)(hv:PE X value tv)(hs:swapsWith value (some (.Subscript o i pos')) pos.line X.env=pure false) :
  PS X (.Assign [.Subscript o i pos'] value pos) (zb4 td ty tv):=λpins s σ H D I h=>
 (zgA hu ho.cl hi.cl hv.cl hs) pins s σ H D I ⟨_,h,λv H1 h1=>⟨_,h1,λx H2 h2=>⟨_,h2,λy H3 ⟨a,kvs,k,e1,e2,e3,e4,q⟩=>⟨a,_,e1,by rw[e3];exact US.k e2 (xJ (by omega)),q⟩⟩⟩⟩
end
def Sh(i:Int):Prop:=-1000000<=i/\i<=1000000
theorem VJ:∀ns:List Int,Reps K H (ns.map .int) (ns.map V.int)
 |[]=>rfl
 |n::ns=>⟨_,_,rfl,rfl,VJ ns⟩
def DK(K:W.Frag)(a:Addr)(D:List (Int×Int)):Prop:=KTD.keyedLook (λb=>K.lookup b) a (D.map λp=>(p.1,PyData.int p.2))=true
noncomputable def xG(D:List (Int×Int))(k:Int):Option Int:=match D with
 |[]=>none
 |(i,d)::r=>if k=i then some d else xG r k
theorem Yj(k:Int):∀D:List (Int×Int),KTD.datumAt k (D.map λp=>(p.1,PyData.int p.2))=(xG D k).map PyData.int
 |[]=>rfl
 |(i,d)::D=>by
  have ih:=Yj k D;show(if decide (k=i)=true then some (PyData.int d)else KTD.datumAt k (D.map λp=>(p.1,PyData.int p.2)))=((if k=i then some d else xG D k).map PyData.int);by_cases h:k=i
  .rw[lg (lQ h),lg h,Option.map_some]
  .rw[l8 (by simpa using h),l8 h,ih]
def zaj(K:W.Frag)(to:TE)(t:TA):TE:=λσ H Q=>to σ H λx H1=>∃a D,x=.ref a/\DK K a D/\t σ H1 λxs H2=>∃i d,xs=[.int i,.int d]/\Q (.int ((xG D i).getD d)) H2
theorem zgG{o:Expr}{to:TE}{apos cpos:Pos}(ho:PE X o to)(ha:PA X (e::es) t)
    (hbase:attributeBase o "get" X.env (eval o X.env)=eval o X.env:=by rfl)
    (hfew:((backTo cpos (starEach (e :: es) X.env)).all (fun x=>!x.1) && (backToKw cpos (keywordEach [] X.env)).all (fun x=>x.1.isSome)
      && decide ((e::es).length+([]:List Keyword).length+(if([]:List Keyword).isEmpty then 0 else 1)<30))=true:=by rfl)
    (hline:(apos.endLine==cpos.line)=true:=by rfl)(hs:starEach (e::es) X.env=(false,eval e X.env)::starEach es X.env:=by rfl)(hplain:(backTo cpos (starEach es X.env)).any (·.1)=false:=by rfl) :
    PE X (.Call (.Attribute o "get" apos) (e::es) [] cpos) (zaj X.K to t):=by
  intro pins s σ H Q I h;refine wpAny_Call_method_late hbase hfew hline rfl (thn (ho pins s σ H _ I h) λv s1 ⟨x,H1,I1,r1,a,D,ex,hD,q1⟩=>?_);subst ex;cases r1;have KD:=KTD.keyed_of_look (h:=s1.heap) (λb o q=>I1.kIn b o q) hD;obtain⟨_,kvs,⟨ob,bs,ep,hob,hc,_⟩,_⟩:=id (KD X.prog X.w);refine⟨"dict","dict.get",PySem.F.plainAttrs_dict,PySem.F.slot_dict_get,PySem.F.type_dict_get,⟨ob,hob,hc.1⟩,λb e=>by injection e with e;subst e;exact⟨ob,hob,hc.2.1⟩,?_⟩;have hA:=ha cpos pins s1 σ H1 _ I1 q1;rw[hs]at hA ⊢;refine my (by show(false||(backTo cpos (starEach es X.env)).any (·.1))=false;rw[hplain]<;>rfl) (Calls.evalArgs_plain ?_);refine thn hA λus s2 ⟨vs,H2,I2,r2,i,d,ev,q2⟩=>?_;subst ev;obtain⟨u1,u2,rfl,h1,h2⟩:=r2.two;obtain⟨t1,rfl⟩:=h1;obtain⟨t2,rfl⟩:=h2;have KD2:=KTD.keyed_of_look (h:=s2.heap) (λb o q=>I2.kIn b o q) hD;refine call_get2_intTab (KD2 X.prog X.w) (.int d t2) λv hv=>?_;rw[KTD.lookup_keyed,Yj]at hv;have hv':PyProof.V.Flat v (PyData.int ((xG D i).getD d)):=by
    cases e:xG D i with
    |none=>rw[e]at hv;exact hv
    |some z=>rw[e]at hv;exact hv
  generalize(xG D i).getD d=z at hv' q2
  cases hv' s2.heap with
  |int _ t=>exact⟨.int _,H2,I2.tok _,⟨t,rfl⟩,q2⟩
inductive W where
 |d (x:PyData)
 |own (a:Addr)
 |row (a:Addr) (i:Nat)
inductive OO where
 |lst (ws:List W)
 |dK (kvs:List (Key×W))
 |ins (C dx:Addr) (fs:List (Str×W))
 |grid (rows:List (List PyData))
 |raw (p:HO->Hp->Prop)
abbrev OM:=Addr->Option OO
noncomputable def updO(O:OM)(a:Addr)(o:OO):OM:=λb=>if b=a then some o else O b
noncomputable def del(O:OM)(a:Addr):OM:=λb=>if b=a then none else O b
theorem zf{O:OM}{o:OO}:updO O a o a=some o:=by simp[updO]
theorem ze{O:OM}{b:Addr}{o:OO}(h:b≠a):updO O a o b=O b:=by simp[updO,h]
theorem xx{O:OM}:del O a a=none:=by simp[del]
theorem vd{O:OM}{b:Addr}(h:b≠a):del O a b=O b:=by simp[del,h]
theorem yL{O:OM}{o u:OO}:updO (updO O a o) a u=updO O a u:=by
 funext b;unfold updO;split<;>rfl
structure Gh where
 Z:Hp
 G:Addr->Option (List Addr)
 F:Hp
structure Le (Γ Γ':Gh):Prop where
 f:Γ'.F=Γ.F
 z:Same Γ.Z Γ'.Z
 g:∀a rs,Γ.G a=some rs->∃more,Γ'.G a=some (rs++more)
theorem Le.refl(Γ:Gh):Le Γ Γ:=⟨rfl,Same.refl _,λ_ rs h=>⟨[],by rw[lV];exact h⟩⟩
theorem Le.trans {Γ Γ1 Γ2:Gh}(a:Le Γ Γ1) (b:Le Γ1 Γ2):Le Γ Γ2:=⟨b.f.trans a.f,a.z.trans b.z,fun x rs h=>by
 obtain⟨m,h1⟩:=a.g x rs h;obtain⟨m2,h2⟩:=b.g x _ h1;exact⟨m++m2,by rw[<-mQ];exact h2⟩⟩
theorem Le.zOnly{Γ:Gh}{Z:Hp}(h:Same Γ.Z Z):Le Γ ⟨Z,Γ.G,Γ.F⟩:=⟨rfl,h,λ_ rs h=>⟨[],by rw[lV];exact h⟩⟩
section
variable (K:W.Frag)
def relW(Γ:Gh):W->V->Prop
 |.d x,v=>Rep K Γ.Z x v
 |.own a,v=>v=.ref a
 |.row a i,v=>∃rs r,Γ.G a=some rs/\rs[i]? =some r/\v=.ref r
abbrev relWs(Γ:Gh):List W->List V->Prop:=Paired (relW K Γ)
def jY(Γ:Gh):Option W->Option V->Prop
 |some w,some v=>relW K Γ w v
 |none,_=>True
 |_,_=>False
abbrev relR(Γ:Gh):List (Option W)->St->Prop:=Paired (jY K Γ)
def yx{κ:Type}(Γ:Gh):List (κ×W)->List (κ×V)->Prop:=Paired λp q=>p.1=q.1/\relW K Γ p.2 q.2
def ObjW(Γ:Gh)(O:OM)(H:Hp)(a:Addr):OO->Prop
 |.lst ws=>∃vs,H a=some (.lst vs)/\relWs K Γ ws vs
 |.dK kvs=>∃vs,H a=some (.dK vs)/\yx K Γ kvs vs
 |.ins C dx fs=>∃vs,H a=some (.ins C dx vs)/\yx K Γ fs vs
 |.grid rows=>∃rs,Γ.G a=some rs/\H a=some (.lst (rs.map V.ref))/\rs.length=rows.length/\rs.Nodup/\
   ∀(i:Nat) (r:Addr) (ds:List PyData),rs[i]? =some r->rows[i]? =some ds->Γ.Z r=none/\O r=none/\∃vs,H r=some (.lst vs)/\Reps K Γ.Z ds vs
 |.raw p=>∃o,H a=some o/\∀Z,Same Γ.Z Z->p o Z
structure Sim (Γ:Gh) (O:OM) (H:Hp):Prop where
 z:Same Γ.Z H
 o:∀a oo,O a=some oo->Γ.Z a=none/\ObjW K Γ O H a oo
 gd:∀a rs,Γ.G a=some rs->∃o,H a=some o
 f:Same Γ.F H
 gn:∀a oo,O a=some oo->(∀rows,oo≠.grid rows)->Γ.G a=none
 fg:∀a o,Γ.F a=some o->Γ.G a=none
 fd:∀a o,Γ.F a=some o->Γ.Z a=none/\O a=none/\∀b rows rs,O b=some (.grid rows)->Γ.G b=some rs->a∉rs
 u:∀a b ra rb rs ss r,O a=some (.grid ra)->O b=some (.grid rb)->Γ.G a=some rs->Γ.G b=some ss->r∈rs->r∈ss->a=b
end
section
variable {Γ Γ':Gh}{O:OM}{H':Hp}
theorem relW.mono(h:Le Γ Γ'):∀{w:W}{v:V},relW K Γ w v->relW K Γ' w v
 |.d x,v,r=>Rep.same h.z x v r
 |.own a,v,r=>r
 |.row a i,v,⟨rs,r,e,f,g⟩=>by
  obtain⟨m,e'⟩:=h.g _ _ e;have hi:i<rs.length:=(lx.mp f).1;exact⟨rs++m,r,e',by rw[mq hi];exact f,g⟩
theorem relWs.mono(h:Le Γ Γ'){ws:List W}(r:relWs K Γ ws vs):relWs K Γ' ws vs:=Paired.mapP r λ_ _ z=>z.mono h
theorem jY.mono(h:Le Γ Γ'):∀{w:Option W}{v:Option V},jY K Γ w v->jY K Γ' w v
 |some w,some v,r=>relW.mono h r
 |none,_,_=>trivial
 |some _,none,r=>r.elim
theorem relR.mono(h:Le Γ Γ'){ρ:List (Option W)}(r:relR K Γ ρ σ):relR K Γ' ρ σ:=Paired.mapP r λ_ _ z=>z.mono h
theorem yx.mono{κ:Type}(h:Le Γ Γ'){a:List (κ×W)}{b:List (κ×V)}(r:yx K Γ a b):yx K Γ' a b:=Paired.mapP r λ_ _ z=>⟨z.1,z.2.mono h⟩
theorem relR.get{ρ:List (Option W)}:∀{i:Nat}{w:W},relR K Γ ρ σ->ρ[i]? =some (some w)->∃v,σ[i]? =some (some v)/\relW K Γ w v:=by
 intro i w r
 induction r generalizing i with
 |nil=>intro e;simp at e
 |cons h t ih=>
  rename_i x y xs ys
  intro e;cases i with
  |zero=>
   simp at e;subst e;cases y with
   |none=>exact h.elim
   |some v=>exact⟨v,rfl,h⟩
  |succ i=>simpa using ih (i:=i) (by simpa using e)
theorem Paired.getP{α β:Type}{F:α->β->Prop}{xs:List α}{ys:List β}(r:Paired F xs ys):∀{i:Nat}{x:α},xs[i]? =some x->∃y,ys[i]? =some y/\F x y:=by
 induction r with
 |nil=>intro i x e;simp at e
 |cons h t ih=>
  intro i x e;cases i with
  |zero=>simp at e;subst e;exact⟨_,rfl,h⟩
  |succ i=>simpa using ih (i:=i) (by simpa using e)
theorem Paired.getQ{α β:Type}{F:α->β->Prop}{xs:List α}{ys:List β}(r:Paired F xs ys):∀{i:Nat}{y:β},ys[i]? =some y->∃x,xs[i]? =some x/\F x y:=by
 induction r with
 |nil=>intro i x e;simp at e
 |cons h t ih=>
  intro i x e;cases i with
  |zero=>simp at e;subst e;exact⟨_,rfl,h⟩
  |succ i=>simpa using ih (i:=i) (by simpa using e)
theorem Paired.setP{α β:Type}{F:α->β->Prop}{xs:List α}{ys:List β}{x:α}{y:β}(r:Paired F xs ys)(h:F x y):∀{i:Nat},Paired F (xs.set i x) (ys.set i y):=by
 induction r with
 |nil=>intro i;exact .nil
 |cons g t ih=>
  intro i;cases i with
  |zero=>exact .cons h t
  |succ i=>exact .cons g ih
theorem Paired.appP{α β:Type}{F:α->β->Prop}{xs xs':List α}{ys ys':List β}(r:Paired F xs ys)(s:Paired F xs' ys'):Paired F (xs++xs') (ys++ys'):=by
 induction r with
 |nil=>exact s
 |cons h t ih=>exact .cons h ih
theorem Paired.takeP{α β:Type}{F:α->β->Prop}{xs:List α}{ys:List β}(r:Paired F xs ys):∀n,Paired F (xs.take n) (ys.take n):=by
 induction r with
 |nil=>intro n;simp;exact .nil
 |cons h t ih=>
  intro n;cases n with
  |zero=>exact .nil
  |succ n=>exact .cons h (ih n)
theorem Paired.dropP{α β:Type}{F:α->β->Prop}{xs:List α}{ys:List β}(r:Paired F xs ys):∀n,Paired F (xs.drop n) (ys.drop n):=by
 induction r with
 |nil=>intro n;simp;exact .nil
 |cons h t ih=>
  intro n;cases n with
  |zero=>exact .cons h t
  |succ n=>exact ih n
theorem yA:∀{ds:List PyData}{vs:List V},Reps K Γ.Z ds vs->relWs K Γ (ds.map .d) vs
 |[],_,h=>by rw[show _=[]from h];exact .nil
 |d::ds,_,h=>by
  obtain⟨x,r,rfl,h1,h2⟩:=h;exact .cons h1 (yA h2)
theorem ya:∀{ds:List PyData}{vs:List V},relWs K Γ (ds.map .d) vs->Reps K Γ.Z ds vs
 |[],_,h=>by cases h;rfl
 |d::ds,_,h=>by
  cases h with
  |cons a b=>exact⟨_,_,rfl,a,ya b⟩
noncomputable def z6(O:OM):W->Option (List W)
 |.d (.list ds)=>some (ds.map .d)
 |.own a=>match O a with
  |some (.lst ws)=>some ws
  |some (.grid rows)=>some ((List.range rows.length).map (.row a))
  |_=>none
 |.row a i=>match O a with
  |some (.grid rows)=>(rows[i]?).map (·.map .d)
  |_=>none
 |_=>none
noncomputable def yZ:W->Option (List PyData)
 |.d (.tuple ds)=>some ds
 |_=>none
theorem vy{w:W}(S:Sim K Γ O H)(r:relW K Γ w v)(e:yZ w=some ds):∃a vs,v=.ref a/\SqT K H a vs/\relWs K Γ (ds.map .d) vs:=by
 cases w with
 |d x=>
  cases x with
  |tuple es=>
   simp[yZ]at e;subst e;obtain⟨a,xs,e1,h1,h2⟩:=r;exact⟨a,xs,e1,h1.same S.z,yA h2⟩
  |_=>simp[yZ]at e
 |own a=>simp[yZ]at e
 |row a i=>simp[yZ]at e
theorem yt{w:W}{ws:List W}(S:Sim K Γ O H)(r:relW K Γ w v)(e:z6 O w=some ws):∃a vs,v=.ref a/\SqL K H a vs/\relWs K Γ ws vs:=by
 cases w with
 |d x=>
  cases x with
  |list es=>
   simp[z6]at e;subst e;obtain⟨a,xs,e1,h1,h2⟩:=r;exact⟨a,xs,e1,h1.same S.z,yA h2⟩
  |_=>simp[z6]at e
 |own a=>
  cases(show v=.ref a from r);simp only[z6]at e;split at e
  .rename_i us h
   cases e;obtain⟨_,vs,h1,h2⟩:=S.o _ _ h;exact⟨a,vs,rfl,SqL.of h1,h2⟩
  .rename_i rows h
   cases e;obtain⟨_,rs,hg,h1,hl,_,_⟩:=S.o _ _ h;refine⟨a,_,rfl,SqL.of h1,?_⟩;rw[<-hl];have key:∀(ss:List Addr) (k:Nat),(∀i,ss[i]? =rs[k+i]?)->relWs K Γ ((List.range' k ss.length).map (W.row a)) (ss.map V.ref):=by
    intro ss
    induction ss with
    |nil=>intro k _;exact .nil
    |cons s ss ih=>
     intro k hk;refine .cons ⟨rs,s,hg,?_,rfl⟩ (ih (k+1) λi=>?_)
     .have:=hk 0;simpa using this.symm
     .have:=hk (i+1)
      rw[List.getElem?_cons_succ]at this;rw[this]
      congr 1
      omega
   have h0:=key rs 0 (λi=>by rw[Nat.zero_add]);rw[List.range_eq_range'];exact h0
  .cases e
 |row a i=>
  obtain⟨rs,r0,hg,hr,rfl⟩:=r;simp only[z6]at e;split at e
  .rename_i rows h
   cases hi:rows[i]? with
   |none=>rw[hi]at e;cases e
   |some ds=>
    rw[hi]at e;cases e;obtain⟨_,rs',hg',h1,hl,_,hrow⟩:=S.o _ _ h;rw[hg]at hg';cases hg';obtain⟨_,_,vs,h2,h3⟩:=hrow i r0 ds hr hi;exact⟨r0,vs,rfl,SqL.of h2,yA h3⟩
  .cases e
noncomputable def yE:List W->Option (List PyData)
 |[]=>some []
 |.d x::ws=>(yE ws).map (x :: ·)
 |_::_=>none
theorem ym:∀ds:List PyData,yE (ds.map .d)=some ds
 |[]=>rfl
 |d::ds=>by simp[yE,ym ds]
theorem y9:∀{ws:List W}{ds:List PyData},yE ws=some ds->ws=ds.map .d
 |[],ds,e=>by cases e;rfl
 |.d x::ws,ds,e=>by
  simp[yE]at e;obtain⟨es,h1,h2⟩:=e;subst h2;rw[y9 h1];rfl
 |.own _::_,_,e=>by simp[yE]at e
 |.row _ _::_,_,e=>by simp[yE]at e
noncomputable def XO(O:OM):W->Option PyData
 |.d x=>some x
 |.own a=>match O a with
  |some (.lst ws)=>(yE ws).map .list
  |some (.grid rows)=>some (.list (rows.map .list))
  |_=>none
 |.row a i=>match O a with
  |some (.grid rows)=>(rows[i]?).map .list
  |_=>none
theorem UZ{w:W}{x:PyData}(S:Sim K Γ O H)(r:relW K Γ w v)(e:XO O w=some x):Rep K H x v:=by
 cases w with
 |d y=>cases e;exact Rep.same S.z _ _ r
 |own a=>
  cases(show v=.ref a from r);simp only[XO]at e;split at e
  .rename_i ws h
   cases hd:yE ws with
   |none=>rw[hd]at e;cases e
   |some ds=>
    rw[hd]at e;cases e;obtain⟨_,vs,h1,h2⟩:=S.o _ _ h;rw[y9 hd]at h2;exact⟨a,vs,rfl,SqL.of h1,Reps.same S.z _ _ (ya h2)⟩
  .rename_i rows h
   cases e;obtain⟨_,rs,hg,h1,hl,_,hrow⟩:=S.o _ _ h;refine⟨a,_,rfl,SqL.of h1,?_⟩;have key:∀(rows:List (List PyData)) (rs:List Addr),rs.length=rows.length->(∀(i:Nat) (r:Addr) (ds:List PyData),rs[i]? =some r->rows[i]? =some ds->∃vs,H r=some (.lst vs)/\Reps K Γ.Z ds vs)->Reps K H (rows.map .list) (rs.map V.ref):=by
    intro rows
    induction rows with
    |nil=>intro rs hl _;cases rs with|nil=>rfl|cons _ _=>simp at hl
    |cons row rows ih=>
     intro rs hl hr;cases rs with
     |nil=>simp at hl
     |cons r rs=>
      obtain⟨vs,h1,h2⟩:=hr 0 r row rfl rfl;exact⟨.ref r,_,rfl,⟨r,vs,rfl,SqL.of h1,Reps.same S.z _ _ h2⟩,ih rs (by simpa using hl) λi r ds a b=>hr (i+1) r ds (by simpa using a) (by simpa using b)⟩
   exact key rows rs hl λi r ds a b=>(hrow i r ds a b).2.2
  .cases e
 |row a i=>
  obtain⟨rs,r0,hg,hr,rfl⟩:=r;simp only[XO]at e;split at e
  .rename_i rows h
   cases hi:rows[i]? with
   |none=>rw[hi]at e;cases e
   |some ds=>
    rw[hi]at e;cases e;obtain⟨_,rs',hg',h1,hl,_,hrow⟩:=S.o _ _ h;rw[hg]at hg';cases hg';obtain⟨_,_,vs,h2,h3⟩:=hrow i r0 ds hr hi;exact⟨r0,vs,rfl,SqL.of h2,Reps.same S.z _ _ h3⟩
  .cases e
theorem Sim.free(S:Sim K Γ O H)(hp:H p=none):Γ.Z p=none/\O p=none/\Γ.G p=none:=by
 refine⟨S.z.free hp,?_,?_⟩
 .cases e:O p with
  |none=>rfl
  |some oo=>
   obtain⟨_,h⟩:=S.o _ _ e;cases oo with
   |lst ws=>obtain⟨vs,h1,_⟩:=h;rw[hp]at h1;cases h1
   |dK ws=>obtain⟨vs,h1,_⟩:=h;rw[hp]at h1;cases h1
   |ins C dx ws=>obtain⟨vs,h1,_⟩:=h;rw[hp]at h1;cases h1
   |grid rows=>obtain⟨rs,_,h1,_⟩:=h;rw[hp]at h1;cases h1
   |raw p=>obtain⟨o,h1,_⟩:=h;rw[hp]at h1;cases h1
 .cases e:Γ.G p with
  |none=>rfl
  |some rs=>
   obtain⟨o,h⟩:=S.gd _ _ e;rw[hp]at h;cases h
theorem ObjW.keep{oo:OO}(h:ObjW K Γ O H a oo)(hl:Le Γ Γ'){O':OM}(ha:H' a=H a)(hG:Γ'.G a=Γ.G a)(hr:∀rs r,Γ.G a=some rs->(∃rows,oo=.grid rows)->r∈rs->H' r=H r/\Γ'.Z r=Γ.Z r/\O' r=O r):ObjW K Γ' O' H' a oo:=by
 cases oo with
 |lst ws=>obtain⟨vs,h1,h2⟩:=h;exact⟨vs,by rw[ha];exact h1,h2.mono hl⟩
 |dK ws=>obtain⟨vs,h1,h2⟩:=h;exact⟨vs,by rw[ha];exact h1,h2.mono hl⟩
 |ins C dx ws=>obtain⟨vs,h1,h2⟩:=h;exact⟨vs,by rw[ha];exact h1,h2.mono hl⟩
 |raw p=>obtain⟨o,h1,h2⟩:=h;exact⟨o,by rw[ha];exact h1,λZ hZ=>h2 Z (hl.z.trans hZ)⟩
 |grid rows=>
  obtain⟨rs,hg,h1,h2,hn,h3⟩:=h;refine⟨rs,by rw[hG];exact hg,by rw[ha];exact h1,h2,hn,λi r ds e1 e2=>?_⟩;obtain⟨q1,q2,q3⟩:=hr rs r hg ⟨rows,rfl⟩ (lK e1);obtain⟨z1,z2,vs,z3,z4⟩:=h3 i r ds e1 e2;exact⟨by rw[q2];exact z1,by rw[q3];exact z2,vs,by rw[q1];exact z3,Reps.same hl.z _ _ z4⟩
theorem Sim.rowIn(S:Sim K Γ O H){rows:List (List PyData)}{rs:List Addr}{r:Addr}(ho:O a=some (.grid rows))(hg:Γ.G a=some rs)(hr:r∈rs):Γ.Z r=none/\O r=none/\∃vs,H r=some (.lst vs):=by
 obtain⟨_,rs',hg',h1,hl,_,hrow⟩:=S.o _ _ ho;rw[hg]at hg';cases hg';obtain⟨i,hi,rfl⟩:=List.mem_iff_getElem.mp hr;obtain⟨z1,z2,vs,z3,_⟩:=hrow i rs[i] (rows[i]'(by omega)) (ls hi) (ls (by omega));exact⟨z1,z2,vs,z3⟩
theorem Sim.newD(S:Sim K Γ O H)(hp:H p=none)(o:HO):Le Γ ⟨upd Γ.Z p o,Γ.G,Γ.F⟩/\Sim K ⟨upd Γ.Z p o,Γ.G,Γ.F⟩ O (upd H p o):=by
 obtain⟨hz,hO,hG⟩:=S.free hp;have le:Le Γ ⟨upd Γ.Z p o,Γ.G,Γ.F⟩:=Le.zOnly (qg hz);have hF:=S.f.free hp;refine⟨le,⟨λb u e=>?_,λa oo e=>?_,λa rs e=>?_,Yu S.f hF,S.gn,S.fg,λa o' e=>?_,S.u⟩⟩
 .replace e:upd Γ.Z p o b=some u:=e
  by_cases hb:b=p
  .subst hb;rw[zW]at e;rw[zW];exact e
  .rw[zu hb]at e;rw[zu hb];exact S.z _ _ e
 .have hap:a≠p:=λz=>by rw[z,hO]at e;cases e
  obtain⟨h1,h2⟩:=S.o _ _ e;refine⟨by show upd Γ.Z p o a=none;rw[zu hap];exact h1,h2.keep le (zu hap) rfl λrs r hg ⟨rows,hrw⟩ hr=>?_⟩;subst hrw;obtain⟨_,_,vs,q⟩:=S.rowIn e hg hr;have hrp:r≠p:=λz=>by rw[z,hp]at q;cases q
  exact⟨zu hrp,zu hrp,rfl⟩
 .obtain⟨o',h⟩:=S.gd _ _ e
  exact⟨o',by rw[zu (yB h hp)];exact h⟩
 .obtain⟨q1,q2,q3⟩:=S.fd a o' e
  exact⟨(zu (yB e hF)).trans q1,q2,q3⟩
theorem Sim.newO(S:Sim K Γ O H)(hp:H p=none){o:HO}{oo:OO}(hg:∀rows,oo≠.grid rows)(ho:ObjW K Γ O (upd H p o) p oo):Sim K Γ (updO O p oo) (upd H p o):=by
 obtain⟨hz,hO,hG⟩:=S.free hp;have hF:=S.f.free hp;have k1:∀{x:Addr}{rx:List (List PyData)},updO O p oo x=some (.grid rx)->O x=some (.grid rx):=λ{x rx} h=>by
  by_cases hx:x=p
  .subst hx;rw[zf]at h;cases h;exact absurd rfl (hg rx)
  .rw[ze hx]at h;exact h
 refine⟨λb u e=>?_,λa o' e=>?_,λa rs e=>?_,Yu S.f hF,λa o' e hn=>?_,S.fg,λa o' e=>?_,λa b ra rb rs ss r e1 e2=>S.u a b ra rb rs ss r (k1 e1) (k1 e2)⟩
 .rw[zu (λz=>by rw[z,hz]at e;cases e)];exact S.z _ _ e
 .by_cases hap:a=p
  .subst hap
   rw[zf]at e;cases e;refine⟨hz,ho.keep (Le.refl _) rfl rfl λrs r h1 ⟨rows,h2⟩=>absurd h2 (hg rows)⟩
  .rw[ze hap]at e
   obtain⟨h1,h2⟩:=S.o _ _ e;refine⟨h1,h2.keep (Le.refl _) (zu hap) rfl λrs r hg' ⟨rows,hrw⟩ hr=>?_⟩;subst hrw;obtain⟨_,q2,vs,q⟩:=S.rowIn e hg' hr;have hrp:r≠p:=λz=>by rw[z,hp]at q;cases q
   exact⟨zu hrp,rfl,ze hrp⟩
 .obtain⟨o',h⟩:=S.gd _ _ e
  exact⟨o',by rw[zu (yB h hp)];exact h⟩
 .by_cases hap:a=p
  .rw[hap];exact hG
  .rw[ze hap]at e;exact S.gn a o' e hn
 .obtain⟨q1,q2,q3⟩:=S.fd a o' e
  exact⟨q1,by rw[ze (yB e hF)];exact q2,λb rows rs e1=>q3 b rows rs (k1 e1)⟩
theorem Sim.put(S:Sim K Γ O H){oo o1:OO}{o:HO}(h0:O a=some o1)(hn:∀rows,o1≠.grid rows)(hg:∀rows,oo≠.grid rows)(ho:ObjW K Γ O (upd H a o) a oo):Sim K Γ (updO O a oo) (upd H a o):=by
 obtain⟨hz,h1⟩:=S.o _ _ h0;have k1:∀{x:Addr}{rx:List (List PyData)},updO O a oo x=some (.grid rx)->O x=some (.grid rx):=λ{x rx} h=>by
  by_cases hx:x=a
  .subst hx;rw[zf]at h;cases h;exact absurd rfl (hg rx)
  .rw[ze hx]at h;exact h
 have nF:∀b o',Γ.F b=some o'->b≠a:=λb o' e z=>by
  have:=(S.fd b o' e).2.1;rw[z,h0]at this;cases this
 refine⟨λb u e=>?_,λx o' e=>?_,λx rs e=>?_,λb u e=>?_,λx o' e hn'=>?_,S.fg,λx o' e=>?_,λx b ra rb rs ss r e1 e2=>S.u x b ra rb rs ss r (k1 e1) (k1 e2)⟩
 .rw[zu (λz=>by rw[z,hz]at e;cases e)];exact S.z _ _ e
 .by_cases hap:x=a
  .subst hap
   rw[zf]at e;cases e;exact⟨hz,ho.keep (Le.refl _) rfl rfl λrs r h1 ⟨rows,h2⟩=>absurd h2 (hg rows)⟩
  .rw[ze hap]at e
   obtain⟨h1,h2⟩:=S.o _ _ e;refine⟨h1,h2.keep (Le.refl _) (zu hap) rfl λrs r hg' ⟨rows,hrw⟩ hr=>?_⟩;subst hrw;obtain⟨_,q2,vs,q⟩:=S.rowIn e hg' hr;have hrp:r≠a:=λz=>by rw[z,h0]at q2;cases q2
   exact⟨zu hrp,rfl,ze hrp⟩
 .obtain⟨o',h⟩:=S.gd _ _ e
  by_cases hx:x=a
  .exact⟨o,by rw[hx,zW]⟩
  .exact⟨o',by rw[zu hx];exact h⟩
 .rw[zu (nF _ _ e)];exact S.f _ _ e
 .by_cases hap:x=a
  .rw[hap];exact S.gn a o1 h0 hn
  .rw[ze hap]at e;exact S.gn x o' e hn'
 .obtain⟨q1,q2,q3⟩:=S.fd x o' e
  exact⟨q1,by rw[ze (nF _ _ e)];exact q2,λb rows rs e1=>q3 b rows rs (k1 e1)⟩
theorem Sim.drop(S:Sim K Γ O H)(a:Addr):Sim K Γ (del O a) H:=by
 have k1:∀{x:Addr}{o:OO},del O a x=some o->x≠a/\O x=some o:=λ{x o} h=>by
  by_cases hx:x=a
  .subst hx;rw[xx]at h;cases h
  .rw[vd hx]at h;exact⟨hx,h⟩
 refine⟨S.z,λx o e=>?_,S.gd,S.f,λx o e hn=>S.gn x o (k1 e).2 hn,S.fg,λx o e=>⟨(S.fd x o e).1,by unfold del;split;rfl;exact(S.fd x o e).2.1,λb rows rs e1=>(S.fd x o e).2.2 b rows rs (k1 e1).2⟩,λx b ra rb rs ss r e1 e2=>S.u x b ra rb rs ss r (k1 e1).2 (k1 e2).2⟩;obtain⟨hx,e⟩:=k1 e;obtain⟨h1,h2⟩:=S.o _ _ e;refine⟨h1,h2.keep (Le.refl _) rfl rfl λrs r hg ⟨rows,hrw⟩ hr=>?_⟩;subst hrw;obtain⟨_,q2,_⟩:=S.rowIn e hg hr;refine⟨rfl,rfl,?_⟩;rw[q2];unfold del;split
 .rfl
 .exact q2
theorem Sim.freeze(S:Sim K Γ O H)(h:O a=some (.lst (ds.map .d))):∃Γ',Le Γ Γ'/\Sim K Γ' (del O a) H/\relW K Γ' (.d (.list ds)) (.ref a):=by
 obtain⟨hz,vs,h1,h2⟩:=S.o _ _ h;have le:Le Γ ⟨upd Γ.Z a (.lst vs),Γ.G,Γ.F⟩:=Le.zOnly (qg hz);have S1:=S.drop a;have nF:∀b o',Γ.F b=some o'->b≠a:=λb o' e z=>by
  have:=(S.fd b o' e).2.1;rw[z,h]at this;cases this
 refine⟨⟨upd Γ.Z a (.lst vs),Γ.G,Γ.F⟩,le,⟨λb u e=>?_,λx o e=>?_,S.gd,S.f,S1.gn,S.fg,λx o e=>⟨(zu (nF x o e)).trans (S1.fd x o e).1,(S1.fd x o e).2⟩,S1.u⟩,⟨a,vs,rfl,SqL.of zW,Reps.same le.z _ _ (ya h2)⟩⟩
 .replace e:upd Γ.Z a (.lst vs) b=some u:=e
  by_cases hb:b=a
  .subst hb;rw[zW]at e;cases e;exact h1
  .rw[zu hb]at e;exact S.z _ _ e
 .have hx:x≠a:=λz=>by rw[z,xx]at e;cases e
  obtain⟨q1,q2⟩:=S1.o _ _ e;refine⟨by show upd Γ.Z a _ x=none;rw[zu hx];exact q1,q2.keep le rfl rfl λrs r hg ⟨rows,hrw⟩ hr=>⟨rfl,?_,rfl⟩⟩;subst hrw;rw[vd hx]at e;obtain⟨_,q2,_⟩:=S.rowIn e hg hr;exact zu (λz=>by rw[z,h]at q2;cases q2)
theorem Sim.cell(S:Sim K Γ O H){r:Addr}{rows:List (List PyData)}{rs:List Addr}{j:Nat}{x:PyData}(h0:O a=some (.grid rows))(hg:Γ.G a=some rs)(hr:rs[i]? =some r)(hd:rows[i]? =some ds)
  (hv:H r=some (.lst vs))(rx:Rep K Γ.Z x v):Sim K Γ (updO O a (.grid (rows.set i (ds.set j x)))) (upd H r (.lst (vs.set j v))):=by
 obtain⟨hz,rs',hg',h1,hl,hn,hrow⟩:=S.o _ _ h0;rw[hg]at hg';cases hg';obtain⟨z1,z2,vs',z3,z4⟩:=hrow i r ds hr hd;rw[hv]at z3;cases z3;have har:a≠r:=λe=>by rw[<-e,h0]at z2;cases z2
 have nF:∀b o',Γ.F b=some o'->b≠r:=λb o' e z=>(S.fd b o' e).2.2 a rows rs h0 hg (by rw[z];exact lK hr);have nFa:∀b o',Γ.F b=some o'->b≠a:=λb o' e z=>by
  have:=(S.fd b o' e).2.1;rw[z,h0]at this;cases this
 have kg:∀{b:Addr}{rb:List (List PyData)},updO O a (.grid (rows.set i (ds.set j x))) b=some (.grid rb)->∃ry,O b=some (.grid ry):=λ{b rb} e1=>by
  by_cases hx:b=a
  .exact⟨rows,by rw[hx];exact h0⟩
  .rw[ze hx]at e1;exact⟨rb,e1⟩
 refine⟨λb u e=>?_,λb oo e=>?_,λb ss e=>?_,λb u e=>by rw[zu (nF _ _ e)];exact S.f _ _ e,λb o' e hn'=>?_,S.fg,λb o' e=>⟨(S.fd b o' e).1,by rw[ze (nFa _ _ e)];exact(S.fd b o' e).2.1,λc rc ss e1 g1=>by obtain⟨ry,e2⟩:=kg e1;exact(S.fd b o' e).2.2 c ry ss e2 g1⟩,λb c rb rc ss tt q e1 e2 h3 h4 h5 h6=>?_⟩
 .rw[zu (λz=>by rw[z,z1]at e;cases e)];exact S.z _ _ e
 .by_cases hb:b=a
  .subst hb
   rw[zf]at e;cases e;refine⟨hz,rs,hg,by rw[zu har];exact h1,by rw[List.length_set];exact hl,hn,λk q es e1 e2=>?_⟩;have hq:O q=none:=(S.rowIn h0 hg (lK e1)).2.1;have hqb:q≠b:=λe=>by rw[e,h0]at hq;cases hq
   by_cases hk:k=i
   .subst hk
    rw[hr]at e1;cases e1;rw[List.getElem?_set_self (lx.mp hd).1]at e2;cases e2;refine⟨z1,by rw[ze hqb];exact z2,_,zW,?_⟩;have hw:=yA (Γ:=Γ) z4;have hw2:=Paired.setP hw (show relW K Γ (.d x) v from rx) (i:=j);rw[<-List.map_set]at hw2;exact ya hw2
   .have hne:q≠r:=λe=>by
     rw[e]at e1;obtain⟨l1,g1⟩:=lx.mp e1;obtain⟨l2,g2⟩:=lx.mp hr;exact hk ((List.getElem_inj hn).mp (g1.trans g2.symm))
    rw[List.getElem?_set_ne (Ne.symm hk)]at e2;obtain⟨y1,y2,ws,y3,y4⟩:=hrow k q es e1 e2;exact⟨y1,by rw[ze hqb];exact y2,ws,by rw[zu hne];exact y3,y4⟩
  .rw[ze hb]at e
   obtain⟨q1,q2⟩:=S.o _ _ e;have hbr:b≠r:=λz=>by rw[z,z2]at e;cases e
   refine⟨q1,q2.keep (Le.refl _) (zu hbr) rfl λss q hgs ⟨rows',hrw⟩ hq=>?_⟩;subst hrw;obtain⟨w1,w2,ws,w3⟩:=S.rowIn e hgs hq;have hqr:q≠r:=λz=>hb (S.u b a rows' rows ss rs q e h0 hgs hg hq (by rw[z];exact lK hr));exact⟨zu hqr,rfl,ze (λz=>by rw[z,h0]at w2;cases w2)⟩
 .obtain⟨o,h⟩:=S.gd _ _ e
  by_cases hb:b=r
  .exact⟨_,by rw[hb,zW]⟩
  .exact⟨o,by rw[zu hb];exact h⟩
 .by_cases hb:b=a
  .subst hb;rw[zf]at e;cases e;exact absurd rfl (hn' _)
  .rw[ze hb]at e;exact S.gn b o' e hn'
 .obtain⟨r1,f1⟩:=kg e1
  obtain⟨r2,f2⟩:=kg e2;exact S.u b c r1 r2 ss tt q f1 f2 h3 h4 h5 h6
theorem Sim.absorb(S:Sim K Γ O H){b:Addr}{rows:List (List PyData)}{rs:List Addr}(h0:O a=some (.grid rows))(hg:Γ.G a=some rs)(hb:O b=some (.lst (ds.map .d))) :
  H a=some (.lst (rs.map V.ref))/\rs.length=rows.length/\∃Γ',Le Γ Γ'/\Sim K Γ' (updO (del O b) a (.grid (rows++[ds]))) (upd H a (.lst (rs.map V.ref++[.ref b]))):=by
 obtain⟨hz,rs',hg',h1,hl,hn,hrow⟩:=S.o _ _ h0;rw[hg]at hg';cases hg';obtain⟨hzb,vb,hb1,hb2⟩:=S.o _ _ hb;have hab:a≠b:=λe=>by rw[e,hb]at h0;cases h0
 have hbr:b∉rs:=λm=>by
  obtain⟨_,q,_⟩:=S.rowIn h0 hg m;rw[hb]at q;cases q
 have le:Le Γ ⟨Γ.Z,fun x=>if x=a then some (rs ++ [b]) else Γ.G x,Γ.F⟩:=⟨rfl,Same.refl _,fun x ss h=>by
  by_cases hx:x=a
  .subst hx;rw[hg]at h;cases h;exact⟨[b],by simp⟩
  .exact⟨[],by simp[hx,h]⟩⟩
 have nFa:∀c o',Γ.F c=some o'->c≠a:=λc o' e z=>by
  have:=(S.fd c o' e).2.1;rw[z,h0]at this;cases this
 have nFb:∀c o',Γ.F c=some o'->c≠b:=λc o' e z=>by
  have:=(S.fd c o' e).2.1;rw[z,hb]at this;cases this
 have k1:∀{x:Addr}{rx:List (List PyData)},updO (del O b) a (.grid (rows++[ds])) x=some (.grid rx)->∃ry,O x=some (.grid ry):=λ{x rx} h=>by
  by_cases hx:x=a
  .exact⟨rows,by rw[hx];exact h0⟩
  .rw[ze hx]at h
   by_cases hxb:x=b
   .rw[hxb,xx]at h;cases h
   .rw[vd hxb]at h;exact⟨rx,h⟩
 refine⟨h1,hl,_,le,⟨λx u e=>?_,λx oo e=>?_,λx ss e=>?_,λc u e=>by rw[zu (nFa _ _ e)];exact S.f _ _ e,λx o' e hn'=>?_,λc o' e=>by have hne:=nFa c o' e;simpa[hne]using S.fg c o' e,λc o' e=>⟨(S.fd c o' e).1,by rw[ze (nFa _ _ e),vd (nFb _ _ e)];exact(S.fd c o' e).2.1,λd rd ss e1 g1=>?_⟩,λx y ra rb ss tt r e1 e2 g1 g2 m1 m2=>?_⟩⟩
 .rw[zu (λz=>by rw[z,show({ Z:=Γ.Z,G:=λx=>if x=a then some (rs++[b])else Γ.G x,F:=Γ.F }:Gh).Z a=none from hz]at e;cases e)];exact S.z _ _ e
 .by_cases hx:x=a
  .subst hx
   rw[zf]at e;cases e;refine⟨hz,rs++[b],by simp,by rw[zW,m9];rfl,by simp[hl],?_,λi r es e1 e2=>?_⟩
   .rw[List.nodup_append]
    exact⟨hn,by simp,λu hu v hv=>by simp at hv;subst hv;exact λz=>hbr (by rw[<-z];exact hu)⟩
   .by_cases hi:i<rs.length
    .rw[mq hi]at e1
     rw[mq (by omega)]at e2;obtain⟨y1,y2,ws,y3,y4⟩:=hrow i r es e1 e2;have hrx:r≠x:=λz=>by rw[z,h0]at y2;cases y2
     refine⟨y1,?_,ws,by rw[zu hrx];exact y3,y4⟩;rw[ze hrx];unfold del;split
     .rfl
     .exact y2
    .have hi2:i=rs.length:=by
      have:=(lx.mp e1).1;simp at this;omega
     subst hi2;rw[mE (lp _)]at e1;simp at e1;subst e1;rw[hl,mE (lp _)]at e2;simp at e2;subst e2;exact⟨hzb,by rw[ze (Ne.symm hab),xx],vb,by rw[zu (Ne.symm hab)];exact hb1,ya (Γ:=Γ) hb2⟩
  .rw[ze hx]at e
   have hxb:x≠b:=λz=>by rw[z,xx]at e;cases e
   rw[vd hxb]at e;obtain⟨q1,q2⟩:=S.o _ _ e;refine⟨q1,q2.keep le (zu hx) (by simp[hx]) λss r hgs ⟨rows',hrw⟩ hq=>?_⟩;subst hrw;obtain⟨w1,w2,ws,w3⟩:=S.rowIn e hgs hq;have hra:r≠a:=λz=>by rw[z,h0]at w2;cases w2
   have hrb:r≠b:=λz=>by rw[z,hb]at w2;cases w2
   exact⟨zu hra,rfl,by rw[ze hra,vd hrb]⟩
 .by_cases hx:x=a
  .exact⟨_,by rw[hx,zW]⟩
  .obtain⟨o,h⟩:=S.gd x ss (by simpa[hx]using e)
   exact⟨o,by rw[zu hx];exact h⟩
 .by_cases hx:x=a
  .subst hx;rw[zf]at e;cases e;exact absurd rfl (hn' _)
  .rw[ze hx]at e
   by_cases hxb:x=b
   .rw[hxb,xx]at e;cases e
   .rw[vd hxb]at e
    simpa[hx]using S.gn x o' e hn'
 .by_cases hd:d=a
  .subst hd
   simp at g1;subst g1;intro m;rcases lz.mp m with m|m
   .exact(S.fd c o' e).2.2 d rows rs h0 hg m
   .simp at m;exact nFb _ _ e m
  .obtain⟨ry,e2⟩:=k1 e1
   exact(S.fd c o' e).2.2 d ry ss e2 (by simpa[hd]using g1)
 .obtain⟨r1,f1⟩:=k1 e1
  obtain⟨r2,f2⟩:=k1 e2;have nb:∀{z:Addr}{rz:List (List PyData)}{sz:List Addr},O z=some (.grid rz)->Γ.G z=some sz->b∉sz:=λhz1 hz2 m=>by
   obtain⟨_,q,_⟩:=S.rowIn hz1 hz2 m;rw[hb]at q;cases q
  by_cases hx:x=a
  .by_cases hy:y=a
   .rw[hx,hy]
   .have g2':Γ.G y=some tt:=by simpa[hy]using g2
    rw[hx]at g1 ⊢;simp at g1;subst g1;rcases lz.mp m1 with m|m
    .exact S.u a y rows r2 rs tt r h0 f2 hg g2' m m2
    .simp at m;subst m;exact absurd m2 (nb f2 g2')
  .have g1':Γ.G x=some ss:=by simpa[hx]using g1
   by_cases hy:y=a
   .rw[hy]at g2 ⊢
    simp at g2;subst g2;rcases lz.mp m2 with m|m
    .exact S.u x a r1 rows ss rs r f1 h0 g1' hg m1 m
    .simp at m;subst m;exact absurd m1 (nb f1 g1')
   .exact S.u x y r1 r2 ss tt r f1 f2 g1' (by simpa[hy]using g2) m1 m2
theorem relW.setF{F:Hp}:∀{w:W}{v:V},relW K Γ w v->relW K ⟨Γ.Z,Γ.G,F⟩ w v
 |.d _,_,h=>h
 |.own _,_,h=>h
 |.row _ _,_,h=>h
theorem relR.setF{F:Hp}{ρ:List (Option W)}(r:relR K Γ ρ σ):relR K ⟨Γ.Z,Γ.G,F⟩ ρ σ:=Paired.mapP r λa b h=>by
 cases a with
 |none=>trivial
 |some w=>cases b with
  |none=>exact h
  |some v=>exact relW.setF h
theorem ObjW.setF{F:Hp}{oo:OO}(h:ObjW K Γ O H a oo):ObjW K ⟨Γ.Z,Γ.G,F⟩ O H a oo:=by
 cases oo with
 |lst ws=>obtain⟨vs,h1,h2⟩:=h;exact⟨vs,h1,Paired.mapP h2 λ_ _ z=>z.setF⟩
 |dK ws=>obtain⟨vs,h1,h2⟩:=h;exact⟨vs,h1,Paired.mapP h2 λ_ _ z=>⟨z.1,z.2.setF⟩⟩
 |ins C dx ws=>obtain⟨vs,h1,h2⟩:=h;exact⟨vs,h1,Paired.mapP h2 λ_ _ z=>⟨z.1,z.2.setF⟩⟩
 |grid rows=>exact h
 |raw p=>exact h
theorem Sim.frameNew(S:Sim K Γ O H)(hp:H p=none)(o:HO):Sim K ⟨Γ.Z,Γ.G,upd Γ.F p o⟩ O (upd H p o):=by
 obtain⟨hz,hO,hG⟩:=S.free hp;have key:∀a o',upd Γ.F p o a=some o'->a=p\/(a≠p/\Γ.F a=some o'):=λa o' e=>by
  by_cases ha:a=p
  .exact .inl ha
  .rw[zu ha]at e;exact .inr ⟨ha,e⟩
 refine⟨λb u e=>?_,λa oo e=>?_,λa rs e=>?_,λb u e=>?_,S.gn,λa o' e=>?_,λa o' e=>?_,S.u⟩
 .rw[zu (λz=>by rw[z,show({ Z:=Γ.Z,G:=Γ.G,F:=upd Γ.F p o }:Gh).Z p=none from hz]at e;cases e)];exact S.z _ _ e
 .have hap:a≠p:=λz=>by rw[z,hO]at e;cases e
  obtain⟨h1,h2⟩:=S.o _ _ e;refine⟨h1,(h2.keep (Le.refl _) (zu hap) rfl λrs r hg ⟨rows,hrw⟩ hr=>?_).setF⟩;subst hrw;obtain⟨_,_,vs,q⟩:=S.rowIn e hg hr;exact⟨zu (λz=>by rw[z,hp]at q;cases q),rfl,rfl⟩
 .obtain⟨o',h⟩:=S.gd _ _ e
  exact⟨o',by rw[zu (yB h hp)];exact h⟩
 .replace e:upd Γ.F p o b=some u:=e
  rcases key b u e with rfl|⟨hb,e'⟩
  .rw[zW]at e ⊢;exact e
  .rw[zu hb];exact S.f _ _ e'
 .rcases key a o' e with rfl|⟨hb,e'⟩
  .exact hG
  .exact S.fg _ _ e'
 .rcases key a o' e with rfl|⟨hb,e'⟩
  .refine⟨hz,hO,λb rows rs e1 g1 m=>?_⟩
   obtain⟨_,_,vs,q⟩:=S.rowIn e1 g1 m;rw[hp]at q;cases q
  .exact S.fd _ _ e'
theorem Sim.framePut(S:Sim K Γ O H){o1:HO}(h:Γ.F a=some o1)(o:HO):Sim K ⟨Γ.Z,Γ.G,upd Γ.F a o⟩ O (upd H a o):=by
 obtain⟨hz,hO,hr⟩:=S.fd _ _ h;have hG:=S.fg _ _ h;have key:∀b o',upd Γ.F a o b=some o'->b=a\/(b≠a/\Γ.F b=some o'):=λb o' e=>by
  by_cases ha:b=a
  .exact .inl ha
  .rw[zu ha]at e;exact .inr ⟨ha,e⟩
 refine⟨λb u e=>?_,λb oo e=>?_,λb rs e=>?_,λb u e=>?_,S.gn,λb o' e=>?_,λb o' e=>?_,S.u⟩
 .rw[zu (λz=>by rw[z,show({ Z:=Γ.Z,G:=Γ.G,F:=upd Γ.F a o }:Gh).Z a=none from hz]at e;cases e)];exact S.z _ _ e
 .have hap:b≠a:=λz=>by rw[z,hO]at e;cases e
  obtain⟨h1,h2⟩:=S.o _ _ e;refine⟨h1,(h2.keep (Le.refl _) (zu hap) rfl λrs r hg ⟨rows,hrw⟩ hm=>?_).setF⟩;subst hrw;exact⟨zu (λz=>hr b rows rs e hg (by rw[<-z];exact hm)),rfl,rfl⟩
 .obtain⟨o',h⟩:=S.gd _ _ e
  by_cases hb:b=a
  .exact⟨o,by rw[hb,zW]⟩
  .exact⟨o',by rw[zu hb];exact h⟩
 .replace e:upd Γ.F a o b=some u:=e
  rcases key b u e with rfl|⟨hb,e'⟩
  .rw[zW]at e ⊢;exact e
  .rw[zu hb];exact S.f _ _ e'
 .rcases key b o' e with rfl|⟨hb,e'⟩
  .exact hG
  .exact S.fg _ _ e'
 .rcases key b o' e with rfl|⟨hb,e'⟩
  .exact⟨hz,hO,hr⟩
  .exact S.fd _ _ e'
theorem Sim.frameOwn(S:Sim K Γ O H){ws:List W}(h:O a=some (.lst ws)):∃vs,H a=some (.lst vs)/\relWs K Γ ws vs/\Sim K ⟨Γ.Z,Γ.G,upd Γ.F a (.lst vs)⟩ (del O a) H:=by
 obtain⟨hz,vs,h1,h2⟩:=S.o _ _ h;have hG:=S.gn _ _ h (by intro _ z;cases z);have S1:=S.drop a;have key:∀b o',upd Γ.F a (.lst vs) b=some o'->b=a\/(b≠a/\Γ.F b=some o'):=λb o' e=>by
  by_cases ha:b=a
  .exact .inl ha
  .rw[zu ha]at e;exact .inr ⟨ha,e⟩
 refine⟨vs,h1,h2,⟨S.z,λb oo e=>⟨(S1.o b oo e).1,(S1.o b oo e).2.setF⟩,S.gd,λb u e=>?_,S1.gn,λb o' e=>?_,λb o' e=>?_,S1.u⟩⟩
 .replace e:upd Γ.F a (.lst vs) b=some u:=e
  rcases key b u e with rfl|⟨hb,e'⟩
  .rw[zW]at e;cases e;exact h1
  .exact S.f _ _ e'
 .rcases key b o' e with rfl|⟨hb,e'⟩
  .exact hG
  .exact S.fg _ _ e'
 .rcases key b o' e with rfl|⟨hb,e'⟩
  .refine⟨hz,xx,λc rows rs e1 g1 m=>?_⟩
   obtain⟨_,q,_⟩:=S1.rowIn e1 g1 m;have hc:c≠b:=λz=>by rw[z,xx]at e1;cases e1
   rw[vd hc]at e1;have:=(S.rowIn e1 g1 m).2.1;rw[h]at this;cases this
  .exact S1.fd _ _ e'
theorem Sim.unframe(S:Sim K Γ O H){F:Hp}(hF:Γ.F=upd F a (.lst vs))(h0:F a=none)(hr:Reps K Γ.Z ds vs) :
  Same Γ.Z (upd Γ.Z a (.lst vs))/\Sim K ⟨upd Γ.Z a (.lst vs),Γ.G,F⟩ O H/\relW K ⟨upd Γ.Z a (.lst vs),Γ.G,F⟩ (.d (.list ds)) (.ref a):=by
 have hFa:Γ.F a=some (.lst vs):=by rw[hF,zW]
 obtain⟨hz,hO,hrow⟩:=S.fd _ _ hFa;have le:Le Γ ⟨upd Γ.Z a (.lst vs),Γ.G,Γ.F⟩:=Le.zOnly (qg hz);have kF:∀b o,F b=some o->b≠a/\Γ.F b=some o:=λb o e=>by
  have hb:b≠a:=λz=>by rw[z,h0]at e;cases e
  exact⟨hb,by rw[hF,zu hb];exact e⟩
 refine⟨qg hz,⟨λb u e=>?_,λb oo e=>?_,S.gd,λb u e=>S.f _ _ (kF b u e).2,S.gn,λb o e=>S.fg b o (kF b o e).2,λb o e=>⟨(zu (kF b o e).1).trans (S.fd b o (kF b o e).2).1,(S.fd b o (kF b o e).2).2⟩,S.u⟩,⟨a,vs,rfl,SqL.of zW,Reps.same (qg hz) _ _ hr⟩⟩
 .replace e:upd Γ.Z a (.lst vs) b=some u:=e
  by_cases hb:b=a
  .subst hb;rw[zW]at e;cases e;exact S.f _ _ hFa
  .rw[zu hb]at e;exact S.z _ _ e
 .obtain⟨q1,q2⟩:=S.o _ _ e
  have hb:b≠a:=λz=>by rw[z,hO]at e;cases e
  refine⟨(zu hb).trans q1,(q2.keep le rfl rfl λrs r hg ⟨rows,hrw⟩ hm=>⟨rfl,?_,rfl⟩).setF⟩;subst hrw;exact zu (λz=>hrow b rows rs e hg (by rw[<-z];exact hm))
theorem Sim.gridify(S:Sim K Γ O H){rs:List Addr}{rows:List (List PyData)}{F:Hp}(h0:F a=none)(hFa:Γ.F a=some (.lst (rs.map V.ref)))(hn:rs.Nodup)(har:a∉rs)(hl:rs.length=rows.length)
  (hrow:∀(i:Nat) (r:Addr) (ds:List PyData),rs[i]? =some r->rows[i]? =some ds->F r=none/\∃vs,Γ.F r=some (.lst vs)/\Reps K Γ.Z ds vs)(hF:∀x,x≠a->x∉rs->Γ.F x=F x) :
  O a=none/\∃G',(∀b ss,Γ.G b=some ss->G' b=some ss)/\Sim K ⟨Γ.Z,G',F⟩ (updO O a (.grid rows)) H:=by
 obtain⟨hz,hO,_⟩:=S.fd _ _ hFa;have hG:=S.fg _ _ hFa;have hmem:∀r∈rs,F r=none/\∃vs,Γ.F r=some (.lst vs):=λr hr=>by
  obtain⟨i,hi,rfl⟩:=List.mem_iff_getElem.mp hr;obtain⟨q1,vs,q2,_⟩:=hrow i rs[i] (rows[i]'(by omega)) (ls hi) (ls (by omega));exact⟨q1,vs,q2⟩
 have kF:∀b o,F b=some o->b≠a/\b∉rs/\Γ.F b=some o:=λb o e=>by
  have hb:b≠a:=λz=>by rw[z,h0]at e;cases e
  have hb2:b∉rs:=λm=>by rw[(hmem b m).1]at e;cases e
  exact⟨hb,hb2,by rw[hF b hb hb2];exact e⟩
 have le:Le Γ ⟨Γ.Z,fun b=>if b=a then some rs else Γ.G b,Γ.F⟩:=⟨rfl,Same.refl _,fun b ss h=>⟨[],by
  have:b≠a:=λe=>by rw[e,hG]at h;cases h
  simp[this,h]⟩⟩
 refine⟨hO,fun b=>if b=a then some rs else Γ.G b,fun b ss h=>by
  have:b≠a:=λe=>by rw[e,hG]at h;cases h
  simp[this,h],⟨S.z,λb oo e=>?_,λb ss e=>?_,λb u e=>S.f _ _ (kF b u e).2.2,λb oo e hne=>?_,λb o e=>?_,λb o e=>?_,λb c rb rc ss tt r e1 e2 g1 g2 m1 m2=>?_⟩⟩
 .by_cases hb:b=a
  .subst hb
   rw[zf]at e;cases e;refine⟨hz,rs,by simp,S.f _ _ hFa,hl,hn,λi r ds q1 q2=>?_⟩;obtain⟨_,vs,q3,q4⟩:=hrow i r ds q1 q2;obtain⟨y1,y2,_⟩:=S.fd _ _ q3;refine⟨y1,?_,vs,S.f _ _ q3,q4⟩;rw[ze (λz=>har (by rw[<-z];exact lK q1))];exact y2
  .rw[ze hb]at e
   obtain⟨q1,q2⟩:=S.o _ _ e;refine⟨q1,(q2.keep le rfl (by simp[hb]) λss r hg ⟨rows',hrw⟩ hm=>⟨rfl,rfl,?_⟩).setF⟩;subst hrw;obtain⟨_,q,_⟩:=S.rowIn e hg hm;exact ze (λz=>(S.fd _ _ hFa).2.2 b rows' ss e hg (by rw[<-z];exact hm))
 .by_cases hb:b=a
  .rw[hb];exact⟨_,S.f _ _ hFa⟩
  .exact S.gd b ss (by simpa[hb]using e)
 .by_cases hb:b=a
  .subst hb;rw[zf]at e;cases e;exact absurd rfl (hne _)
  .rw[ze hb]at e
   simpa[hb]using S.gn b oo e hne
 .have:=(kF b o e).1
  simpa[this]using S.fg b o (kF b o e).2.2
 .obtain⟨k1,k2,k3⟩:=kF b o e
  obtain⟨y1,y2,y3⟩:=S.fd _ _ k3;refine⟨y1,by rw[ze k1];exact y2,λc rows' ss e1 g1=>?_⟩;by_cases hc:c=a
  .subst hc;simp at g1;subst g1;exact k2
  .rw[ze hc]at e1
   exact y3 c rows' ss e1 (by simpa[hc]using g1)
 .by_cases hb:b=a
  .by_cases hc:c=a
   .rw[hb,hc]
   .subst hb
    simp at g1;subst g1;rw[ze hc]at e2;obtain⟨_,vs,q⟩:=hmem r m1;exact absurd m2 ((S.fd _ _ q).2.2 c rc tt e2 (by simpa[hc]using g2))
  .rw[ze hb]at e1
   by_cases hc:c=a
   .subst hc
    simp at g2;subst g2;obtain⟨_,vs,q⟩:=hmem r m2;exact absurd m1 ((S.fd _ _ q).2.2 b rb ss e1 (by simpa[hb]using g1))
   .rw[ze hc]at e2
    exact S.u b c rb rc ss tt r e1 e2 (by simpa[hb]using g1) (by simpa[hc]using g2) m1 m2
end
abbrev WS:=List (Option W)
abbrev WK:=W->OM->Prop
abbrev TEW:=WS->OM->WK->Prop
abbrev TTW:=WS->OM->(Bool->OM->Prop)->Prop
abbrev TAW:=WS->OM->(List W->OM->Prop)->Prop
structure EndsW where
 nx:WS->OM->Prop
 rt:WK
 bk:WS->OM->Prop:=λ_ _=>False
 ct:WS->OM->Prop:=λ_ _=>False
abbrev TSW:=EndsW->WS->OM->Prop
abbrev TGW:=W->WS->OM->(WS->OM->Prop)->Prop
abbrev TGsW:=List PyData->WS->OM->(WS->OM->Prop)->Prop
abbrev R2W:=W->W->OM->WK->Prop
section
variable (K:W.Frag)
def RefE(t:TE)(T:TEW):Prop:=∀Γ O H ρ σ,Sim K Γ O H->relR K Γ ρ σ->∀(Q:VK) (R:WK),T ρ O R->(∀Γ' O' H' w v,Le Γ Γ'->Sim K Γ' O' H'->relW K Γ' w v->R w O'->Q v H')->t σ H Q
def xy(t:TT)(T:TTW):Prop:=∀Γ O H ρ σ,Sim K Γ O H->relR K Γ ρ σ->∀(Q:Bool->Hp->Prop) (R:Bool->OM->Prop),T ρ O R->(∀Γ' O' H' b,Le Γ Γ'->Sim K Γ' O' H'->R b O'->Q b H')->t σ H Q
def xh(t:TA)(T:TAW):Prop:=∀Γ O H ρ σ,Sim K Γ O H->relR K Γ ρ σ->∀(Q:List V->Hp->Prop) (R:List W->OM->Prop),T ρ O R->(∀Γ' O' H' ws vs,Le Γ Γ'->Sim K Γ' O' H'->relWs K Γ' ws vs->R ws O'->Q vs H')->t σ H Q
structure EndsR (Γ:Gh) (D:Ends) (DW:EndsW):Prop where
 nx:∀Γ' O' H' ρ' σ',Le Γ Γ'->Sim K Γ' O' H'->relR K Γ' ρ' σ'->DW.nx ρ' O'->D.nx σ' H'
 rt:∀Γ' O' H' w v,Le Γ Γ'->Sim K Γ' O' H'->relW K Γ' w v->DW.rt w O'->D.rt v H'
 bk:∀Γ' O' H' ρ' σ',Le Γ Γ'->Sim K Γ' O' H'->relR K Γ' ρ' σ'->DW.bk ρ' O'->D.bk σ' H'
 ct:∀Γ' O' H' ρ' σ',Le Γ Γ'->Sim K Γ' O' H'->relR K Γ' ρ' σ'->DW.ct ρ' O'->D.ct σ' H'
def RefS(t:TS)(T:TSW):Prop:=∀Γ O H ρ σ D DW,Sim K Γ O H->relR K Γ ρ σ->T DW ρ O->EndsR K Γ D DW->t D σ H
def RefG(t:TG)(T:TGW):Prop:=∀Γ O H ρ σ w v,Sim K Γ O H->relR K Γ ρ σ->relW K Γ w v->∀(Q:St->Hp->Prop) (R:WS->OM->Prop),T w ρ O R->(∀Γ' O' H' ρ' σ',Le Γ Γ'->Sim K Γ' O' H'->relR K Γ' ρ' σ'->R ρ' O'->Q σ' H')->t v σ H Q
def RefGs(t:TGs)(T:TGsW):Prop:=∀Γ O H ρ σ ds vs,Sim K Γ O H->relR K Γ ρ σ->Reps K Γ.Z ds vs->∀(Q:St->Hp->Prop) (R:WS->OM->Prop),T ds ρ O R->(∀Γ' O' H' ρ' σ',Le Γ Γ'->Sim K Γ' O' H'->relR K Γ' ρ' σ'->R ρ' O'->Q σ' H')->t vs σ H Q
def RefR(r:R2)(rw:R2W):Prop:=∀Γ O H x y v u,Sim K Γ O H->relW K Γ x v->relW K Γ y u->∀(Q:VK) (R:WK),rw x y O R->(∀Γ' O' H' w v,Le Γ Γ'->Sim K Γ' O' H'->relW K Γ' w v->R w O'->Q v H')->r v u H Q
def RefU(r:V->Hp->VK->Prop)(rw:W->OM->WK->Prop):Prop:=∀Γ O H x v,Sim K Γ O H->relW K Γ x v->∀(Q:VK) (R:WK),rw x O R->(∀Γ' O' H' w v,Le Γ Γ'->Sim K Γ' O' H'->relW K Γ' w v->R w O'->Q v H')->r v H Q
def RefC(r:List V->Hp->VK->Prop)(rw:List W->OM->WK->Prop):Prop:=∀Γ O H xs vs,Sim K Γ O H->relWs K Γ xs vs->∀(Q:VK) (R:WK),rw xs O R->(∀Γ' O' H' w v,Le Γ Γ'->Sim K Γ' O' H'->relW K Γ' w v->R w O'->Q v H')->r vs H Q
def RefM(ty:String)(r:V->List V->Hp->VK->Prop)(rw:W->List W->OM->WK->Prop):Prop:=∀Γ O H x v xs vs,Sim K Γ O H->relW K Γ x v->relWs K Γ xs vs->∀(Q:VK) (R:WK),rw x xs O R->(∀Γ' O' H' w v,Le Γ Γ'->Sim K Γ' O' H'->relW K Γ' w v->R w O'->Q v H')->r v vs H Q
end
theorem EndsR.mono{Γ Γ':Gh}{D:Ends}{DW:EndsW}(h:EndsR K Γ D DW)(l:Le Γ Γ'):EndsR K Γ' D DW:=
 ⟨λ_ _ _ _ _ l2=>h.nx _ _ _ _ _ (l.trans l2),λ_ _ _ _ _ l2=>h.rt _ _ _ _ _ (l.trans l2),λ_ _ _ _ _ l2=>h.bk _ _ _ _ _ (l.trans l2),λ_ _ _ _ _ l2=>h.ct _ _ _ _ _ (l.trans l2)⟩
noncomputable def ofV:V->W
 |.int i=>.d (.int i)
 |.bl b=>.d (.bool b)
 |.str x=>.d (.str x)
 |_=>.d .none
noncomputable def scV:V->Bool
 |.int _=>true
 |.bl _=>true
 |.str _=>true
 |.non=>true
 |_=>false
theorem Z2{Γ:Gh}(h:scV v=true):relW K Γ (ofV v) v:=by
 cases v<;>first|rfl|simp[scV]at h
noncomputable def vOf:PyData->V
 |.int i=>.int i
 |.bool b=>.bl b
 |.str x=>.str x
 |.none=>.non
 |_=>.ty ""
noncomputable def scD:PyData->Bool
 |.int _=>true
 |.bool _=>true
 |.str _=>true
 |.none=>true
 |_=>false
theorem jy{Z:Hp}{x:PyData}(h:Rep K Z x v)(s:scD x=true):v=vOf x:=by
 cases x<;>first|exact h|simp[scD]at s
theorem yX{Γ:Gh}{b:Bool}:relW K Γ (.d (.bool b)) (.bl b):=rfl
theorem vX{Γ:Gh}{b:Str}:relW K Γ (.d (.str b)) (.str b):=rfl
theorem xS{Γ:Gh}{b:Int}:relW K Γ (.d (.int b)) (.int b):=rfl
theorem xm{Γ:Gh}:relW K Γ (.own a) (.ref a):=rfl
theorem zkl{Γ:Gh}{x:PyData}(h:Rep K Γ.Z x v):relW K Γ (.d x) v:=h
theorem vY{Γ:Gh}:relW K Γ (.d .none) .non:=rfl
def zk5(i:Nat):TEW:=λρ O R=>∃w,ρ[i]? =some (some w)/\R w O
def wC(x:PyData):TEW:=λ_ O R=>R (.d x) O
theorem zgH:RefE K (KQ i) (zk5 i):=by
 rintro Γ O H ρ σ S r Q R ⟨w,e,h⟩ k;obtain⟨v,e',hv⟩:=r.get e;exact⟨v,e',k _ _ _ _ _ (Le.refl _) S hv h⟩
theorem Uq{x:PyData}(h:vOf x=v:=by rfl)(hs:scD x=true:=by rfl):RefE K (tC v) (wC x):=by
 rintro Γ O H ρ σ S r Q R hR k;subst h;refine k _ _ _ _ _ (Le.refl _) S ?_ hR;cases x<;>first|rfl|simp[scD]at hs
theorem zgI{i:Int}:RefE K (tC (.int i)) (wC (.int i)):=Uq
theorem zgJ{i:Str}:RefE K (tC (.str i)) (wC (.str i)):=Uq
theorem ziG{i:Bool}:RefE K (tC (.bl i)) (wC (.bool i)):=Uq
theorem zgK:RefE K (tC .non) (wC .none):=Uq
def wOp(r:R2W)(Ta Tb:TEW):TEW:=λρ O R=>Ta ρ O λx O1=>Tb ρ O1 λy O2=>r x y O2 R
theorem ziH{r:R2}{rw:R2W}{tb:TE}{Ta Tb:TEW}(hr:RefR K r rw)(ha:RefE K ta Ta)(hb:RefE K tb Tb):RefE K (tOp r ta tb) (wOp rw Ta Tb):=by
 intro Γ O H ρ σ S r0 Q R h k;refine ha Γ O H ρ σ S r0 _ _ h λΓ1 O1 H1 x v l1 S1 rx h1=>?_;refine hb Γ1 O1 H1 ρ σ S1 (r0.mono l1) _ _ h1 λΓ2 O2 H2 y u l2 S2 ry h2=>?_;exact hr Γ2 O2 H2 x y v u S2 (rx.mono l2) ry _ _ h2 λΓ3 O3 H3 w z l3 S3 rz h3=>k Γ3 O3 H3 w z ((l1.trans l2).trans l3) S3 rz h3
def wUn(r:W->OM->WK->Prop)(Ta:TEW):TEW:=λρ O R=>Ta ρ O λx O1=>r x O1 R
theorem ziI{r:V->Hp->VK->Prop}{rw:W->OM->WK->Prop}{Ta:TEW}(hr:RefU K r rw)(ha:RefE K ta Ta):RefE K (tUn r ta) (wUn rw Ta):=by
 intro Γ O H ρ σ S r0 Q R h k;refine ha Γ O H ρ σ S r0 _ _ h λΓ1 O1 H1 x v l1 S1 rx h1=>?_;exact hr Γ1 O1 H1 x v S1 rx _ _ h1 λΓ3 O3 H3 w z l3 S3 rz h3=>k Γ3 O3 H3 w z (l1.trans l3) S3 rz h3
def wI0(g:Int->Int->V):R2W:=λx y O R=>∃i j,x=.d (.int i)/\y=.d (.int j)/\R (ofV (g i j)) O
def wI(C:Int->Int->Prop)(g:Int->Int->V):R2W:=λx y O R=>∃i j,x=.d (.int i)/\y=.d (.int j)/\C i j/\R (ofV (g i j)) O
theorem zk6{g:Int->Int->V}(hg:∀i j,scV (g i j)=true:=by intro _ _;rfl):RefR K (rI0 g) (wI0 g):=by
 rintro Γ O H x y v u S rx ry Q R ⟨i,j,rfl,rfl,h⟩ k;exact⟨i,j,rx,ry,k _ _ _ _ _ (Le.refl _) S (Z2 (hg i j)) h⟩
theorem r_I{C:Int->Int->Prop}{g:Int->Int->V}(hg:∀i j,scV (g i j)=true:=by intro _ _;rfl):RefR K (rI C g) (wI C g):=by
 rintro Γ O H x y v u S rx ry Q R ⟨i,j,rfl,rfl,c,h⟩ k;exact⟨i,j,rx,ry,c,k _ _ _ _ _ (Le.refl _) S (Z2 (hg i j)) h⟩
def wU(g:Int->V):W->OM->WK->Prop:=λx O R=>∃i,x=.d (.int i)/\R (ofV (g i)) O
theorem r_U{g:Int->V}(hg:∀i,scV (g i)=true:=by intro _;rfl):RefU K (rU g) (wU g):=by
 rintro Γ O H x v S rx Q R ⟨i,rfl,h⟩ k;exact⟨i,rx,k _ _ _ _ _ (Le.refl _) S (Z2 (hg i)) h⟩
def wEq:R2W:=λx y O R=>∃a b,x=.d a/\y=.d b/\scD a=true/\scD b=true/\Ys (vOf a) (vOf b)=true/\R (.d (.bool (decide (vOf a=vOf b)))) O
def wNe:R2W:=λx y O R=>∃a b,x=.d a/\y=.d b/\scD a=true/\scD b=true/\Ys (vOf a) (vOf b)=true/\R (.d (.bool (!decide (vOf a=vOf b)))) O
theorem zk7:RefR K rEq wEq:=by
 rintro Γ O H x y v u S rx ry Q R ⟨a,b,rfl,rfl,sa,sb,sc,h⟩ k;rw[jy rx sa,jy ry sb];exact⟨sc,k _ _ _ _ _ (Le.refl _) S yX h⟩
theorem zk8:RefR K rNe wNe:=by
 rintro Γ O H x y v u S rx ry Q R ⟨a,b,rfl,rfl,sa,sb,sc,h⟩ k;rw[jy rx sa,jy ry sb];exact⟨sc,k _ _ _ _ _ (Le.refl _) S yX h⟩
def ziJ:R2W:=λx y O R=>∃a b,XO O x=some a/\XO O y=some b/\SeqAt.shaped a=true/\SeqAt.shaped b=true/\R (.d (.bool (!PyData.eqv a b))) O
theorem zkm:RefR K (zdS K) ziJ:=by
 rintro Γ O H x y v u S rx ry Q R ⟨a,b,e1,e2,s1,s2,h⟩ k;exact⟨a,b,UZ S rx e1,UZ S ry e2,s1,s2,k _ _ _ _ _ (Le.refl _) S yX h⟩
noncomputable def ul:W->Bool
 |.d .none=>true
 |_=>false
theorem U0{Γ:Gh}{w:W}(r:relW K Γ w v):decide (v=.non)=ul w:=by
 cases w with
 |d x=>
  cases x with
  |none=>rw[show v=.non from r];rfl
  |list ds=>obtain⟨a,_,rfl,_⟩:=r;rfl
  |tuple ds=>obtain⟨a,_,rfl,_⟩:=r;rfl
  |dict _=>obtain⟨_,a,rfl,_⟩:=r;rfl
  |int i=>rw[show v=.int i from r];rfl
  |bool i=>rw[show v=.bl i from r];rfl
  |str i=>rw[show v=.str i from r];rfl
 |own a=>rw[show v=.ref a from r];rfl
 |row a i=>obtain⟨rs,r0,_,_,rfl⟩:=r;rfl
def zk9:R2W:=λx y O R=>y=.d .none/\R (.d (.bool (ul x))) O
def zkn:R2W:=λx y O R=>y=.d .none/\R (.d (.bool (!ul x))) O
theorem zko:RefR K (λx y H Q=>y=.non/\Q (.bl (decide (x=.non))) H) zk9:=by
 rintro Γ O H x y v u S rx ry Q R ⟨rfl,h⟩ k;refine⟨ry,k _ _ _ _ _ (Le.refl _) S ?_ h⟩;rw[U0 rx];rfl
theorem ziK:RefR K (λx y H Q=>y=.non/\Q (.bl (!decide (x=.non))) H) zkn:=by
 rintro Γ O H x y v u S rx ry Q R ⟨rfl,h⟩ k;refine⟨ry,k _ _ _ _ _ (Le.refl _) S ?_ h⟩;rw[U0 rx];rfl
noncomputable def zak(b:Bool):W->Bool
 |.d (.bool c)=>decide (c=b)
 |_=>false
theorem zgL{Γ:Gh}{w:W}{b:Bool}(r:relW K Γ w v):decide (v=.bl b)=zak b w:=by
 cases w with
 |d x=>
  cases x with
  |none=>rw[show v=.non from r];rfl
  |list ds=>obtain⟨a,_,rfl,_⟩:=r;rfl
  |tuple ds=>obtain⟨a,_,rfl,_⟩:=r;rfl
  |dict _=>obtain⟨_,a,rfl,_⟩:=r;rfl
  |int i=>rw[show v=.int i from r];rfl
  |bool i=>rw[show v=.bl i from r];simp[zak]
  |str i=>rw[show v=.str i from r];rfl
 |own a=>rw[show v=.ref a from r];rfl
 |row a i=>obtain⟨rs,r0,_,_,rfl⟩:=r;rfl
def ziL:R2W:=λx y O R=>∃b,y=.d (.bool b)/\R (.d (.bool (zak b x))) O
theorem zkp:RefR K (λx y H Q=>∃b,y=.bl b/\Q (.bl (decide (x=.bl b))) H) ziL:=by
 rintro Γ O H x y v u S rx ry Q R ⟨b,rfl,h⟩ k;refine⟨b,ry,k _ _ _ _ _ (Le.refl _) S ?_ h⟩;rw[zgL rx];rfl
def zla:R2W:=λx y O R=>∃ws i w,y=.d (.int i)/\z6 O x=some ws/\atI ws i=some w/\R w O
def Za:R2W:=λx y O R=>∃ds i e,y=.d (.int i)/\yZ x=some ds/\atI ds i=some e/\R (.d e) O
def ziM:R2W:=λx y O R=>∃z i c,x=.d (.str z)/\y=.d (.int i)/\z.length<=sizeLine/\atI z.cps.toList i=some c/\R (.d (.str ⟨#[c]⟩)) O
theorem Y5{α β:Type}{F:α->β->Prop}{xs:List α}{ys:List β}{i:Int}{x:α}(r:Paired F xs ys)(e:atI xs i=some x):∃y,atI ys i=some y/\F x y:=by
 unfold atI at e ⊢;rw[<-lF r];cases h:ixN xs.length i with
 |none=>rw[h]at e;cases e
 |some j=>
  rw[h]at e;exact Paired.getP r e
theorem zkq:RefR K (K8 K) zla:=by
 rintro Γ O H x y v u S rx ry Q R ⟨ws,i,w,rfl,e,h1,h⟩ k;obtain⟨a,vs,rfl,q1,q2⟩:=yt S rx e;obtain⟨z,h2,h3⟩:=Y5 q2 h1;exact⟨a,vs,i,z,rfl,ry,q1,h2,k _ _ _ _ _ (Le.refl _) S h3 h⟩
theorem zkr:RefR K (zdL K) Za:=by
 rintro Γ O H x y v u S rx ry Q R ⟨ds,i,w,rfl,e,h1,h⟩ k;obtain⟨a,vs,rfl,q1,q2⟩:=vy S rx e;have h1':atI (ds.map W.d) i=some (.d w):=by
  unfold atI at h1 ⊢;rw[l6];cases hj:ixN ds.length i with
  |none=>rw[hj]at h1;cases h1
  |some j=>
   rw[hj]at h1
   replace h1:ds[j]? =some w:=h1
   show(ds.map W.d)[j]? =some (.d w);rw[lw,h1];rfl
 obtain⟨z,h2,h3⟩:=Y5 q2 h1';exact⟨a,vs,i,z,rfl,ry,q1,h2,k _ _ _ _ _ (Le.refl _) S h3 h⟩
theorem zks:RefR K zio ziM:=by
 rintro Γ O H x y v u S rx ry Q R ⟨z,i,c,rfl,rfl,hl,h1,h⟩ k;exact⟨z,i,c,rx,ry,hl,h1,k _ _ _ _ _ (Le.refl _) S vX h⟩
def zd3(T U:TTW):TTW:=λρ O R=>T ρ O λc O1=>if c=true then U ρ O1 R else R false O1
def wOr(T U:TTW):TTW:=λρ O R=>T ρ O λc O1=>if c=true then R true O1 else U ρ O1 R
def zd4(T:TTW):TTW:=λρ O R=>T ρ O λc O1=>R (!c) O1
theorem zgM{t u:TT}{T U:TTW}(h:xy K t T)(g:xy K u U):xy K (zh1 t u) (zd3 T U):=by
 intro Γ O H ρ σ S r0 Q R hT k;refine h Γ O H ρ σ S r0 _ _ hT λΓ1 O1 H1 b l1 S1 h1=>?_;cases b with
 |true=>rw[lg rfl]at h1 ⊢;exact g _ _ _ _ _ S1 (r0.mono l1) _ _ h1 λΓ2 O2 H2 c l2 S2 h2=>k _ _ _ _ (l1.trans l2) S2 h2
 |false=>rw[l8 (by decide)]at h1 ⊢;exact k _ _ _ _ l1 S1 h1
theorem ziN{t u:TT}{T U:TTW}(h:xy K t T)(g:xy K u U):xy K (tOr t u) (wOr T U):=by
 intro Γ O H ρ σ S r0 Q R hT k;refine h Γ O H ρ σ S r0 _ _ hT λΓ1 O1 H1 b l1 S1 h1=>?_;cases b with
 |false=>rw[l8 (by decide)]at h1 ⊢;exact g _ _ _ _ _ S1 (r0.mono l1) _ _ h1 λΓ2 O2 H2 c l2 S2 h2=>k _ _ _ _ (l1.trans l2) S2 h2
 |true=>rw[lg rfl]at h1 ⊢;exact k _ _ _ _ l1 S1 h1
theorem zgN{t:TT}{T:TTW}(h:xy K t T):xy K (zh2 t) (zd4 T):=by
 intro Γ O H ρ σ S r0 Q R hT k;exact h Γ O H ρ σ S r0 _ _ hT λΓ1 O1 H1 b l1 S1 h1=>k _ _ _ _ l1 S1 h1
def zal(Ta Tb:TEW):TEW:=λρ O R=>Ta ρ O λx O1=>∃c,x=.d (.bool c)/\if c=true then Tb ρ O1 R else R (.d (.bool false)) O1
def ziO(Ta Tb:TEW):TEW:=λρ O R=>Ta ρ O λx O1=>∃c,x=.d (.bool c)/\if c=true then R (.d (.bool true)) O1 else Tb ρ O1 R
def zfF(Ta:TEW):TEW:=λρ O R=>Ta ρ O λx O1=>∃c,x=.d (.bool c)/\R (.d (.bool (!c))) O1
theorem zd5{tb:TE}{Ta Tb:TEW}(ha:RefE K ta Ta)(hb:RefE K tb Tb):RefE K (zfo ta tb) (zal Ta Tb):=by
 intro Γ O H ρ σ S r0 Q R hT k;refine ha Γ O H ρ σ S r0 _ _ hT λΓ1 O1 H1 x v l1 S1 rx h1=>?_;obtain⟨c,rfl,h1⟩:=h1;refine⟨c,rx,?_⟩;cases c with
 |true=>rw[lg rfl]at h1 ⊢;exact hb _ _ _ _ _ S1 (r0.mono l1) _ _ h1 λΓ2 O2 H2 y u l2 S2 ry h2=>k _ _ _ _ _ (l1.trans l2) S2 ry h2
 |false=>rw[l8 (by decide)]at h1 ⊢;exact k _ _ _ _ _ l1 S1 yX h1
theorem zgO{tb:TE}{Ta Tb:TEW}(ha:RefE K ta Ta)(hb:RefE K tb Tb):RefE K (zh3 ta tb) (ziO Ta Tb):=by
 intro Γ O H ρ σ S r0 Q R hT k;refine ha Γ O H ρ σ S r0 _ _ hT λΓ1 O1 H1 x v l1 S1 rx h1=>?_;obtain⟨c,rfl,h1⟩:=h1;refine⟨c,rx,?_⟩;cases c with
 |false=>rw[l8 (by decide)]at h1 ⊢;exact hb _ _ _ _ _ S1 (r0.mono l1) _ _ h1 λΓ2 O2 H2 y u l2 S2 ry h2=>k _ _ _ _ _ (l1.trans l2) S2 ry h2
 |true=>rw[lg rfl]at h1 ⊢;exact k _ _ _ _ _ l1 S1 yX h1
theorem zd6{Ta:TEW}(ha:RefE K ta Ta):RefE K (zfp ta) (zfF Ta):=by
 intro Γ O H ρ σ S r0 Q R hT k;refine ha Γ O H ρ σ S r0 _ _ hT λΓ1 O1 H1 x v l1 S1 rx h1=>?_;obtain⟨c,rfl,h1⟩:=h1;exact⟨c,rx,k _ _ _ _ _ l1 S1 yX h1⟩
def wIf(T:TTW)(Ta Tb:TEW):TEW:=λρ O R=>T ρ O λc O1=>if c=true then Ta ρ O1 R else Tb ρ O1 R
theorem ziP{t:TT}{T:TTW}{tb:TE}{Ta Tb:TEW}(h:xy K t T)(ha:RefE K ta Ta)(hb:RefE K tb Tb):RefE K (tIf t ta tb) (wIf T Ta Tb):=by
 intro Γ O H ρ σ S r0 Q R hT k;refine h Γ O H ρ σ S r0 _ _ hT λΓ1 O1 H1 b l1 S1 h1=>?_;cases b with
 |true=>rw[lg rfl]at h1 ⊢;exact ha _ _ _ _ _ S1 (r0.mono l1) _ _ h1 λΓ2 O2 H2 y u l2 S2 ry h2=>k _ _ _ _ _ (l1.trans l2) S2 ry h2
 |false=>rw[l8 (by decide)]at h1 ⊢;exact hb _ _ _ _ _ S1 (r0.mono l1) _ _ h1 λΓ2 O2 H2 y u l2 S2 ry h2=>k _ _ _ _ _ (l1.trans l2) S2 ry h2
noncomputable def XQ(O:OM):W->Option Bool
 |.d .none=>some false
 |.d (.bool b)=>some b
 |.d (.int i)=>some (i != 0)
 |.d (.str z)=>some (z.length != 0)
 |.d (.list ds)=>some (!ds.isEmpty)
 |.d (.tuple ds)=>some (!ds.isEmpty)
 |.own a=>match O a with
  |some (.lst ws)=>some (!ws.isEmpty)
  |some (.dK kvs)=>some (!kvs.isEmpty)
  |_=>none
 |_=>none
def U1:W->Prop
 |.d (.str z)=>z.length<=sizeLine
 |_=>True
theorem xT{α β:Type}{F:α->β->Prop}{xs:List α}{ys:List β}(r:Paired F xs ys):xs.isEmpty=ys.isEmpty:=by cases r<;>rfl
theorem zd7{Γ:Gh}{O:OM}{w:W}{b:Bool}(S:Sim K Γ O H)(r:relW K Γ w v)(e:XQ O w=some b)(hs:U1 w):UE K v H b:=by
 cases w with
 |d x=>
  cases x with
  |none=>rw[show v=.non from r];cases e;rfl
  |bool i=>rw[show v=.bl i from r];cases e;rfl
  |int i=>rw[show v=.int i from r];cases e;rfl
  |str z=>
   rw[show v=.str z from r];cases e;refine⟨hs,?_⟩;show(z.length != 0)=((z.length:Int) != 0);cases hz:z.length with
   |zero=>rfl
   |succ n=>simp only[bne,Nat.beq_eq_true_eq];simp;omega
  |list ds=>
   cases e;obtain⟨a,xs,rfl,h1,h2⟩:=r;refine .inl ⟨xs,h1.same S.z,?_⟩;rw[<-xT (yA h2:relWs K Γ _ _)];simp
  |tuple ds=>
   cases e;obtain⟨a,xs,rfl,h1,h2⟩:=r;refine .inr (.inl ⟨xs,h1.same S.z,?_⟩);rw[<-xT (yA h2:relWs K Γ _ _)];simp
  |dict _=>cases e
 |own a=>
  cases(show v=.ref a from r);simp only[XQ]at e;split at e
  .rename_i ws h
   cases e;obtain⟨_,vs,h1,h2⟩:=S.o _ _ h;exact .inl ⟨vs,SqL.of h1,by rw[xT h2]⟩
  .rename_i kvs h
   cases e;obtain⟨_,vs,h1,h2⟩:=S.o _ _ h;exact .inr (.inr ⟨vs,h1,by rw[xT h2]⟩)
  .cases e
 |row a i=>cases e
def zd8(T:TEW):TTW:=λρ O R=>T ρ O λx O1=>∃b,XQ O1 x=some b/\U1 x/\R b O1
theorem zgP{t:TE}{T:TEW}(h:RefE K t T):xy K (λσ H Q=>t σ H λx H'=>∃k,UE K x H' k/\Q k H') (zd8 T):=by
 intro Γ O H ρ σ S r0 Q R hT k;refine h Γ O H ρ σ S r0 _ _ hT λΓ1 O1 H1 x v l1 S1 rx h1=>?_;obtain⟨c,e,hs,h1⟩:=h1;exact⟨c,zd7 S1 rx e hs,k _ _ _ _ l1 S1 h1⟩
def Yv:TAW:=λ_ O R=>R [] O
def jZ(Ta:TEW)(Tr:TAW):TAW:=λρ O R=>Ta ρ O λx O1=>Tr ρ O1 λxs O2=>R (x::xs) O2
theorem Ke:xh K uz Yv:=λΓ O H ρ σ S r0 Q R h k=>k _ _ _ _ _ (Le.refl _) S .nil h
theorem U2{Ta:TEW}{T:TAW}(ha:RefE K ta Ta)(hr:xh K t T):xh K (vj ta t) (jZ Ta T):=by
 intro Γ O H ρ σ S r0 Q R h k;refine ha Γ O H ρ σ S r0 _ _ h λΓ1 O1 H1 x v l1 S1 rx h1=>?_;exact hr Γ1 O1 H1 ρ σ S1 (r0.mono l1) _ _ h1 λΓ2 O2 H2 ws vs l2 S2 rs h2=>k _ _ _ _ _ (l1.trans l2) S2 (.cons (rx.mono l2) rs) h2
def Yw(T:TAW):TEW:=λρ O R=>T ρ O λws O1=>∃ds,yE ws=some ds/\ds.length<=1000/\R (.d (.tuple ds)) O1
def zam(T:TAW):TEW:=λρ O R=>T ρ O λws O1=>∃ds,yE ws=some ds/\ds.length<=1000/\R (.d (.list ds)) O1
theorem XR(h:n<=1000):n<=sizeLine:=Nat.le_of_lt (xJ h)
theorem Zb{Γ:Gh}{O:OM}(S:Sim K Γ O H)(hr:Reps K Γ.Z ds vs)(hp:H p=none):∃Γ',Le Γ Γ'/\Sim K Γ' O (upd H p (.tup vs))/\relW K Γ' (.d (.tuple ds)) (.ref p):=by
 obtain⟨l,S'⟩:=S.newD hp (.tup vs);exact⟨_,l,S',p,vs,rfl,SqT.of zW,Reps.same l.z _ _ hr⟩
theorem qi{Γ:Gh}{O:OM}(S:Sim K Γ O H)(hr:Reps K Γ.Z ds vs)(hp:H p=none):∃Γ',Le Γ Γ'/\Sim K Γ' O (upd H p (.lst vs))/\relW K Γ' (.d (.list ds)) (.ref p):=by
 obtain⟨l,S'⟩:=S.newD hp (.lst vs);exact⟨_,l,S',p,vs,rfl,SqL.of zW,Reps.same l.z _ _ hr⟩
theorem XS{Γ:Gh}{O:OM}{ws:List W}(S:Sim K Γ O H)(hr:relWs K Γ ws vs)(hp:H p=none):O p=none/\Sim K Γ (updO O p (.lst ws)) (upd H p (.lst vs)):=
 ⟨(S.free hp).2.1,S.newO hp (by intro _ h;cases h) ⟨vs,zW,hr⟩⟩
theorem zgQ{T:TAW}(h:xh K t T):RefE K (zdI t) (Yw T):=by
 intro Γ O H ρ σ S r0 Q R hT k;refine h Γ O H ρ σ S r0 _ _ hT λΓ1 O1 H1 ws vs l1 S1 rs h1=>?_;obtain⟨ds,e,hl,h1⟩:=h1;rw[y9 e]at rs;refine⟨by rw[<-lF rs,l6];exact XR hl,λp hp=>?_⟩;obtain⟨Γ',l,S',r'⟩:=Zb S1 (ya rs) hp;exact k _ _ _ _ _ (l1.trans l) S' r' h1
theorem zgR{T:TAW}(h:xh K t T):RefE K (UG t) (zam T):=by
 intro Γ O H ρ σ S r0 Q R hT k;refine h Γ O H ρ σ S r0 _ _ hT λΓ1 O1 H1 ws vs l1 S1 rs h1=>?_;obtain⟨ds,e,hl,h1⟩:=h1;rw[y9 e]at rs;refine⟨by rw[<-lF rs,l6];exact XR hl,λp hp=>?_⟩;obtain⟨Γ',l,S',r'⟩:=qi S1 (ya rs) hp;exact k _ _ _ _ _ (l1.trans l) S' r' h1
abbrev SpW:=List W->OM->WK->Prop
def za(K:W.Frag)(s:SpW):Sp:=λvs H Q _=>∃Γ O ws R,Sim K Γ O H/\relWs K Γ ws vs/\s ws O R/\∀Γ' O' H' w v,Le Γ Γ'->Sim K Γ' O' H'->relW K Γ' w v->R w O'->Q v H'
def Clo(R:WK):WK:=λw O=>R w O\/∃a ds,w=.own a/\O a=some (.lst (ds.map .d))/\R (.d (.list ds)) (del O a)
noncomputable def ve(N:List Str)(ws:List W):WS:=ws.map some++List.replicate (N.length-ws.length) none
theorem Y6{Γ:Gh}{ws:List W}(h:relWs K Γ ws vs):relR K Γ (ve N ws) (L2.start N vs):=by
 unfold ve L2.start;rw[lF h];refine Paired.appP ?_ ?_
 .induction h with
  |nil=>exact .nil
  |cons a b ih=>exact .cons a ih
 .generalize N.length-vs.length=n
  induction n with
  |zero=>exact .nil
  |succ n ih=>exact .cons trivial ih
theorem Z3{Γ:Gh}{O:OM}{w:W}{R:WK}{Q:VK}(S:Sim K Γ O H)(r:relW K Γ w v)(h:Clo R w O)(k:∀Γ' O' H' w v,Le Γ Γ'->Sim K Γ' O' H'->relW K Γ' w v->R w O'->Q v H'):Q v H:=by
 rcases h with h|⟨a,ds,rfl,e,h⟩
 .exact k _ _ _ _ _ (Le.refl _) S r h
 .obtain⟨Γ',l,S',r'⟩:=S.freeze e
  cases(show v=.ref a from r);exact k _ _ _ _ _ l S' r' h
theorem Fun.okW{qual:Str}{ps:List Str}{k:Nat}{s:SpW}(F:Fun K x qual st f fd)(S:FnScope N ps (defScope st))(len:∀ws O R,s ws O R->ws.length=ps.length)
    (hbody:∀ (cdv:Value) (A:Around) (outer:List Env) (sh:Shared) (H:Hp) (E:XK),Room k (A.deeper (envOfC qual (defScope st) sh.heap.objs.size f cdv))->
      ∃t T,PSs (vT CX0 P w K mg base N qual (defScope st) f cdv A outer sh H E).nox (defBody st) t/\RefS K t T/\∀ws O R,s ws O R->T { nx:=λ_ O'=>Clo R (.d .none) O',rt:=Clo R } (ve N ws) O):FnOk P w K mg base CX0 (k+1) f fd ps (za K s):=by
  refine F.ok S (λvs H Q E h=>?_) (λcdv A outer sh H vs Q E hr h=>?_)
  · obtain⟨Γ,O,ws,R,S1,r,hs,_⟩:=h
    rw[<-lF r];exact len ws O R hs
  · obtain⟨t,T,h1,h2,h3⟩:=hbody cdv A outer sh H E hr
    obtain⟨Γ,O,ws,R,S1,r,hs,kk⟩:=h;refine⟨t,h1,h2 Γ O H _ _ _ _ S1 (Y6 r) (h3 ws O R hs) ⟨λΓ' O' H' ρ' σ' l S' r' h'=>?_,λΓ' O' H' w v l S' r' h'=>?_,λ_ _ _ _ _ _ _ _ h=>h.elim,λ_ _ _ _ _ _ _ _ h=>h.elim⟩⟩
    · exact Z3 S' vY h' λΓ2 O2 H2 w v l2=>kk _ _ _ _ _ (l.trans l2)
    · exact Z3 S' r' h' λΓ2 O2 H2 w v l2=>kk _ _ _ _ _ (l.trans l2)
theorem Fun.okV{qual:Str}{ps:List Str}{k:Nat}{s:SpW}{t:TS}{T:TSW}(F:Fun K x qual st f fd)(S:FnScope N ps (defScope st))(len:∀ws O R,s ws O R->ws.length=ps.length)
  (hP:∀(cdv:Value) (A:Around) (outer:List Env) (sh:Shared) (H:Hp) (E:XK),Room k (A.deeper (envOfC qual (defScope st) sh.heap.objs.size f cdv))->PSs (vT CX0 P w K mg base N qual (defScope st) f cdv A outer sh H E).nox (defBody st) t)
  (hR:RefS K t T)(hb:∀ws O R,s ws O R->T { nx:=λ_ O'=>Clo R (.d .none) O',rt:=Clo R } (ve N ws) O):FnOk P w K mg base CX0 (k+1) f fd ps (za K s):=
 F.okW S len λcdv A outer sh H E hr=>⟨t,T,hP cdv A outer sh H E hr,hR,hb⟩
theorem FunD.okW{qual:Str}{ds:List Value}{ps:List Str}{k:Nat}{s:SpW}(F:FunD K x qual st ds f fd)(S:FnScope N ps (defScope st))(len:∀ws O R,s ws O R->ws.length=ps.length)
    (hbody:∀ (cdv:Value) (A:Around) (outer:List Env) (sh:Shared) (H:Hp) (E:XK),Room k (A.deeper (envOfC qual (defScope st) sh.heap.objs.size f cdv))->
      ∃t T,PSs (vT CX0 P w K mg base N qual (defScope st) f cdv A outer sh H E).nox (defBody st) t/\RefS K t T/\∀ws O R,s ws O R->T { nx:=λ_ O'=>Clo R (.d .none) O',rt:=Clo R } (ve N ws) O):FnOk P w K mg base CX0 (k+1) f fd ps (za K s):=by
  refine F.ok S (λvs H Q E h=>?_) (λcdv A outer sh H vs Q E hr h=>?_)
  · obtain⟨Γ,O,ws,R,S1,r,hs,_⟩:=h
    rw[<-lF r];exact len ws O R hs
  · obtain⟨t,T,h1,h2,h3⟩:=hbody cdv A outer sh H E hr
    obtain⟨Γ,O,ws,R,S1,r,hs,kk⟩:=h;refine⟨t,h1,h2 Γ O H _ _ _ _ S1 (Y6 r) (h3 ws O R hs) ⟨λΓ' O' H' ρ' σ' l S' r' h'=>?_,λΓ' O' H' w v l S' r' h'=>?_,λ_ _ _ _ _ _ _ _ h=>h.elim,λ_ _ _ _ _ _ _ _ h=>h.elim⟩⟩
    · exact Z3 S' vY h' λΓ2 O2 H2 w v l2=>kk _ _ _ _ _ (l.trans l2)
    · exact Z3 S' r' h' λΓ2 O2 H2 w v l2=>kk _ _ _ _ _ (l.trans l2)
theorem FunD.okV{qual:Str}{ds:List Value}{ps:List Str}{k:Nat}{s:SpW}{t:TS}{T:TSW}(F:FunD K x qual st ds f fd)(S:FnScope N ps (defScope st))(len:∀ws O R,s ws O R->ws.length=ps.length)
  (hP:∀(cdv:Value) (A:Around) (outer:List Env) (sh:Shared) (H:Hp) (E:XK),Room k (A.deeper (envOfC qual (defScope st) sh.heap.objs.size f cdv))->PSs (vT CX0 P w K mg base N qual (defScope st) f cdv A outer sh H E).nox (defBody st) t)
  (hR:RefS K t T)(hb:∀ws O R,s ws O R->T { nx:=λ_ O'=>Clo R (.d .none) O',rt:=Clo R } (ve N ws) O):FnOk P w K mg base CX0 (k+1) f fd ps (za K s):=
 F.okW S len λcdv A outer sh H E hr=>⟨t,T,hP cdv A outer sh H E hr,hR,hb⟩
theorem Yx{Γ:Gh}:∀{vs:List V},vs.all scV=true->relWs K Γ (vs.map ofV) vs
 |[],_=>.nil
 |v::vs,h=>by
  simp at h;exact .cons (Z2 h.1) (Yx (by simpa using h.2))
def Y7(s:SpW)(dvs:List V)(T:TAW):TEW:=λρ O R=>T ρ O λws O1=>s (ws++dvs.map ofV) O1 R
theorem U3{s:SpW}{dvs:List V}{T:TAW}(h:xh K t T)(hd:dvs.all scV=true:=by rfl):RefE K (ZY (za K s) dvs E0 t) (Y7 s dvs T):=by
 intro Γ O H ρ σ S r0 Q R hT k;refine h Γ O H ρ σ S r0 _ _ hT λΓ1 O1 H1 ws vs l1 S1 rs h1=>?_;exact⟨Γ1,O1,_,R,S1,Paired.appP rs (Yx hd),h1,λΓ2 O2 H2 w v l2 S2 r2 h2=>k _ _ _ _ _ (l1.trans l2) S2 r2 h2⟩
def wCB(r:List W->OM->WK->Prop)(T:TAW):TEW:=λρ O R=>T ρ O λws O1=>r ws O1 R
theorem zb5{r:List V->Hp->VK->Prop}{rw:List W->OM->WK->Prop}{T:TAW}(hr:RefC K r rw)(h:xh K t T):RefE K (tCB r t) (wCB rw T):=by
 intro Γ O H ρ σ S r0 Q R hT k;refine h Γ O H ρ σ S r0 _ _ hT λΓ1 O1 H1 ws vs l1 S1 rs h1=>?_;exact hr _ _ _ _ _ S1 rs _ _ h1 λΓ2 O2 H2 w v l2 S2 r2 h2=>k _ _ _ _ _ (l1.trans l2) S2 r2 h2
theorem Y8{Γ:Gh}{f:Str}:∀{fs:List (Str×W)}{vs:List (Str×V)},yx K Γ fs vs->(fs.lookup f=none->vs.lookup f=none)/\∀w,fs.lookup f=some w->∃v,vs.lookup f=some v/\relW K Γ w v:=by
 intro fs vs h;unfold yx at h
 induction h with
 |nil=>exact⟨λ_=>rfl,λw e=>by cases e⟩
 |cons a b ih=>
  rename_i p q ps qs
  obtain⟨k,x⟩:=p;obtain⟨k',y⟩:=q;obtain⟨e1,e2⟩:=a;cases(show k=k' from e1);simp only[List.lookup_cons];cases e:f==k with
  |true=>exact⟨λz=>(by cases z),λw z=>by cases z;exact⟨_,rfl,e2⟩⟩
  |false=>exact ih
def Z4(C:Addr)(m:Str)(s:SpW)(Ta:TEW)(T:TAW):TEW:=λρ O R=>Ta ρ O λx O1=>∃a dx fs,x=.own a/\O1 a=some (.ins C dx fs)/\fs.lookup m=none/\T ρ O1 λws O2=>s (x::ws) O2 R
theorem zd9{m:Str}{s:SpW}{Ta:TEW}{T:TAW}(ha:RefE K ta Ta)(h:xh K t T):RefE K (ZZ C m (za K s) [] E0 ta t) (Z4 C m s Ta T):=by
 intro Γ O H ρ σ S r0 Q R hT k;refine ha Γ O H ρ σ S r0 _ _ hT λΓ1 O1 H1 x v l1 S1 rx h1=>?_;obtain⟨a,dx,fs,rfl,ho,hm,h1⟩:=h1;cases(show v=.ref a from rx);obtain⟨_,vs,q1,q2⟩:=S1.o _ _ ho;refine⟨a,dx,vs,rfl,q1,(Y8 q2).1 hm,?_⟩;refine h _ _ _ _ _ S1 (r0.mono l1) _ _ h1 λΓ2 O2 H2 ws us l2 S2 rs h2=>?_;rw[lV];exact⟨Γ2,O2,_,R,S2,.cons xm rs,h2,λΓ3 O3 H3 w v l3 S3 r3 h3=>k _ _ _ _ _ ((l1.trans l2).trans l3) S3 r3 h3⟩
theorem Sim.junk{Γ:Gh}{O:OM}(S:Sim K Γ O H)(hp:H p=none)(o:HO):Sim K Γ O (upd H p o):=by
 obtain⟨hz,hO,hG⟩:=S.free hp;refine⟨λb u e=>?_,λa oo e=>?_,λa rs e=>?_,Yu S.f (S.f.free hp),S.gn,S.fg,S.fd,S.u⟩
 .rw[zu (λz=>by rw[z,hz]at e;cases e)];exact S.z _ _ e
 .have hap:a≠p:=λz=>by rw[z,hO]at e;cases e
  obtain⟨h1,h2⟩:=S.o _ _ e;refine⟨h1,h2.keep (Le.refl _) (zu hap) rfl λrs r hg ⟨rows,hrw⟩ hr=>?_⟩;subst hrw;obtain⟨_,_,vs,q⟩:=S.rowIn e hg hr;exact⟨zu (λz=>by rw[z,hp]at q;cases q),rfl,rfl⟩
 .obtain⟨o',h⟩:=S.gd _ _ e
  exact⟨o',by rw[zu (yB h hp)];exact h⟩
def zfG(C:Addr)(s:SpW)(T:TAW):TEW:=λρ O R=>T ρ O λws O1=>∀x dx,O1 x=none->s (.own x::ws) (updO O1 x (.ins C dx [])) λw O2=>w=.d .none/\R (.own x) O2
theorem zea{s:SpW}{T:TAW}(h:xh K t T):RefE K (YY C (za K s) [] E0 t) (zfG C s T):=by
 intro Γ O H ρ σ S r0 Q R hT k;refine h _ _ _ _ _ S r0 _ _ hT λΓ1 O1 H1 ws vs l1 S1 rs h1=>?_;intro x dx hx hdx hne;have hx':upd H1 dx (.own x) x=none:=by rw[zu (Ne.symm hne)];exact hx
 have S2:=S1.junk hdx (.own x);have S3:=S2.newO hx' (o:=.ins C dx []) (oo:=.ins C dx []) (by intro _ h;cases h) ⟨[],zW,.nil⟩;rw[lV];refine⟨Γ1,_,_,_,S3,.cons xm rs,h1 x dx (S2.free hx').2.1,λΓ2 O2 H2 w v l2 S4 r2 h2=>?_⟩;obtain⟨rfl,h2⟩:=h2;exact⟨r2,k _ _ _ _ _ (l1.trans l2) S4 xm h2⟩
noncomputable def vn(O:OM)(w:W):Option (List PyData):=match yZ w with
 |some ds=>some ds
 |none=>(z6 O w).bind yE
theorem XT{Γ:Gh}{O:OM}{w:W}(S:Sim K Γ O H)(r:relW K Γ w v)(e:vn O w=some ds):∃a vs,v=.ref a/\(SqL K H a vs\/SqT K H a vs)/\Reps K Γ.Z ds vs:=by
 unfold vn at e;split at e
 .rename_i es h
  cases e;obtain⟨a,vs,e1,h1,h2⟩:=vy S r h;exact⟨a,vs,e1,.inr h1,ya h2⟩
 .cases h:z6 O w with
  |none=>rw[h]at e;cases e
  |some ws=>
   rw[h]at e;obtain⟨a,vs,e1,h1,h2⟩:=yt S r h;rw[y9 (show yE ws=some ds from e)]at h2;exact⟨a,vs,e1,.inl h1,ya h2⟩
noncomputable def Zc(O:OM)(w:W):Option Nat:=match yZ w with
 |some ds=>some ds.length
 |none=>(z6 O w).map (·.length)
def zeb:List W->OM->WK->Prop:=λxs O R=>∃w n,xs=[w]/\Zc O w=some n/\R (.d (.int n)) O
theorem zkt:RefC K (λxs H Q=>∃p ys,xs=[.ref p]/\(SqL K H p ys\/SqT K H p ys)/\Q (.int ys.length) H) zeb:=by
 rintro Γ O H xs vs S rs Q R ⟨w,n,rfl,e,h⟩ k;cases rs with
 |cons rx t=>
  cases t;unfold Zc at e;split at e
  .rename_i ds hT
   cases e;obtain⟨a,vs,e1,h1,h2⟩:=vy S rx hT;subst e1;refine⟨a,vs,rfl,.inr h1,k _ _ _ _ _ (Le.refl _) S ?_ h⟩;rw[<-lF h2,l6];rfl
  .cases hL:z6 O w with
   |none=>rw[hL]at e;cases e
   |some ws=>
    rw[hL]at e;cases e;obtain⟨a,vs,e1,h1,h2⟩:=yt S rx hL;subst e1;refine⟨a,vs,rfl,.inl h1,k _ _ _ _ _ (Le.refl _) S ?_ h⟩;rw[<-lF h2];rfl
def zfH:List W->OM->WK->Prop:=λxs O R=>∃z,xs=[.d (.str z)]/\z.length<=sizeLine/\R (.d (.int z.length)) O
theorem ziQ:RefC K (λxs H Q=>∃z,xs=[.str z]/\z.length<=sizeLine/\Q (.int z.length) H) zfH:=by
 rintro Γ O H xs vs S rs Q R ⟨z,rfl,e,h⟩ k;cases rs with
 |cons rx t=>
  cases t;exact⟨z,by rw[show _=V.str z from rx],e,k _ _ _ _ _ (Le.refl _) S xS h⟩
def U4:List W->OM->WK->Prop:=λxs O R=>∃w ds,xs=[w]/\vn O w=some ds/\R (.d (.list ds)) O
theorem zgS:RefC K (λxs H Q=>∃p ys,xs=[.ref p]/\(SqL K H p ys\/SqT K H p ys)/\∀l,H l=none->Q (.ref l) (upd H l (.lst ys))) U4:=by
 rintro Γ O H xs vs S rs Q R ⟨w,ds,rfl,e,h⟩ k;cases rs with
 |cons rx t=>
  cases t;obtain⟨a,vs,e1,h1,h2⟩:=XT S rx e;subst e1;refine⟨a,vs,rfl,h1,λl hl=>?_⟩;obtain⟨Γ',le,S',r'⟩:=qi S h2 hl;exact k _ _ _ _ _ le S' r' h
def U5:List W->OM->WK->Prop:=λxs O R=>∃w ds,xs=[w]/\vn O w=some ds/\∀p,O p=none->R (.own p) (updO O p (.lst (ds.map .d)))
theorem zgT:RefC K (λxs H Q=>∃p ys,xs=[.ref p]/\(SqL K H p ys\/SqT K H p ys)/\∀l,H l=none->Q (.ref l) (upd H l (.lst ys))) U5:=by
 rintro Γ O H xs vs S rs Q R ⟨w,ds,rfl,e,h⟩ k;cases rs with
 |cons rx t=>
  cases t;obtain⟨a,vs,e1,h1,h2⟩:=XT S rx e;subst e1;refine⟨a,vs,rfl,h1,λl hl=>?_⟩;obtain⟨hO,S'⟩:=XS S (yA h2) hl;exact k _ _ _ _ _ (Le.refl _) S' xm (h l hO)
def U6:List W->OM->WK->Prop:=λxs O R=>∃w ds,xs=[w]/\vn O w=some ds/\R (.d (.tuple ds)) O
theorem zgU:RefC K (λxs H Q=>∃p ys,xs=[.ref p]/\((SqL K H p ys/\∀l,H l=none->Q (.ref l) (upd H l (.tup ys)))\/(SqT K H p ys/\Q (.ref p) H))) U6:=by
 rintro Γ O H xs vs S rs Q R ⟨w,ds,rfl,e,h⟩ k;cases rs with
 |cons rx t=>
  cases t;unfold vn at e;split at e
  .rename_i es hT
   cases e;obtain⟨a,vs,e1,h1,h2⟩:=vy S rx hT;subst e1;refine⟨a,vs,rfl,.inr ⟨h1,k _ _ _ _ _ (Le.refl _) S ?_ h⟩⟩;cases w with
   |d x=>cases x<;>simp[yZ]at hT;subst hT;exact rx
   |own b=>cases hT
   |row b i=>cases hT
  .cases hL:z6 O w with
   |none=>rw[hL]at e;cases e
   |some ws=>
    rw[hL]at e;obtain⟨a,vs,e1,h1,h2⟩:=yt S rx hL;rw[y9 (show yE ws=some ds from e)]at h2;subst e1;refine⟨a,vs,rfl,.inl ⟨h1,λl hl=>?_⟩⟩;obtain⟨Γ',le,S',r'⟩:=Zb S (ya h2) hl;exact k _ _ _ _ _ le S' r' h
def wI2(g:Int->Int->Int):List W->OM->WK->Prop:=λxs O R=>∃i j,xs=[.d (.int i),.d (.int j)]/\R (.d (.int (g i j))) O
theorem zlb{g:Int->Int->Int}:RefC K (λxs H Q=>∃i j,xs=[.int i,.int j]/\Q (.int (g i j)) H) (wI2 g):=by
 rintro Γ O H xs vs S rs Q R ⟨i,j,rfl,h⟩ k;cases rs with
 |cons rx t=>
  cases t with
  |cons ry t=>
   cases t;exact⟨i,j,by rw[show _=V.int i from rx,show _=V.int j from ry],k _ _ _ _ _ (Le.refl _) S xS h⟩
def j0:TSW:=λD ρ O=>D.nx ρ O
def xY(T U:TSW):TSW:=λD ρ O=>T { D with nx:=U D } ρ O
def Y9(T:TEW):TSW:=λD ρ O=>T ρ O λ_ O1=>D.nx ρ O1
def zan(T:TEW):TSW:=λD ρ O=>T ρ O D.rt
def zku:TSW:=λD _ O=>D.rt (.d .none) O
def uB(c:TTW)(T U:TSW):TSW:=λD ρ O=>c ρ O λb O1=>if b=true then T D ρ O1 else U D ρ O1
def ziR:TSW:=λ_ _ _=>False
theorem zec:RefS K zfq j0:=λΓ O H ρ σ D DW S r h e=>e.nx _ _ _ _ _ (Le.refl _) S r h
theorem zb6:RefS K zbw ziR:=λΓ O H ρ σ D DW S r h e=>h.elim
theorem zgV{t u:TS}{T U:TSW}(h:RefS K t T)(g:RefS K u U):RefS K (zh5 t u) (xY T U):=λΓ O H ρ σ D DW S r hT e=>
 h Γ O H ρ σ { D with nx:=u D } { DW with nx:=U DW } S r hT ⟨λΓ' O' H' ρ' σ' l S' r' h'=>g _ _ _ _ _ _ _ S' r' h' (e.mono l),e.rt,e.bk,e.ct⟩
theorem zed{t:TE}{T:TEW}(h:RefE K t T):RefS K (zfr t) (Y9 T):=λΓ O H ρ σ D DW S r hT e=>
 h _ _ _ _ _ S r _ _ hT λΓ1 O1 H1 w v l S1 r1 h1=>e.nx _ _ _ _ _ l S1 (r.mono l) h1
theorem Kf{t:TE}{T:TEW}(h:RefE K t T):RefS K (zh6 t) (zan T):=λΓ O H ρ σ D DW S r hT e=>
 h _ _ _ _ _ S r _ _ hT λΓ1 O1 H1 w v l S1 r1 h1=>e.rt _ _ _ _ _ l S1 r1 h1
theorem zgW{c:TT}{C:TTW}{t u:TS}{T U:TSW}(hc:xy K c C)(h:RefS K t T)(g:RefS K u U):RefS K (zh7 c t u) (uB C T U):=λΓ O H ρ σ D DW S r hT e=>by
 refine hc _ _ _ _ _ S r _ _ hT λΓ1 O1 H1 b l S1 h1=>?_;cases b with
 |true=>rw[lg rfl]at h1 ⊢;exact h _ _ _ _ _ _ _ S1 (r.mono l) h1 (e.mono l)
 |false=>rw[l8 (by decide)]at h1 ⊢;exact g _ _ _ _ _ _ _ S1 (r.mono l) h1 (e.mono l)
def XU(T:TEW)(G:TGW):TSW:=λD ρ O=>T ρ O λx O1=>G x ρ O1 D.nx
theorem zgX{t:TE}{T:TEW}{g:TG}{G:TGW}(h:RefE K t T)(hg:RefG K g G):RefS K (Yr t g) (XU T G):=λΓ O H ρ σ D DW S r hT e=>
 h _ _ _ _ _ S r _ _ hT λΓ1 O1 H1 w v l S1 r1 h1=>hg _ _ _ _ _ _ _ S1 (r.mono l) r1 _ _ h1 λΓ2 O2 H2 ρ2 σ2 l2=>e.nx _ _ _ _ _ (l.trans l2)
def um(i:Nat):TGW:=λw ρ O R=>R (ρ.set i (some w)) O
theorem zee:RefG K (qI i) (um i):=λΓ O H ρ σ w v S r rw Q R h k=>k _ _ _ _ _ (Le.refl _) S (Paired.setP r (show jY K Γ (some w) (some v)from rw)) h
def ziS:TGsW:=λds ρ O R=>ds=[]/\R ρ O
def zfI(G:TGW)(U:TGsW):TGsW:=λds ρ O R=>∃e es,ds=e::es/\G (.d e) ρ O λρ' O'=>U es ρ' O' R
theorem zef:RefGs K zh9 ziS:=by
 rintro Γ O H ρ σ ds vs S r rs Q R ⟨rfl,h⟩ k;exact⟨rs,k _ _ _ _ _ (Le.refl _) S r h⟩
theorem zb7{t:TG}{u:TGs}{G:TGW}{U:TGsW}(h:RefG K t G)(g:RefGs K u U):RefGs K (zfs t u) (zfI G U):=by
 rintro Γ O H ρ σ ds vs S r rs Q R ⟨e,es,rfl,hh⟩ k;obtain⟨x,xs,rfl,h1,h2⟩:=rs;refine⟨x,xs,rfl,h _ _ _ _ _ _ _ S r (zkl h1) _ _ hh λΓ1 O1 H1 ρ1 σ1 l1 S1 r1 q1=>?_⟩;exact g _ _ _ _ _ _ _ S1 r1 (Reps.same l1.z _ _ h2) _ _ q1 λΓ2 O2 H2 ρ2 σ2 l2=>k _ _ _ _ _ (l1.trans l2)
def ziT(n:Nat)(U:TGsW):TGW:=λw ρ O R=>∃ds,yZ w=some ds/\ds.length=n/\U ds ρ O R
theorem zeg{t:TGs}{U:TGsW}(h:RefGs K t U):RefG K (zdB K n t) (ziT n U):=by
 rintro Γ O H ρ σ w v S r rw Q R ⟨ds,e,hl,hh⟩ k;obtain⟨a,vs,e1,h1,h2⟩:=vy S rw e;refine⟨a,vs,e1,h1,by rw[<-lF h2,l6];exact hl,h _ _ _ _ _ _ _ S r (ya h2) _ _ hh k⟩
noncomputable def j4(O:OM)(o:W)(k:Int)(w:W):Option OM:=match o with
 |.own a=>match O a with
  |some (.lst ws)=>(ixN ws.length k).map λj=>updO O a (.lst (ws.set j w))
  |_=>none
 |.row a r=>match O a,w with
  |some (.grid rows),.d x=>match rows[r]? with
   |some ds=>(ixN ds.length k).map λj=>updO O a (.grid (rows.set r (ds.set j x)))
   |none=>none
  |_,_=>none
 |_=>none
def ziU(To Ti:TEW):TGW:=λw ρ O R=>To ρ O λo O1=>Ti ρ O1 λi O2=>∃k O3,i=.d (.int k)/\j4 O2 o k w=some O3/\R ρ O3
theorem zeh{to ti:TE}{To Ti:TEW}(ho:RefE K to To)(hi:RefE K ti Ti):RefG K (zib to ti zfz) (ziU To Ti):=by
 rintro Γ O H ρ σ w v S r rw Q R h k;refine ho _ _ _ _ _ S r _ _ h λΓ1 O1 H1 o vo l1 S1 ro h1=>?_;refine hi _ _ _ _ _ S1 (r.mono l1) _ _ h1 λΓ2 O2 H2 i vi l2 S2 ri h2=>?_;obtain⟨n,O3,rfl,e,h2⟩:=h2;have ro2:=ro.mono l2;have rw2:=rw.mono (l1.trans l2);cases(show vi=.int n from ri);cases o with
 |d x=>cases e
 |own a=>
  cases(show vo=.ref a from ro2);simp only[j4]at e;split at e
  .rename_i ws hO
   cases hj:ixN ws.length n with
   |none=>rw[hj]at e;cases e
   |some j=>
    rw[hj]at e;cases e;obtain⟨_,us,q1,q2⟩:=S2.o _ _ hO;refine⟨a,us,n,j,rfl,rfl,q1,by rw[<-lF q2];exact hj,?_⟩;exact k _ _ _ _ _ (l1.trans l2) (S2.put (oo:=.lst _) hO (by intro _ h;cases h) (by intro _ h;cases h) ⟨_,zW,Paired.setP q2 rw2⟩) (r.mono (l1.trans l2)) h2
  .cases e
 |row a i=>
  obtain⟨rs,r0,hg,hr,rfl⟩:=ro2;simp only[j4]at e;split at e
  .rename_i rows x hO
   cases hd:rows[i]? with
   |none=>rw[hd]at e;cases e
   |some ds=>
    rw[hd]at e;simp only at e;cases hj:ixN ds.length n with
    |none=>rw[hj]at e;cases e
    |some j=>
     rw[hj]at e;cases e;obtain⟨_,rs',hg',_,hl,_,hrow⟩:=S2.o _ _ hO;rw[hg]at hg';cases hg';obtain⟨_,_,us,q1,q2⟩:=hrow i r0 ds hr hd;refine⟨r0,us,n,j,rfl,rfl,q1,by rw[<-Reps.length q2];exact hj,?_⟩;exact k _ _ _ _ _ (l1.trans l2) (S2.cell hO hg hr hd q1 rw2) (r.mono (l1.trans l2)) h2
  .cases e
def ziV(K:W.Frag)(Γ:Gh)(J:It)(ws:List W)(keep:OM->Prop):Prop:=∀i Γ' O' H',Same Γ.Z Γ'.Z->(∀a rs,Γ.G a=some rs->∃more,Γ'.G a=some (rs++more))->Sim K Γ' O' H'->keep O'->
 (∀w,ws[i]? =some w->J.go i H'/\∀x H2,J.yld i H' x H2->∃Γ2,Le Γ' Γ2/\Sim K Γ2 O' H2/\relW K Γ2 w x)/\(i=ws.length->J.stop i H')
abbrev TIW:=WS->OM->(List W->(OM->Prop)->OM->Prop)->Prop
def vp(K:W.Frag)(t:TI)(T:TIW):Prop:=∀Γ O H ρ σ,Sim K Γ O H->relR K Γ ρ σ->∀(Q:It->Hp->Prop) (R:List W->(OM->Prop)->OM->Prop),T ρ O R->(∀Γ' O' H' J ws keep,Le Γ Γ'->Sim K Γ' O' H'->ziV K Γ' J ws keep->R ws keep O'->Q J H')->t σ H Q
theorem relW.up{Γ Γ':Gh}(hz:Same Γ.Z Γ'.Z)(hg:∀a rs,Γ.G a=some rs->∃more,Γ'.G a=some (rs++more)){w:W}(h:relW K Γ w v):relW K Γ' w v:=by
 have h1:relW K ⟨Γ'.Z,Γ'.G,Γ.F⟩ w v:=relW.mono (Γ:=Γ) (Γ':=⟨Γ'.Z,Γ'.G,Γ.F⟩) ⟨rfl,hz,hg⟩ h;cases w<;>exact h1
def zfJ(T:TEW):TIW:=λρ O R=>T ρ O λw O1=>∃ws,z6 O1 w=some ws/\R ws (λO'=>z6 O' w=some ws) O1
theorem zb8{t:TE}{T:TEW}(h:RefE K t T):vp K (KU K t) (zfJ T):=by
 intro Γ O H ρ σ S r Q R hT k;refine h _ _ _ _ _ S r _ _ hT λΓ1 O1 H1 w v l1 S1 r1 h1=>?_;obtain⟨ws,e,h1⟩:=h1;obtain⟨a,vs,rfl,q1,q2⟩:=yt S1 r1 e;refine⟨a,rfl,⟨vs,q1⟩,k _ _ _ _ _ _ l1 S1 (λi Γ' O' H' hz hg S' e'=>?_) h1⟩;obtain⟨a',vs',ea,q1',q2'⟩:=yt S' (r1.up hz hg) e';cases ea;refine⟨λw' hw=>?_,λhi=>⟨vs',q1',by rw[<-lF q2',hi];exact lp _⟩⟩;obtain⟨x,hx,rx⟩:=Paired.getP q2' hw;refine⟨⟨vs',x,q1',hx⟩,λy H2 ⟨e2,hy⟩=>?_⟩;subst e2;have:=hy vs' q1';rw[hx]at this;cases this;exact⟨Γ',Le.refl _,S',rx⟩
def ziW(T:TEW):TIW:=λρ O R=>T ρ O λw O1=>∃ds,yZ w=some ds/\R (ds.map .d) (λ_=>True) O1
theorem zei{t:TE}{T:TEW}(h:RefE K t T):vp K (zdC K t) (ziW T):=by
 intro Γ O H ρ σ S r Q R hT k;refine h _ _ _ _ _ S r _ _ hT λΓ1 O1 H1 w v l1 S1 r1 h1=>?_;obtain⟨ds,e,h1⟩:=h1;obtain⟨a,vs,rfl,q1,q2⟩:=vy S1 r1 e;refine⟨a,rfl,⟨vs,q1⟩,k _ _ _ _ _ _ l1 S1 (λi Γ' O' H' hz hg S' e'=>?_) h1⟩;obtain⟨a',vs',ea,q1',q2'⟩:=vy S' (r1.up hz hg) e;cases ea;refine⟨λw' hw=>?_,λhi=>⟨vs',q1',by rw[<-lF q2',hi];exact lp _⟩⟩;obtain⟨x,hx,rx⟩:=Paired.getP q2' hw;refine⟨⟨vs',x,q1',hx⟩,λy H2 ⟨e2,hy⟩=>?_⟩;subst e2;have:=hy vs' q1';rw[hx]at this;cases this;exact⟨Γ',Le.refl _,S',rx⟩
theorem U7{Γ:Gh}{f:Nat->Int}{J:It}(hgo:∀i H,i<n->J.go i H)(hy:∀i H x H',J.yld i H x H'->H'=H/\x=.int (f i))(hs:∀i H,n<=i->J.stop i H):ziV K Γ J ((List.range n).map λi=>.d (.int (f i))) λ_=>True:=by
 intro i Γ' O' H' hz hg S' _;refine⟨λw hw=>?_,λhi=>hs i _ (by rw[hi];simp)⟩;rw[lw]at hw;cases hr:(List.range n)[i]? with
 |none=>rw[hr]at hw;cases hw
 |some j=>
  rw[hr]at hw;cases hw;obtain⟨hi,hj⟩:=lx.mp hr;simp at hi hj;subst hj;refine⟨hgo i _ hi,λx H2 y=>?_⟩;obtain⟨rfl,rfl⟩:=hy i _ x H2 y;exact⟨Γ',Le.refl _,S',xS⟩
def zfK(T:TAW):TIW:=λρ O R=>T ρ O λws O1=>∃j:Int,ws=[.d (.int j)]/\-(2 ^ 62)<=j/\j<2 ^ 62/\R ((List.range j.toNat).map λ(i:Nat)=>.d (.int i)) (λ_=>True) O1
theorem zb9{T:TAW}(h:xh K t T):vp K (zft t) (zfK T):=by
 intro Γ O H ρ σ S r Q R hT k;refine h _ _ _ _ _ S r _ _ hT λΓ1 O1 H1 ws vs l1 S1 r1 h1=>?_;obtain⟨j,rfl,b1,b2,h1⟩:=h1;cases r1 with
 |cons rx t=>
  cases t;refine⟨j,by rw[show _=V.int j from rx],b1,b2,k _ _ _ _ _ _ l1 S1 (U7 (f:=λi=>(i:Int)) (λi H hi=>hi) (λi H x H' ⟨e1,e2⟩=>⟨e1,by rw[e2,Int.zero_add]⟩) λi H hi=>hi) h1⟩
def zfL(T:TAW):TIW:=λρ O R=>T ρ O λws O1=>∃i j:Int,ws=[.d (.int i),.d (.int j)]/\(-(2 ^ 62)<=i/\i<2 ^ 62/\-(2 ^ 62)<=j/\j<2 ^ 62)/\R ((List.range (j-i).toNat).map λ(k:Nat)=>.d (.int (i+k))) (λ_=>True) O1
theorem zca{T:TAW}(h:xh K t T):vp K (zfu t) (zfL T):=by
 intro Γ O H ρ σ S r Q R hT k;refine h _ _ _ _ _ S r _ _ hT λΓ1 O1 H1 ws vs l1 S1 r1 h1=>?_;obtain⟨i,j,rfl,b,h1⟩:=h1;cases r1 with
 |cons rx t=>
  cases t with
  |cons ry t=>
   cases t;exact⟨i,j,by rw[show _=V.int i from rx,show _=V.int j from ry],b,k _ _ _ _ _ _ l1 S1 (U7 (f:=λk=>i+(k:Int)) (λi H hi=>hi) (λi H x H' ⟨e1,e2⟩=>⟨e1,e2⟩) λi H hi=>hi) h1⟩
def zfM(T:TAW):TIW:=λρ O R=>T ρ O λws O1=>∃(i j c:Int) (n:Nat),ws=[.d (.int i),.d (.int j),.d (.int c)]/\R3 i j c n/\R ((List.range n).map λ(k:Nat)=>.d (.int (i+k*c))) (λ_=>True) O1
theorem zcb{T:TAW}(h:xh K t T):vp K (zfD t) (zfM T):=by
 intro Γ O H ρ σ S r Q R hT k;refine h _ _ _ _ _ S r _ _ hT λΓ1 O1 H1 ws vs l1 S1 r1 h1=>?_;obtain⟨i,j,c,n,rfl,b,h1⟩:=h1;cases r1 with
 |cons rx t=>
  cases t with
  |cons ry t=>
   cases t with
   |cons rz t=>
    cases t;exact⟨i,j,c,n,by rw[show _=V.int i from rx,show _=V.int j from ry,show _=V.int c from rz],b,k _ _ _ _ _ _ l1 S1 (U7 (f:=λk=>i+(k:Int)*c) (λi H hi=>hi) (λi H x H' ⟨e1,e2⟩=>⟨e1,e2⟩) λi H hi=>hi) h1⟩
def zfN(T:TAW):TIW:=λρ O R=>T ρ O λws O1=>∃w us ds,ws=[w]/\z6 O1 w=some us/\yE us=some ds/\R ((List.range ds.length).zipWith (λ(i:Nat) d=>W.d (.tuple [.int i,d])) ds) (λO'=>z6 O' w=some us) O1
theorem zcc{T:TAW}(h:xh K t T):vp K (zae K t) (zfN T):=by
 intro Γ O H ρ σ S r Q R hT k;refine h _ _ _ _ _ S r _ _ hT λΓ1 O1 H1 ws vs l1 S1 r1 h1=>?_;obtain⟨w,us,ds,rfl,e,hd,h1⟩:=h1;cases r1 with
 |cons rx t=>
  cases t;obtain⟨a,vs,rfl,q1,q2⟩:=yt S1 rx e;refine⟨a,rfl,⟨vs,q1⟩,k _ _ _ _ _ _ l1 S1 (λi Γ' O' H' hz hg S' e'=>?_) h1⟩;obtain⟨a',vs',ea,q1',q2'⟩:=yt S' (rx.up hz hg) e';cases ea;rw[y9 hd]at q2';have hl:ds.length=vs'.length:=by rw[<-lF q2',l6]
  refine⟨λw' hw=>?_,λhi=>⟨vs',q1',by rw[hi];simp;omega⟩⟩;rw[List.getElem?_zipWith]at hw;cases hr:(List.range ds.length)[i]? with
  |none=>rw[hr]at hw;cases hw
  |some j=>
   rw[hr]at hw;cases hdi:ds[i]? with
   |none=>rw[hdi]at hw;cases hw
   |some d=>
    rw[hdi]at hw;cases hw;obtain⟨hi,hj⟩:=lx.mp hr;simp at hi hj;subst hj;obtain⟨x,hx,rx'⟩:=Paired.getP q2' (i:=i) (x:=.d d) (by rw[lw,hdi];rfl);refine⟨⟨vs',x,q1',hx⟩,λy H2 ⟨t,y',e1,e2,e3,hy⟩=>?_⟩;have hy':=hy vs' q1';rw[hx]at hy';cases hy';subst e1 e3;obtain⟨Γ2,l2,S2,r2⟩:=Zb S' (ds:=[.int i,d]) (vs:=[.int i,x]) ⟨_,_,rfl,rfl,_,_,rfl,rx',rfl⟩ e2;exact⟨Γ2,l2,S2,r2⟩
def yM(ws:List W)(keep:OM->Prop)(G:TGW)(TB:TSW)(D:EndsW)(ρ:WS)(O:OM):Prop:=∃Pv:Nat->WS->OM->Prop,Pv 0 ρ O/\(∀i ρ O,Pv i ρ O->keep O)/\
 (∀i w ρ O,ws[i]? =some w->Pv i ρ O->G w ρ O λρ' O'=>TB { D with nx:=Pv (i+1),ct:=Pv (i+1),bk:=D.nx } ρ' O')/\∀ρ O,Pv ws.length ρ O->D.nx ρ O
def ziX(Wi:TIW)(G:TGW)(TB:TSW):TSW:=λD ρ O=>Wi ρ O λws keep O1=>yM ws keep G TB D ρ O1
theorem zgY{wi:TI}{Wi:TIW}{g:TG}{G:TGW}{tb:TS}{TB:TSW}(hi:vp K wi Wi)(hg:RefG K g G)(hb:RefS K tb TB):RefS K (zig wi g tb) (ziX Wi G TB):=by
 intro Γ O H ρ σ D DW S r hT e;refine hi _ _ _ _ _ S r _ _ hT λΓ1 O1 H1 J ws keep l1 S1 ok h1=>?_;obtain⟨Pv,p0,pk,ps,pd⟩:=h1;refine⟨λi m σ' H'=>i<=ws.length/\m=ws.length-i/\∃Γ' O' ρ',Le Γ1 Γ'/\Sim K Γ' O' H'/\relR K Γ' ρ' σ'/\Pv i ρ' O',⟨_,lO _,rfl,Γ1,O1,ρ,Le.refl _,S1,r.mono l1,p0⟩,?_⟩;rintro i m σ' H' ⟨hi,rfl,Γ',O',ρ',l',S',r',p'⟩;obtain⟨ok1,ok2⟩:=ok i Γ' O' H' l'.z l'.g S' (pk _ _ _ p');by_cases hlt:i<ws.length
 .obtain⟨go,y⟩:=ok1 _ (ls hlt)
  refine .inr ⟨go,λσ2 H2=>∃Γ2 O2 ρ2,Le Γ1 Γ2/\Sim K Γ2 O2 H2/\relR K Γ2 ρ2 σ2/\Pv (i+1) ρ2 O2,λσ2 H2 ⟨Γ2,O2,ρ2,l2,S2,r2,p2⟩=>⟨ws.length-(i+1),by omega,hlt,rfl,Γ2,O2,ρ2,l2,S2,r2,p2⟩,λx H2 hy=>?_⟩;obtain⟨Γ2,l2,S2,rx⟩:=y x H2 hy;refine hg _ _ _ _ _ _ _ S2 (r'.mono l2) rx _ _ (ps i _ ρ' O' (ls hlt) p') λΓ3 O3 H3 ρ3 σ3 l3 S3 r3 h3=>?_;have l13:=(l'.trans l2).trans l3;refine hb _ _ _ _ _ _ _ S3 r3 h3 ⟨λΓ4 O4 H4 ρ4 σ4 l4 S4 r4 h4=>⟨Γ4,O4,ρ4,l13.trans l4,S4,r4,h4⟩,λΓ4 O4 H4 w v l4=>e.rt _ _ _ _ _ ((l1.trans l13).trans l4),λΓ4 O4 H4 ρ4 σ4 l4=>e.nx _ _ _ _ _ ((l1.trans l13).trans l4),λΓ4 O4 H4 ρ4 σ4 l4 S4 r4 h4=>⟨Γ4,O4,ρ4,l13.trans l4,S4,r4,h4⟩⟩
 .have hi2:i=ws.length:=by omega
  refine .inl ⟨ok2 hi2,e.nx _ _ _ _ _ (l1.trans l') S' r' (pd _ _ ?_)⟩;rw[<-hi2];exact p'
noncomputable def yD(js:List Nat)(ρ:WS):WS:=js.map λj=>(ρ[j]?).join
theorem qM{Γ:Gh}{ρ:WS}(r:relR K Γ ρ σ)(n:Nat)(js:List Nat):relR K Γ (List.replicate n none++yD js ρ) (jS n js σ):=by
 refine Paired.appP ?_ ?_
 .induction n with
  |zero=>exact .nil
  |succ n ih=>exact .cons trivial ih
 .unfold yD
  induction js with
  |nil=>exact .nil
  |cons j js ih=>
   refine .cons ?_ ih;show jY K Γ (ρ[j]?.join) (σ[j]?.join);cases h:ρ[j]? with
   |none=>exact trivial
   |some o=>
    cases o with
    |none=>exact trivial
    |some w=>
     obtain⟨v,hv,rv⟩:=r.get h;rw[hv];exact rv
def Xa(G:TGW)(T:TTW)(E:TEW)(n:Nat)(xc:WS)(w:W)(ρ:WS)(O:OM)(k:Option W->OM->Prop):Prop:=
 G w ρ O λρ1 O1=>(ρ1.length=n+xc.length/\ρ1.drop n=xc)/\T ρ1 O1 λok O2=>if ok=true then E ρ1 O2 λy O3=>k (some y) O3 else k none O2
def wLc(Wi:TIW)(n:Nat)(js:List Nat)(G:TGW)(T:TTW)(E:TEW):TEW:=λρ O R=>Wi ρ O λws keep O1=>keep O1/\ws.length<=1000/\∃F:W->Option PyData,
 (∀w∈ws,∀us:WS,us.length=n->Xa G T E n (yD js ρ) w (us++yD js ρ) O1 λy O2=>O2=O1/\y=(F w).map .d)/\R (.d (.list (ws.filterMap F))) O1
theorem j5{xc ρ:WS}(h1:ρ.length=n+xc.length)(h2:ρ.drop n=xc):∃us:WS,us.length=n/\ρ=us++xc:=⟨ρ.take n,by rw[mH];omega,by rw[<-h2,List.take_append_drop]⟩
theorem ziY{wi:TI}{Wi:TIW}{js:List Nat}{g:TG}{G:TGW}{tt:TT}{T:TTW}{te:TE}{E:TEW}(hi:vp K wi Wi)(hg:RefG K g G)(ht:xy K tt T)(he:RefE K te E):RefE K (tLc wi n js g tt te) (wLc Wi n js G T E):=by
 intro Γ O H ρ σ S r Q R hT k;refine hi _ _ _ _ _ S r _ _ hT λΓ1 O1 H1 J ws keep l1 S1 ok h1=>?_;obtain⟨hk,hlen,F,hF,hR⟩:=h1;intro D hD;have hFD:Γ1.F D=none:=S1.f.free hD;have r1:=qM (r.mono l1) n js;refine⟨fun i m σ' H'=>i<=ws.length/\m=ws.length - i/\∃ Γ' ρ' vs,Same Γ1.Z Γ'.Z/\(∀ a rs,Γ1.G a=some rs->∃ more,Γ'.G a=some (rs ++ more))/\Γ'.F=upd Γ1.F D (.lst vs)/\Sim K Γ' O1 H'/\relR K Γ' ρ' σ'/\
  ρ'.length=n+(yD js ρ).length/\ρ'.drop n=yD js ρ/\Reps K Γ'.Z ((ws.take i).filterMap F) vs,⟨_,lO _,rfl,_,_,[],Same.refl _,λa rs h=>⟨[],by rw[lV];exact h⟩,rfl,S1.frameNew hD (.lst []),r1.setF,by simp,by simp,rfl⟩,?_⟩
 rintro i m σ' H' ⟨hi,rfl,Γ',ρ',vs,z',g',f',S',r',n1,n2,rp⟩;obtain⟨ok1,ok2⟩:=ok i Γ' O1 H' z' g' S' hk;have hvl:vs.length<=i:=by
  rw[<-Reps.length rp];exact lT (List.length_filterMap_le _ _) (by rw[mH];omega)
 by_cases hlt:i<ws.length
 .obtain⟨go,y⟩:=ok1 _ (ls hlt)
  refine .inr ⟨go,fun σ2 H2=>∃ Γ2 ρ2 vs2,Same Γ1.Z Γ2.Z/\(∀ a rs,Γ1.G a=some rs->∃ more,Γ2.G a=some (rs ++ more))/\Γ2.F=upd Γ1.F D (.lst vs2)/\Sim K Γ2 O1 H2/\relR K Γ2 ρ2 σ2/\
   ρ2.length=n+(yD js ρ).length/\ρ2.drop n=yD js ρ/\Reps K Γ2.Z ((ws.take (i+1)).filterMap F) vs2,λσ2 H2 h=>⟨ws.length-(i+1),by omega,hlt,rfl,h⟩,λx H2 hy=>?_⟩
  obtain⟨Γ2,l2,S2,rx⟩:=y x H2 hy;obtain⟨us,hus,rfl⟩:=j5 n1 n2;have et:ws.take (i+1)=ws.take i++[ws[i]]:=(List.take_append_getElem hlt).symm;refine hg _ _ _ _ _ _ _ S2 (r'.mono l2) rx _ _ (hF _ (List.getElem_mem hlt) us hus) λΓ3 O3 H3 ρ3 σ3 l3 S3 r3 h3=>?_;obtain⟨⟨m1,m2⟩,h3⟩:=h3;refine ht _ _ _ _ _ S3 r3 _ _ h3 λΓ4 O4 H4 b l4 S4 h4=>?_;have l24:=(l2.trans l3).trans l4;have up:∀ Γ5,Le Γ' Γ5->Same Γ1.Z Γ5.Z/\(∀ a rs,Γ1.G a=some rs->∃ more,Γ5.G a=some (rs ++ more)):=fun Γ5 l=>⟨z'.trans l.z,fun a rs h=>by
   obtain⟨m,e⟩:=g' a rs h;obtain⟨m2,e2⟩:=l.g a _ e;exact⟨m++m2,by rw[<-mQ];exact e2⟩⟩
  cases b with
  |true=>
   rw[lg rfl]at h4 ⊢;refine he _ _ _ _ _ S4 (r3.mono l4) _ _ h4 λΓ5 O5 H5 w5 v5 l5 S5 r5 h5=>?_;obtain⟨rfl,h5⟩:=h5;have l25:=l24.trans l5;cases hFw:F ws[i]with
   |none=>rw[hFw]at h5;cases h5
   |some d=>
    rw[hFw]at h5;cases h5;have f5:Γ5.F=upd Γ1.F D (.lst vs):=by rw[l25.f,f']
    have fD:Γ5.F D=some (.lst vs):=by rw[f5,zW]
    refine⟨vs,S5.f _ _ fD,xJ (by omega),?_⟩;obtain⟨u1,u2⟩:=up Γ5 l25;refine⟨⟨Γ5.Z,Γ5.G,upd Γ5.F D (.lst (vs++[v5]))⟩,ρ3,vs++[v5],u1,u2,?_,S5.framePut fD _,((r3.mono l4).mono l5).setF,m1,m2,?_⟩
    .show upd Γ5.F D _=_
     rw[f5,XF]
    .rw[et,List.filterMap_append]
     have:([ws[i]]:List W).filterMap F=[d]:=by simp[hFw]
     rw[this];exact Reps.snoc (Reps.same l25.z _ _ rp) r5
  |false=>
   rw[l8 (by decide)]at h4 ⊢;obtain⟨rfl,h4⟩:=h4;obtain⟨u1,u2⟩:=up Γ4 l24;refine⟨Γ4,ρ3,vs,u1,u2,by rw[l24.f,f'],S4,r3.mono l4,m1,m2,?_⟩;cases hFw:F ws[i]with
   |some d=>rw[hFw]at h4;cases h4
   |none=>
    rw[et,List.filterMap_append];have:([ws[i]]:List W).filterMap F=[]:=by simp[hFw]
    rw[this,lV];exact Reps.same l24.z _ _ rp
 .have hi2:i=ws.length:=by omega
  subst hi2;refine .inl ⟨ok2 rfl,?_⟩;rw[mU]at rp;obtain⟨q1,q2,q3⟩:=S'.unframe f' hFD rp;exact k ⟨upd Γ'.Z D (.lst vs),Γ'.G,Γ1.F⟩ _ _ _ _ (l1.trans ⟨rfl,z'.trans q1,g'⟩) q2 q3 hR
noncomputable def yu{α:Type}(f:Str)(v:α):List (Str×α)->List (Str×α)
 |[]=>[(f,v)]
 |(g,x)::r=>if g=f then(g,v)::r else(g,x)::yu f v r
theorem zao{Γ:Gh}{f:Str}{w:W}(r:relW K Γ w v){fs:List (Str×W)}{vs:List (Str×V)}(h:yx K Γ fs vs):yx K Γ (yu f w fs) (xD f v vs):=by
 unfold yx at h ⊢
 induction h with
 |nil=>exact .cons ⟨rfl,r⟩ .nil
 |cons a b ih=>
  rename_i p q ps qs
  obtain⟨k,x⟩:=p;obtain⟨k',y⟩:=q;obtain⟨e1,e2⟩:=a;cases(show k=k' from e1);simp only[yu,xD];split
  .exact .cons ⟨rfl,r⟩ b
  .exact .cons ⟨rfl,e2⟩ ih
noncomputable def Zd:W->Option Key
 |.d (.int i)=>some (.inl i)
 |.d (.str x)=>some (.inr x)
 |_=>none
theorem XV{Γ:Gh}{w:W}{k:Key}(r:relW K Γ w v)(e:Zd w=some k):v=kV k:=by
 cases w with
 |d x=>
  cases x<;>simp[Zd]at e
  .subst e;exact r
  .subst e;exact r
 |own a=>cases e
 |row a i=>cases e
section
variable {κ α:Type}[DecidableEq κ]
noncomputable def Ze(kvs:List (κ×α))(k:κ):Option α:=(kvs.find? λkv=>decide (kv.1=k)).map (·.2)
noncomputable def uU(kvs:List (κ×α))(k:κ)(v:α):List (κ×α):=if(kvs.any λkv=>decide (kv.1=k))=true then kvs.map (λkv=>if kv.1=k then(kv.1,v)else kv)else kvs++[(k,v)]
noncomputable def qj(kvs more:List (κ×α)):List (κ×α):=more.foldl (λacc kv=>uU acc kv.1 kv.2) kvs
end
theorem VL{Γ:Gh}{k:Key}{kvs:List (Key×W)}{vs:List (Key×V)}(h:yx K Γ kvs vs):(Ze kvs k=none->xg vs k=none)/\∀w,Ze kvs k=some w->∃v,xg vs k=some v/\relW K Γ w v:=by
 unfold yx at h
 induction h with
 |nil=>exact⟨λ_=>rfl,λw e=>by cases e⟩
 |cons a b ih=>
  rename_i p q ps qs
  obtain⟨k1,x⟩:=p;obtain⟨k',y⟩:=q;obtain⟨e1,e2⟩:=a;cases(show k1=k' from e1);simp only[Ze,xg,mN]at ih ⊢;by_cases hk:k1=k
  .simp[hk];exact e2
  .simp only[hk,decide_false];exact ih
theorem zcd{Γ:Gh}{k:Key}{kvs:List (Key×W)}{vs:List (Key×V)}(h:yx K Γ kvs vs):(kvs.any λkv=>decide (kv.1=k))=vs.any λkv=>decide (kv.1=k):=by
 unfold yx at h
 induction h with
 |nil=>rfl
 |cons a b ih=>rw[mF,mF,a.1,ih]
theorem VM{Γ:Gh}{k:Key}{w:W}(r:relW K Γ w v){kvs:List (Key×W)}{vs:List (Key×V)}(h:yx K Γ kvs vs):yx K Γ (uU kvs k w) (xE vs k v):=by
 unfold uU xE;rw[zcd h];split
 .have key:∀{kvs:List (Key×W)}{vs:List (Key×V)},yx K Γ kvs vs->yx K Γ (kvs.map λkv=>if kv.1=k then(kv.1,w)else kv) (vs.map λkv=>if kv.1=k then(kv.1,v)else kv):=λ{kvs vs} h=>by
   unfold yx at h ⊢
   induction h with
   |nil=>exact .nil
   |cons a b ih=>
    rename_i p q ps qs
    obtain⟨k1,x⟩:=p;obtain⟨k',y⟩:=q;obtain⟨e1,e2⟩:=a;cases(show k1=k' from e1);refine .cons ?_ ih;dsimp only;split
    .exact⟨rfl,r⟩
    .exact⟨rfl,e2⟩
  exact key h
 .exact Paired.appP h (.cons ⟨rfl,r⟩ .nil)
theorem Yk{Γ:Gh}{more:List (Key×W)}{ms:List (Key×V)}(g:yx K Γ more ms):∀{kvs:List (Key×W)}{vs:List (Key×V)},yx K Γ kvs vs->yx K Γ (qj kvs more) (xK vs ms):=by
 unfold qj xK;unfold yx at g
 induction g with
 |nil=>exact λh=>h
 |cons a b ih=>
  rename_i p q ps qs
  intro kvs vs h;obtain⟨k1,x⟩:=p;obtain⟨k',y⟩:=q;obtain⟨e1,e2⟩:=a;cases(show k1=k' from e1);exact ih (VM e2 h)
def zce(Td Ty Tx:TEW):TEW:=λρ O R=>Td ρ O λx O1=>∃a,x=.own a/\(∃kvs,O1 a=some (.dK kvs))/\Ty ρ O1 λy O2=>Tx ρ O2 λz O3=>∃kvs k,O3 a=some (.dK kvs)/\Zd y=some k/\R ((Ze kvs k).getD z) O3
theorem zcf{td ty tx:TE}{Td Ty Tx:TEW}(hd:RefE K td Td)(hy:RefE K ty Ty)(hx:RefE K tx Tx):RefE K (zbT td ty tx) (zce Td Ty Tx):=by
 intro Γ O H ρ σ S r0 Q R hT k;refine hd Γ O H ρ σ S r0 _ _ hT λΓ1 O1 H1 x v l1 S1 rx h1=>?_;obtain⟨a,rfl,⟨kvs0,ho0⟩,h1⟩:=h1;obtain⟨_,vs0,p1,_⟩:=S1.o _ _ ho0;refine⟨a,rx,.inl ⟨vs0,.inl p1⟩,?_⟩;refine hy _ _ _ _ _ S1 (r0.mono l1) _ _ h1 λΓ2 O2 H2 y u l2 S2 ry h2=>?_;refine hx _ _ _ _ _ S2 (r0.mono (l1.trans l2)) _ _ h2 λΓ3 O3 H3 z t l3 S3 rz h3=>?_;obtain⟨kvs,ky,ho,ek,h3⟩:=h3;obtain⟨_,vs,q1,q2⟩:=S3.o _ _ ho;refine⟨xg vs ky,by rw[XV (ry.mono l3) ek];exact UR.k q1,k _ _ _ _ _ ((l1.trans l2).trans l3) S3 ?_ h3⟩;cases e:Ze kvs ky with
 |none=>rw[(VL q2).1 e];exact rz
 |some w=>obtain⟨z',e',r'⟩:=(VL q2).2 w e;rw[e'];exact r'
def Xb:List (TEW×TEW)->WS->OM->(List (W×W)->OM->Prop)->Prop
 |[],_,O,R=>R [] O
 |(Tk,Tv)::ts,ρ,O,R=>Tk ρ O λk O1=>Tv ρ O1 λv O2=>Xb ts ρ O2 λps O3=>R ((k,v)::ps) O3
inductive RefPs (K:W.Frag):List (TE×TE)->List (TEW×TEW)->Prop
 |nil:RefPs K [] []
 |cons {tk tv:TE}{Tk Tv:TEW}{ts:List (TE×TE)}{Ts:List (TEW×TEW)}:RefE K tk Tk->RefE K tv Tv->RefPs K ts Ts->RefPs K ((tk,tv)::ts) ((Tk,Tv)::Ts)
theorem zcg{ts:List (TE×TE)}{Ts:List (TEW×TEW)}(h:RefPs K ts Ts):∀Γ O H ρ σ,Sim K Γ O H->relR K Γ ρ σ->∀(Q:List (V×V)->Hp->Prop) (R:List (W×W)->OM->Prop),Xb Ts ρ O R->
  (∀Γ' O' H' ws vs,Le Γ Γ'->Sim K Γ' O' H'->Paired (λp q=>relW K Γ' p.1 q.1/\relW K Γ' p.2 q.2) ws vs->R ws O'->Q vs H')->Y2 ts σ H Q:=by
 induction h with
 |nil=>intro Γ O H ρ σ S r Q R hT k;exact k _ _ _ _ _ (Le.refl _) S .nil hT
 |cons hk hv _ ih=>
  intro Γ O H ρ σ S r Q R hT k;refine hk _ _ _ _ _ S r _ _ hT λΓ1 O1 H1 w v l1 S1 r1 h1=>?_;refine hv _ _ _ _ _ S1 (r.mono l1) _ _ h1 λΓ2 O2 H2 w2 v2 l2 S2 r2 h2=>?_;exact ih _ _ _ _ _ S2 (r.mono (l1.trans l2)) _ _ h2 λΓ3 O3 H3 ws vs l3 S3 rs h3=>k _ _ _ _ _ ((l1.trans l2).trans l3) S3 (.cons ⟨(r1.mono l2).mono l3,r2.mono l3⟩ rs) h3
noncomputable def Ur:List (W×W)->Option (List (Key×W))
 |[]=>some []
 |(k,v)::ps=>match Zd k,Ur ps with
  |some k',some r=>some ((k',v)::r)
  |_,_=>none
theorem zch{Γ:Gh}{ps:List (W×W)}{vs:List (V×V)}(r:Paired (λp q=>relW K Γ p.1 q.1/\relW K Γ p.2 q.2) ps vs):∀{kvs:List (Key×W)},Ur ps=some kvs->∃us:List (Key×V),vs=us.map (λkv=>(kV kv.1,kv.2))/\yx K Γ kvs us:=by
 induction r with
 |nil=>intro kvs e;cases e;exact⟨[],rfl,.nil⟩
 |cons a b ih=>
  rename_i p q ps qs
  intro kvs e;obtain⟨k,v⟩:=p;obtain⟨k',v'⟩:=q;simp only[Ur]at e;split at e
  .rename_i k1 r1 e1 e2
   cases e;obtain⟨us,h1,h2⟩:=ih e2;have hk:=XV (show relW K Γ k k' from a.1) e1;exact⟨(k1,v')::us,by rw[h1,hk];rfl,.cons ⟨rfl,a.2⟩ h2⟩
  .cases e
def zfO(Ts:List (TEW×TEW)):TEW:=λρ O R=>∀p,O p=none->Xb Ts ρ (updO O p (.dK [])) λps O2=>O2 p=some (.dK [])/\∃kvs,Ur ps=some kvs/\kvs.length<=15/\R (.own p) (updO O2 p (.dK (qj [] kvs)))
theorem zej{ts:List (TE×TE)}{Ts:List (TEW×TEW)}(h:RefPs K ts Ts):RefE K (zfC ts) (zfO Ts):=by
 intro Γ O H ρ σ S r Q R hT k p hp;have S1:=S.newO hp (o:=.dK []) (oo:=.dK []) (by intro _ h;cases h) ⟨[],zW,.nil⟩;refine zcg h _ _ _ _ _ S1 r _ _ (hT p (S.free hp).2.1) λΓ2 O2 H2 ws vs l2 S2 rs h2=>?_;obtain⟨ho,kvs,ek,hl,h2⟩:=h2;obtain⟨us,h3,h4⟩:=zch rs ek;obtain⟨_,vs0,q1,q2⟩:=S2.o _ _ ho;cases q2;refine⟨q1,us,h3,by rw[<-lF h4];exact hl,?_⟩;exact k _ _ _ _ _ l2 (S2.put (oo:=.dK _) ho (by intro _ h;cases h) (by intro _ h;cases h) ⟨_,zW,Yk h4 .nil⟩) xm h2
def tyW(T:String)(O:OM)(w:W):Prop:=(T= "list"/\(z6 O w).isSome=true)\/(T= "str"/\∃z,w=.d (.str z))\/(T= "dict"/\∃a kvs,w=.own a/\O a=some (.dK kvs))
theorem zfP{Γ:Gh}{O:OM}{T:String}{w:W}(S:Sim K Γ O H)(r:relW K Γ w v)(h:tyW T O w):tyV K T v H:=by
 rcases h with⟨rfl,h⟩|⟨rfl,z,rfl⟩|⟨rfl,a,kvs,rfl,h⟩
 .obtain⟨ws,e⟩:=Option.isSome_iff_exists.mp h
  obtain⟨a,vs,rfl,q1,_⟩:=yt S r e;exact .inl ⟨rfl,vs,q1⟩
 .rw[show v=.str z from r];rfl
 .cases(show v=.ref a from r)
  obtain⟨_,vs,q1,_⟩:=S.o _ _ h;exact .inr (.inr (.inl ⟨rfl,.inl ⟨vs,q1⟩⟩))
def wBM(T:String)(rw:W->List W->OM->WK->Prop)(To:TEW)(Ta:TAW):TEW:=λρ O R=>To ρ O λx O1=>tyW T O1 x/\Ta ρ O1 λxs O2=>rw x xs O2 R
theorem ziZ{T:String}{r:V->List V->Hp->VK->Prop}{rw:W->List W->OM->WK->Prop}{to:TE}{To:TEW}{Ta:TAW}(hr:RefM K T r rw)(ho:RefE K to To)(ha:xh K t Ta):RefE K (tBM K T r to t) (wBM T rw To Ta):=by
 intro Γ O H ρ σ S r0 Q R hT k;refine ho _ _ _ _ _ S r0 _ _ hT λΓ1 O1 H1 x v l1 S1 rx h1=>?_;refine⟨zfP S1 rx h1.1,ha _ _ _ _ _ S1 (r0.mono l1) _ _ h1.2 λΓ2 O2 H2 ws vs l2 S2 rs h2=>?_⟩;exact hr _ _ _ _ _ _ _ S2 (rx.mono l2) rs _ _ h2 λΓ3 O3 H3 w u l3=>k _ _ _ _ _ ((l1.trans l2).trans l3)
def zi0(T:String)(rw:W->List W->OM->WK->Prop)(To:TEW):TEW:=λρ O R=>To ρ O λx O1=>tyW T O1 x/\rw x [] O1 R
theorem zgZ{T:String}{r:V->List V->Hp->VK->Prop}{rw:W->List W->OM->WK->Prop}{to:TE}{To:TEW}(hr:RefM K T r rw)(ho:RefE K to To):RefE K (zdN K T r to) (zi0 T rw To):=by
 intro Γ O H ρ σ S r0 Q R hT k;refine ho _ _ _ _ _ S r0 _ _ hT λΓ1 O1 H1 x v l1 S1 rx h1=>?_;exact⟨zfP S1 rx h1.1,hr _ _ _ _ _ _ _ S1 rx .nil _ _ h1.2 λΓ3 O3 H3 w u l3=>k _ _ _ _ _ (l1.trans l3)⟩
noncomputable def j6(O:OM)(o w:W):Option OM:=match o with
 |.own a=>match O a with
  |some (.lst ws)=>if ws.length<1000 then some (updO O a (.lst (ws++[w])))else none
  |some (.grid rows)=>match w with
   |.own b=>match O b with
    |some (.lst us)=>if rows.length<1000 then(yE us).map λds=>updO (del O b) a (.grid (rows++[ds]))else none
    |_=>none
   |_=>none
  |_=>none
 |_=>none
def XW:W->List W->OM->WK->Prop:=λx ws O R=>∃w O1,ws=[w]/\j6 O x w=some O1/\R (.d .none) O1
theorem zek{T:String}:RefM K T Z1 XW:=by
 rintro Γ O H x v xs vs S rx rs Q R ⟨w,O1,rfl,e,h⟩ k;cases rs with
 |cons rw t=>
  cases t
  rename_i u
  cases x with
  |d _=>cases e
  |row _ _=>cases e
  |own a=>
   cases(show v=.ref a from rx);simp only[j6]at e;split at e
   .rename_i ws ho
    split at e
    .rename_i hl
     cases e;obtain⟨_,us,q1,q2⟩:=S.o _ _ ho;refine⟨a,us,u,rfl,rfl,q1,by rw[<-lF q2];exact xJ (by omega),?_⟩;exact k _ _ _ _ _ (Le.refl _) (S.put (oo:=.lst _) ho (by intro _ h;cases h) (by intro _ h;cases h) ⟨_,zW,Paired.appP q2 (.cons rw .nil)⟩) vY h
    .cases e
   .rename_i rows ho
    split at e
    .rename_i b
     cases(show u=.ref b from rw);split at e
     .rename_i us hb
      split at e
      .rename_i hl
       cases hd:yE us with
       |none=>rw[hd]at e;cases e
       |some ds=>
        rw[hd]at e;cases e;rw[y9 hd]at hb;obtain⟨_,rs,hg,_⟩:=S.o _ _ ho;obtain⟨q1,q2,Γ',l',S'⟩:=S.absorb ho hg hb;refine⟨a,_,.ref b,rfl,rfl,q1,by rw[l6,q2];exact xJ (by omega),?_⟩;exact k _ _ _ _ _ l' S' vY h
      .cases e
     .cases e
    .cases e
   .cases e
def zfQ(t:TA):TE:=UG t
theorem yI(h:QA X es t):PE X (.List es pos) (zfQ t):=zbH h.pa
def zfR(T:TAW):TEW:=λρ O R=>T ρ O λws O1=>ws.length<=1000/\∀p,O1 p=none->R (.own p) (updO O1 p (.lst ws))
theorem zel{T:TAW}(h:xh K t T):RefE K (zfQ t) (zfR T):=by
 intro Γ O H ρ σ S r0 Q R hT k;refine h Γ O H ρ σ S r0 _ _ hT λΓ1 O1 H1 ws vs l1 S1 rs h1=>?_;refine⟨by rw[<-lF rs];exact XR h1.1,λp hp=>?_⟩;obtain⟨hO,S'⟩:=XS S1 rs hp;exact k _ _ _ _ _ l1 S' xm (h1.2 p hO)
def zi1(K:W.Frag):List V->Hp->VK->Prop:=rLo K
theorem zi2(h:X.K=K):yw X (.type "list") (zi1 K):=zab h
theorem zlc:RefC K (rLo K) U4:=zgS
theorem zkv:RefC K (zi1 K) U5:=zgT
def zi3(i j:Nat)(T:TAW):TSW:=λD ρ O=>T ρ O λws O1=>∃x y,ws=[x,y]/\D.nx ((ρ.set i (some x)).set j (some y)) O1
theorem Xc{Γ:Gh}{w:W}(h:relW K Γ w v):jY K Γ (some w) (some v):=h
theorem zg0{j:Nat}{T:TAW}(h:xh K t T):RefS K (zid i j t) (zi3 i j T):=by
 intro Γ O H ρ σ D DW S r hT e;refine h _ _ _ _ _ S r _ _ hT λΓ1 O1 H1 ws vs l1 S1 rs h1=>?_;obtain⟨x,y,rfl,h1⟩:=h1;cases rs with
 |cons rx t=>cases t with
  |cons ry t=>
   cases t;exact⟨_,_,rfl,e.nx _ _ _ _ _ l1 S1 (Paired.setP (Paired.setP (r.mono l1) (Xc rx)) (Xc ry)) h1⟩
def wCs(vs:List V):TAW:=λ_ O R=>R (vs.map ofV) O
theorem zi4(h:vs.all scV=true:=by rfl):xh K (tCs vs) (wCs vs):=λΓ O H ρ σ S r Q R hT k=>k _ _ _ _ _ (Le.refl _) S (Yx h) hT
noncomputable def tyD:PyData->Option String
 |.none=>some "NoneType"
 |.bool _=>some "bool"
 |.int _=>some "int"
 |.str _=>some "str"
 |_=>none
noncomputable def isI:String->String->Option Bool
 |"int","int"=>some true
 |"int","bool"=>some false
 |"int","str"=>some false
 |"bool","int"=>some true
 |"bool","bool"=>some true
 |"bool","str"=>some false
 |"str","int"=>some false
 |"str","bool"=>some false
 |"str","str"=>some true
 |"NoneType","int"=>some false
 |"NoneType","bool"=>some false
 |"NoneType","str"=>some false
 |_,_=>none
theorem zg1{a b:String}{c:Bool}(h:isI a b=some c):W.kitOne K (.type a) (.type b)=some c:=by
 unfold isI at h;split at h<;>first|(cases h;rfl)|cases h
def zap(K:W.Frag):List V->Hp->VK->Prop:=λxs H Q=>∃x n t b,xs=[x,.ty n]/\TyOf K H x t/\W.kitOne K t (.type n)=some b/\Q (.bl b) H
theorem ur(h:X.K=K):yw X (.builtin "isinstance") (zap K):=by subst h;exact JE
def zem(n:String)(Ta:TEW):TEW:=λρ O R=>Ta ρ O λx O1=>∃d s b,x=.d d/\tyD d=some s/\isI s n=some b/\R (.d (.bool b)) O1
theorem zg2{n:String}{Ta:TEW}(h:RefE K ta Ta):RefE K (tCB (zap K) (vj ta (vj (tC (.ty n)) uz))) (zem n Ta):=by
 intro Γ O H ρ σ S r Q R hT k;refine h _ _ _ _ _ S r _ _ hT λΓ1 O1 H1 x v l1 S1 rx h1=>?_;obtain⟨d,s,b,rfl,e1,e2,h1⟩:=h1;have ty:TyOf K H1 v (.type s):=by
  cases d<;>simp[tyD]at e1
  .subst e1;rw[show v=_ from rx];exact .non
  .subst e1;rw[show v=_ from rx];exact .bl _
  .subst e1;rw[show v=_ from rx];exact .int _
  .subst e1;rw[show v=_ from rx];exact .str _
 exact⟨v,n,_,b,rfl,ty,zg1 e2,k _ _ _ _ _ l1 S1 yX h1⟩
abbrev TOW:=WS->OM->(Option Int->OM->Prop)->Prop
def XX(K:W.Frag)(t:TO)(T:TOW):Prop:=∀Γ O H ρ σ,Sim K Γ O H->relR K Γ ρ σ->∀(Q:Option Int->Hp->Prop) (R:Option Int->OM->Prop),T ρ O R->(∀Γ' O' H' b,Le Γ Γ'->Sim K Γ' O' H'->R b O'->Q b H')->t σ H Q
def Kg:TOW:=λ_ O R=>R none O
def zfS(T:TEW):TOW:=λρ O R=>T ρ O λx O1=>∃i,x=.d (.int i)/\R (some i) O1
theorem zaq:XX K J7 Kg:=λΓ O H ρ σ S r Q R hT k=>k _ _ _ _ (Le.refl _) S hT
theorem zen{t:TE}{T:TEW}(h:RefE K t T):XX K (zfy t) (zfS T):=by
 intro Γ O H ρ σ S r Q R hT k;refine h _ _ _ _ _ S r _ _ hT λΓ1 O1 H1 x v l1 S1 rx h1=>?_;obtain⟨i,rfl,h1⟩:=h1;exact⟨i,rx,k _ _ _ _ l1 S1 h1⟩
noncomputable def uC{α:Type}(xs:List α)(lo hi:Option Int):List α:=(xs.drop (HT.sIx xs.length 0 lo)).take (HT.sIx xs.length xs.length hi-HT.sIx xs.length 0 lo)
theorem zeo{Z:Hp}(h:Reps K Z ds vs)(lo hi:Option Int):Reps K Z (uC ds lo hi) (XI vs lo hi):=by
 have hp:relWs K ⟨Z,λ_=>none,λ_=>none⟩ (ds.map .d) vs:=yA h;have hl:=Reps.length h;have:=Paired.takeP (Paired.dropP hp (HT.sIx vs.length 0 lo)) (HT.sIx vs.length vs.length hi-HT.sIx vs.length 0 lo);rw[<-List.map_drop,<-List.map_take]at this;unfold uC XI;rw[hl];exact ya this
def zi5(Te:TEW)(Tl Th:TOW):TEW:=λρ O R=>Te ρ O λx O1=>Tl ρ O1 λl O2=>Th ρ O2 λu O3=>∃ws ds,z6 O3 x=some ws/\yE ws=some ds/\R (.d (.list (uC ds l u))) O3
theorem zg3{te:TE}{tl th:TO}{Te:TEW}{Tl Th:TOW}(he:RefE K te Te)(hl:XX K tl Tl)(hh:XX K th Th):RefE K (tSl (zdM K) te tl th) (zi5 Te Tl Th):=by
 intro Γ O H ρ σ S r Q R hT k;refine he _ _ _ _ _ S r _ _ hT λΓ1 O1 H1 x v l1 S1 rx h1=>?_;refine hl _ _ _ _ _ S1 (r.mono l1) _ _ h1 λΓ2 O2 H2 l l2 S2 h2=>?_;refine hh _ _ _ _ _ S2 (r.mono (l1.trans l2)) _ _ h2 λΓ3 O3 H3 u l3 S3 h3=>?_;obtain⟨ws,ds,e1,e2,h3⟩:=h3;obtain⟨a,vs,rfl,q1,q2⟩:=yt S3 ((rx.mono l2).mono l3) e1;rw[y9 e2]at q2;refine⟨a,vs,rfl,q1,λp hp=>?_⟩;obtain⟨Γ',l',S',r'⟩:=qi S3 (zeo (ya q2) l u) hp;exact k _ _ _ _ _ (((l1.trans l2).trans l3).trans l') S' r' h3
def XY:R2W:=λx y O R=>∃ws us ds es,z6 O x=some ws/\z6 O y=some us/\yE ws=some ds/\yE us=some es/\ds.length+es.length<=10000000/\R (.d (.list (ds++es))) O
theorem U8{Z:Hp}:∀{ds es:List PyData}{vs us:List V},Reps K Z ds vs->Reps K Z es us->Reps K Z (ds++es) (vs++us)
 |[],_,_,_,h,g=>by rw[show _=[]from h];exact g
 |d::ds,_,_,_,h,g=>by
  obtain⟨x,r,rfl,h1,h2⟩:=h;exact⟨x,_,rfl,h1,U8 h2 g⟩
theorem zkw:RefR K (ziA K) XY:=by
 rintro Γ O H x y v u S rx ry Q R ⟨ws,us,ds,es,e1,e2,e3,e4,hl,h⟩ k;obtain⟨a,vs,rfl,q1,q2⟩:=yt S rx e1;obtain⟨b,zs,rfl,p1,p2⟩:=yt S ry e2;rw[y9 e3]at q2;rw[y9 e4]at p2;have q3:=ya q2;have p3:=ya p2;refine⟨a,b,vs,zs,rfl,rfl,q1,p1,by rw[<-Reps.length q3,<-Reps.length p3,lS];omega,λp hp=>?_⟩;obtain⟨Γ',l',S',r'⟩:=qi S (U8 q3 p3) hp;exact k _ _ _ _ _ l' S' r' h
def wIn(neg:Bool):R2W:=λx y O R=>∃d ds,x=.d d/\vn O y=some ds/\scD d=true/\ds.all scD=true/\R (.d (.bool (if neg then !inV (vOf d) (ds.map vOf)else inV (vOf d) (ds.map vOf)))) O
theorem Kh{Z:Hp}:∀{ds:List PyData}{vs:List V},Reps K Z ds vs->ds.all scD=true->vs=ds.map vOf
 |[],_,h,_=>h
 |d::ds,_,h,a=>by
  obtain⟨x,r,rfl,h1,h2⟩:=h;simp at a;rw[jy h1 a.1,Kh h2 (by simpa using a.2)];rfl
theorem Ki{d:PyData}(h:scD d=true):uT (vOf d)=true:=by cases d<;>first|rfl|simp[scD]at h
def zi6(K:W.Frag)(neg:Bool):R2:=rIn K neg
theorem zar(h:X.K=K):OpR X (compareOp .In) (zi6 K false):=by subst h;exact zbM
theorem zld{neg:Bool}:RefR K (zi6 K neg) (wIn neg):=by
 rintro Γ O H x y v u S rx ry Q R ⟨d,ds,rfl,e,h1,h2,h⟩ k;obtain⟨a,vs,rfl,q1,q2⟩:=XT S ry e;have hv:=jy rx h1;have hvs:=Kh q2 h2;subst hv hvs;refine⟨a,_,rfl,q1,Ki h1,?_,k _ _ _ _ _ (Le.refl _) S yX h⟩;rw[List.all_map];simp only[List.all_eq_true]at h2 ⊢;exact λz hz=>Ki (h2 z hz)
def zfT:R2W:=λx y O R=>∃i j,x=.d (.str i)/\y=.d (.str j)/\i.length+j.length<=sizeLine/\R (.d (.str (i++j))) O
theorem zi7:RefR K (λx y H Q=>∃i j,x=.str i/\y=.str j/\i.length+j.length<=sizeLine/\Q (.str (i++j)) H) zfT:=by
 rintro Γ O H x y v u S rx ry Q R ⟨i,j,rfl,rfl,hl,h⟩ k;exact⟨i,j,rx,ry,hl,k _ _ _ _ _ (Le.refl _) S vX h⟩
theorem Sim.unframeO{Γ:Gh}{O:OM}(S:Sim K Γ O H){F:Hp}(hF:Γ.F=upd F a (.lst vs))(h0:F a=none)(hr:Reps K Γ.Z ds vs) :
  O a=none/\Sim K ⟨Γ.Z,Γ.G,F⟩ (updO O a (.lst (ds.map .d))) H:=by
 have hFa:Γ.F a=some (.lst vs):=by rw[hF,zW]
 obtain⟨hz,hO,hrow⟩:=S.fd _ _ hFa;have kF:∀b o,F b=some o->b≠a/\Γ.F b=some o:=λb o e=>by
  have hb:b≠a:=λz=>by rw[z,h0]at e;cases e
  exact⟨hb,by rw[hF,zu hb];exact e⟩
 have k1:∀{x:Addr}{rx:List (List PyData)},updO O a (.lst (ds.map .d)) x=some (.grid rx)->O x=some (.grid rx):=λ{x rx} h=>by
  by_cases hx:x=a
  .subst hx;rw[zf]at h;cases h
  .rw[ze hx]at h;exact h
 refine⟨hO,⟨S.z,λb oo e=>?_,S.gd,λb u e=>S.f _ _ (kF b u e).2,λb oo e hn=>?_,λb o e=>S.fg b o (kF b o e).2,λb o e=>⟨(S.fd b o (kF b o e).2).1,by rw[ze (kF b o e).1];exact(S.fd b o (kF b o e).2).2.1,λc rows rs e1=>(S.fd b o (kF b o e).2).2.2 c rows rs (k1 e1)⟩,λx y ra rb rs ss r e1 e2=>S.u x y ra rb rs ss r (k1 e1) (k1 e2)⟩⟩
 .by_cases hb:b=a
  .subst hb
   rw[zf]at e;cases e;exact⟨hz,vs,S.f _ _ hFa,yA hr⟩
  .rw[ze hb]at e
   obtain⟨q1,q2⟩:=S.o _ _ e;refine⟨q1,(q2.keep (Le.refl _) rfl rfl λrs r hg ⟨rows,hrw⟩ hm=>⟨rfl,rfl,?_⟩).setF⟩;subst hrw;exact ze (λz=>hrow b rows rs e hg (by rw[<-z];exact hm))
 .by_cases hb:b=a
  .rw[hb];exact S.fg _ _ hFa
  .rw[ze hb]at e;exact S.gn b oo e hn
def zep(wi:TI)(n:Nat)(js:List Nat)(g:TG)(tt:TT)(te:TE):TE:=tLc wi n js g tt te
def zi8(wi:TI)(n:Nat)(js:List Nat)(g:TG)(tt:TT)(te:TE):TE:=tLc wi n js g tt te
section
variable {js:List Nat}{scope:Scope}{cl:List (Str×Addr)}{elt iter:Expr}{ifs:List Expr}{wi:TI}{g:TG}{tt:TT}{te:TE}
theorem zci(L:LcOk X N n js scope cl)(hc:X.calm=true)(hi:PI X tg iter wi)
  (hg:∀C s0 H0 fp0,PG (yz X N scope cl C s0 H0 fp0) tg g)(ht:∀C s0 H0 fp0,PTs (yz X N scope cl C s0 H0 fp0) ifs tt)(he:∀C s0 H0 fp0,PE (yz X N scope cl C s0 H0 fp0) elt te)
  (hs:∀x,foldedSetIterable iter X.env x=pure x:=by intro _;rfl):PE X (.ListComp elt [⟨tg,iter,ifs,0⟩] scope pos) (zep wi n js g tt te):=vE L hc hi hg ht he hs
theorem zcj(L:LcOk X N n js scope cl)(hc:X.calm=true)(hi:PI X tg iter wi)
  (hg:∀C s0 H0 fp0,PG (yz X N scope cl C s0 H0 fp0) tg g)(ht:∀C s0 H0 fp0,PTs (yz X N scope cl C s0 H0 fp0) ifs tt)(he:∀C s0 H0 fp0,PE (yz X N scope cl C s0 H0 fp0) elt te)
  (hs:∀x,foldedSetIterable iter X.env x=pure x:=by intro _;rfl):PE X (.ListComp elt [⟨tg,iter,ifs,0⟩] scope pos) (zi8 wi n js g tt te):=vE L hc hi hg ht he hs
theorem zck{pos' spos:Pos}(hN:X.N.Nodup)(hx:X.N[i]? =some x)(hk:X.env.scope.names.lookup x=some .local)(L:LcOk X N n js scope cl)(hc:X.calm=true)(hi:PI X tg iter wi)
  (hg:∀C s0 H0 fp0,PG (yz X N scope cl C s0 H0 fp0) tg g)(ht:∀C s0 H0 fp0,PTs (yz X N scope cl C s0 H0 fp0) ifs tt)(he:∀C s0 H0 fp0,PE (yz X N scope cl C s0 H0 fp0) elt te)
  (hsw:swapsWith (.ListComp elt [⟨tg,iter,ifs,0⟩] scope pos) (some (.Name x pos')) spos.line X.env=pure true:=by rfl)
  (hs:∀x,foldedSetIterable iter X.env x=pure x:=by intro _;rfl):PS X (.Assign [.Name x pos'] (.ListComp elt [⟨tg,iter,ifs,0⟩] scope pos) spos) (Yr (zep wi n js g tt te) (qI i)):=qf hN hx hk L hc hi hg ht he hsw hs
end
def zi9(Wi:TIW)(n:Nat)(js:List Nat)(G:TGW)(T:TTW)(E:TEW):TEW:=λρ O R=>Wi ρ O λws keep O1=>keep O1/\ws.length<=1000/\∃F:W->Option PyData,
 (∀w∈ws,∀us:WS,us.length=n->Xa G T E n (yD js ρ) w (us++yD js ρ) O1 λy O2=>O2=O1/\y=(F w).map .d)/\∀p,O1 p=none->R (.own p) (updO O1 p (.lst ((ws.filterMap F).map .d)))
theorem zg4{wi:TI}{Wi:TIW}{js:List Nat}{g:TG}{G:TGW}{tt:TT}{T:TTW}{te:TE}{E:TEW}(hi:vp K wi Wi)(hg:RefG K g G)(ht:xy K tt T)(he:RefE K te E):RefE K (zep wi n js g tt te) (zi9 Wi n js G T E):=by
 intro Γ O H ρ σ S r Q R hT k;refine hi _ _ _ _ _ S r _ _ hT λΓ1 O1 H1 J ws keep l1 S1 ok h1=>?_;obtain⟨hk,hlen,F,hF,hR⟩:=h1;intro D hD;have hFD:Γ1.F D=none:=S1.f.free hD;have hOD:=(S1.free hD).2.1;have r1:=qM (r.mono l1) n js;refine⟨fun i m σ' H'=>i<=ws.length/\m=ws.length - i/\∃ Γ' ρ' vs,Same Γ1.Z Γ'.Z/\(∀ a rs,Γ1.G a=some rs->∃ more,Γ'.G a=some (rs ++ more))/\Γ'.F=upd Γ1.F D (.lst vs)/\Sim K Γ' O1 H'/\relR K Γ' ρ' σ'/\
  ρ'.length=n+(yD js ρ).length/\ρ'.drop n=yD js ρ/\Reps K Γ'.Z ((ws.take i).filterMap F) vs,⟨_,lO _,rfl,_,_,[],Same.refl _,λa rs h=>⟨[],by rw[lV];exact h⟩,rfl,S1.frameNew hD (.lst []),r1.setF,by simp,by simp,rfl⟩,?_⟩
 rintro i m σ' H' ⟨hi,rfl,Γ',ρ',vs,z',g',f',S',r',n1,n2,rp⟩;obtain⟨ok1,ok2⟩:=ok i Γ' O1 H' z' g' S' hk;have hvl:vs.length<=i:=by
  rw[<-Reps.length rp];exact lT (List.length_filterMap_le _ _) (by rw[mH];omega)
 by_cases hlt:i<ws.length
 .obtain⟨go,y⟩:=ok1 _ (ls hlt)
  refine .inr ⟨go,fun σ2 H2=>∃ Γ2 ρ2 vs2,Same Γ1.Z Γ2.Z/\(∀ a rs,Γ1.G a=some rs->∃ more,Γ2.G a=some (rs ++ more))/\Γ2.F=upd Γ1.F D (.lst vs2)/\Sim K Γ2 O1 H2/\relR K Γ2 ρ2 σ2/\
   ρ2.length=n+(yD js ρ).length/\ρ2.drop n=yD js ρ/\Reps K Γ2.Z ((ws.take (i+1)).filterMap F) vs2,λσ2 H2 h=>⟨ws.length-(i+1),by omega,hlt,rfl,h⟩,λx H2 hy=>?_⟩
  obtain⟨Γ2,l2,S2,rx⟩:=y x H2 hy;obtain⟨us,hus,rfl⟩:=j5 n1 n2;have et:ws.take (i+1)=ws.take i++[ws[i]]:=(List.take_append_getElem hlt).symm;refine hg _ _ _ _ _ _ _ S2 (r'.mono l2) rx _ _ (hF _ (List.getElem_mem hlt) us hus) λΓ3 O3 H3 ρ3 σ3 l3 S3 r3 h3=>?_;obtain⟨⟨m1,m2⟩,h3⟩:=h3;refine ht _ _ _ _ _ S3 r3 _ _ h3 λΓ4 O4 H4 b l4 S4 h4=>?_;have l24:=(l2.trans l3).trans l4;have up:∀ Γ5,Le Γ' Γ5->Same Γ1.Z Γ5.Z/\(∀ a rs,Γ1.G a=some rs->∃ more,Γ5.G a=some (rs ++ more)):=fun Γ5 l=>⟨z'.trans l.z,fun a rs h=>by
   obtain⟨m,e⟩:=g' a rs h;obtain⟨m2,e2⟩:=l.g a _ e;exact⟨m++m2,by rw[<-mQ];exact e2⟩⟩
  cases b with
  |true=>
   rw[lg rfl]at h4 ⊢;refine he _ _ _ _ _ S4 (r3.mono l4) _ _ h4 λΓ5 O5 H5 w5 v5 l5 S5 r5 h5=>?_;obtain⟨rfl,h5⟩:=h5;have l25:=l24.trans l5;cases hFw:F ws[i]with
   |none=>rw[hFw]at h5;cases h5
   |some d=>
    rw[hFw]at h5;cases h5;have f5:Γ5.F=upd Γ1.F D (.lst vs):=by rw[l25.f,f']
    have fD:Γ5.F D=some (.lst vs):=by rw[f5,zW]
    refine⟨vs,S5.f _ _ fD,xJ (by omega),?_⟩;obtain⟨u1,u2⟩:=up Γ5 l25;refine⟨⟨Γ5.Z,Γ5.G,upd Γ5.F D (.lst (vs++[v5]))⟩,ρ3,vs++[v5],u1,u2,?_,S5.framePut fD _,((r3.mono l4).mono l5).setF,m1,m2,?_⟩
    .show upd Γ5.F D _=_
     rw[f5,XF]
    .rw[et,List.filterMap_append]
     have:([ws[i]]:List W).filterMap F=[d]:=by simp[hFw]
     rw[this];exact Reps.snoc (Reps.same l25.z _ _ rp) r5
  |false=>
   rw[l8 (by decide)]at h4 ⊢;obtain⟨rfl,h4⟩:=h4;obtain⟨u1,u2⟩:=up Γ4 l24;refine⟨Γ4,ρ3,vs,u1,u2,by rw[l24.f,f'],S4,r3.mono l4,m1,m2,?_⟩;cases hFw:F ws[i]with
   |some d=>rw[hFw]at h4;cases h4
   |none=>
    rw[et,List.filterMap_append];have:([ws[i]]:List W).filterMap F=[]:=by simp[hFw]
    rw[this,lV];exact Reps.same l24.z _ _ rp
 .have hi2:i=ws.length:=by omega
  subst hi2;refine .inl ⟨ok2 rfl,?_⟩;rw[mU]at rp;obtain⟨q1,q2⟩:=S'.unframeO f' hFD rp;exact k ⟨Γ'.Z,Γ'.G,Γ1.F⟩ _ _ _ _ (l1.trans ⟨rfl,z',g'⟩) q2 xm (hR D hOD)
def zja(Wi:TIW)(n:Nat)(js:List Nat)(G:TGW)(T:TTW)(E:TEW):TEW:=λρ O R=>Wi ρ O λws keep O1=>keep O1/\ws.length<=1000/\∃F:W->List PyData,
 (∀w∈ws,∀us:WS,us.length=n->Xa G T E n (yD js ρ) w (us++yD js ρ) O1 λy O2=>∃b,O1 b=none/\y=some (.own b)/\O2=updO O1 b (.lst ((F w).map .d)))/\∀p,O1 p=none->R (.own p) (updO O1 p (.grid (ws.map F)))
theorem zg5{wi:TI}{Wi:TIW}{js:List Nat}{g:TG}{G:TGW}{tt:TT}{T:TTW}{te:TE}{E:TEW}(hi:vp K wi Wi)(hg:RefG K g G)(ht:xy K tt T)(he:RefE K te E):RefE K (zi8 wi n js g tt te) (zja Wi n js G T E):=by
  intro Γ O H ρ σ S r Q R hT k;refine hi _ _ _ _ _ S r _ _ hT λΓ1 O1 H1 J ws keep l1 S1 ok h1=>?_;obtain⟨hk,hlen,F,hF,hR⟩:=h1;intro D hD;have hFD:Γ1.F D=none:=S1.f.free hD;have hOD:=(S1.free hD).2.1;have r1:=qM (r.mono l1) n js;refine⟨fun i m σ' H'=>i<=ws.length/\m=ws.length - i/\∃ Γ' ρ',∃ rs:List Addr,Same Γ1.Z Γ'.Z/\(∀ a rs,Γ1.G a=some rs->∃ more,Γ'.G a=some (rs ++ more))/\Sim K Γ' O1 H'/\relR K Γ' ρ' σ'/\
    (ρ'.length=n+(yD js ρ).length/\ρ'.drop n=yD js ρ)/\Γ'.F D=some (.lst (rs.map V.ref))/\rs.Nodup/\D∉rs/\rs.length=i/\
    (∀(j:Nat) (q:Addr),rs[j]? =some q->Γ1.F q=none/\∃vs w,Γ'.F q=some (.lst vs)/\ws[j]? =some w/\Reps K Γ'.Z (F w) vs)/\∀x,x≠D->x∉rs->Γ'.F x=Γ1.F x,
    ⟨_,lO _,rfl,⟨Γ1.Z,Γ1.G,upd Γ1.F D (.lst [])⟩,_,[],Same.refl _,λa rs h=>⟨[],by rw[lV];exact h⟩,S1.frameNew hD (.lst []),r1.setF,⟨by simp,by simp⟩,zW,.nil,by simp,rfl,by simp,λx hx _=>zu hx⟩,?_⟩
  rintro i m σ' H' ⟨hi,rfl,Γ',ρ',rs,z',g',S',r',⟨n1,n2⟩,fD,nd,nD,hl,hrow,hrest⟩;obtain⟨ok1,ok2⟩:=ok i Γ' O1 H' z' g' S' hk;by_cases hlt:i<ws.length
  · obtain⟨go,y⟩:=ok1 _ (ls hlt)
    refine .inr ⟨go,fun σ' H'=>∃ Γ' ρ',∃ rs:List Addr,Same Γ1.Z Γ'.Z/\(∀ a rs,Γ1.G a=some rs->∃ more,Γ'.G a=some (rs ++ more))/\Sim K Γ' O1 H'/\relR K Γ' ρ' σ'/\
      (ρ'.length=n+(yD js ρ).length/\ρ'.drop n=yD js ρ)/\Γ'.F D=some (.lst (rs.map V.ref))/\rs.Nodup/\D∉rs/\rs.length=i+1/\
      (∀(j:Nat) (q:Addr),rs[j]? =some q->Γ1.F q=none/\∃vs w,Γ'.F q=some (.lst vs)/\ws[j]? =some w/\Reps K Γ'.Z (F w) vs)/\∀x,x≠D->x∉rs->Γ'.F x=Γ1.F x,λσ2 H2 h=>⟨ws.length-(i+1),by omega,hlt,rfl,h⟩,λx H2 hy=>?_⟩
    obtain⟨Γ2,l2,S2,rx⟩:=y x H2 hy;obtain⟨us,hus,rfl⟩:=j5 n1 n2;refine hg _ _ _ _ _ _ _ S2 (r'.mono l2) rx _ _ (hF _ (List.getElem_mem hlt) us hus) λΓ3 O3 H3 ρ3 σ3 l3 S3 r3 h3=>?_;obtain⟨⟨m1,m2⟩,h3⟩:=h3;refine ht _ _ _ _ _ S3 r3 _ _ h3 λΓ4 O4 H4 b l4 S4 h4=>?_;have l24:=(l2.trans l3).trans l4;cases b with
    |false=>
      rw[l8 (by decide)]at h4;obtain⟨_,_,h,_⟩:=h4;cases h
    |true=>
      rw[lg rfl]at h4 ⊢;refine he _ _ _ _ _ S4 (r3.mono l4) _ _ h4 λΓ5 O5 H5 w5 v5 l5 S5 r5 h5=>?_;obtain⟨b,hb0,hw,rfl⟩:=h5;cases hw;cases(show v5=.ref b from r5);have l25:=l24.trans l5;have f5:Γ5.F=Γ'.F:=l25.f;have hOb:updO O1 b (.lst ((F ws[i]).map .d)) b=some (.lst ((F ws[i]).map .d)):=zf;have Fb:Γ5.F b=none:=by
        cases e:Γ5.F b with
        |none=>rfl
        |some o=>have:=(S5.fd _ _ e).2.1;rw[hOb]at this;cases this
      have bD:b≠D:=λe=>by rw[e,f5,fD]at Fb;cases Fb
      have brs:b∉rs:=λm=>by
        obtain⟨j,hj,e⟩:=List.mem_iff_getElem.mp m;obtain⟨_,vs,w,q,_⟩:=hrow j b (by rw[ls hj,e]);rw[f5,q]at Fb;cases Fb
      have F1b:Γ1.F b=none:=by rw[<-hrest b bD brs,<-f5];exact Fb
      obtain⟨vb,hb1,hb2,S6⟩:=S5.frameOwn hOb;have hdel:del (updO O1 b (.lst ((F ws[i]).map .d))) b=O1:=by
        funext c
        by_cases hc:c=b
        · rw[hc,xx,hb0]
        · rw[vd hc,ze hc]
      rw[hdel]at S6;have F6D:(⟨Γ5.Z,Γ5.G,upd Γ5.F b (.lst vb)⟩:Gh).F D=some (.lst (rs.map V.ref)):=by
        show upd Γ5.F b _ D=_;rw[zu (Ne.symm bD),f5];exact fD
      have S7:=S6.framePut F6D (.lst (rs.map V.ref++[.ref b]));refine⟨rs.map V.ref,S6.f _ _ F6D,xJ (by rw[l6];omega),?_⟩;refine⟨⟨Γ5.Z,Γ5.G,upd (upd Γ5.F b (.lst vb)) D (.lst (rs.map V.ref++[.ref b]))⟩,ρ3,rs++[b],z'.trans l25.z,λa ss h=>?_,S7,(((r3.mono l4).mono l5).setF).setF,⟨m1,m2⟩,?_,?_,?_,by simp[hl],λj q e=>?_,λx hx hxr=>?_⟩
      · obtain⟨m,e⟩:=g' a ss h
        obtain⟨m2,e2⟩:=l25.g a _ e;exact⟨m++m2,by rw[<-mQ];exact e2⟩
      · rw[m9];exact zW
      · rw[List.nodup_append]
        exact⟨nd,by simp,λu hu v hv=>by simp at hv;subst hv;exact λz=>brs (by rw[<-z];exact hu)⟩
      · simp[nD];exact λe=>bD e.symm
      · by_cases hj:j<rs.length
        · rw[mq hj]at e
          obtain⟨q1,vs,w,q2,q3,q4⟩:=hrow j q e;have hqb:q≠b:=λz=>brs (by rw[<-z];exact lK e);have hqD:q≠D:=λz=>nD (by rw[<-z];exact lK e);refine⟨q1,vs,w,?_,q3,Reps.same l25.z _ _ q4⟩;show upd (upd Γ5.F b _) D _ q=_;rw[zu hqD,zu hqb,f5];exact q2
        · have hj2:j=rs.length:=by
            have:=(lx.mp e).1;simp at this;omega
          subst hj2;rw[mE (lp _)]at e;simp at e;subst e;refine⟨F1b,vb,ws[i],?_,by rw[hl];exact ls hlt,ya (Γ:=Γ5) hb2⟩;show upd (upd Γ5.F b _) D _ b=_;rw[zu bD,zW]
      · have hxb:x≠b:=λz=>hxr (by rw[z];simp)
        show upd (upd Γ5.F b _) D _ x=_;rw[zu hx,zu hxb,f5];exact hrest x hx λm=>hxr (by simp[m])
  · have hi2:i=ws.length:=by omega
    refine .inl ⟨ok2 hi2,?_⟩;obtain⟨q1,G',q2,q3⟩:=S'.gridify (F:=Γ1.F) (rows:=ws.map F) hFD fD nd nD (by rw [l6];omega) (fun j q ds e1 e2=>by
      obtain⟨y1,vs,w,y2,y3,y4⟩:=hrow j q e1;rw[lw,y3]at e2;cases e2;exact⟨y1,vs,y2,y4⟩) hrest
    exact k ⟨Γ'.Z,G',Γ1.F⟩ _ _ _ _ (l1.trans ⟨rfl,z',λa ss h=>by obtain⟨m,e⟩:=g' a ss h;exact⟨m,q2 _ _ e⟩⟩) q3 xm (hR D hOD)
theorem zg6{f:Str}(hK:X.K=K)(he:PE X e ta)(hb:attributeBase e f X.env (eval e X.env)=eval e X.env):PE X (.Attribute e f pos) (K4 K ta f):=by
 subst hK;exact zik he hb
theorem zg7{o value:Expr}{tv:TE}{f:Str}{pos':Pos}(hK:X.K=K)(ha:PE X o ta)(hv:PE X value tv)(hs:swapsWith value (some (.Attribute o f pos')) pos.line X.env=pure false):PS X (.Assign [.Attribute o f pos'] value pos) (K5 K ta tv f):=by
 subst hK;exact zil ha hv hs
theorem yn(hK:X.K=K):IxR X (zdL K):=by subst hK;exact ziq
theorem yP{l:Expr}{tl:TE}(hK:X.K=K)(hl:PE X l tl):PI X tg l (KU K tl):=by subst hK;exact zgl hl
theorem vZ{l:Expr}{tl:TE}(hK:X.K=K)(hl:PE X l tl):PI X tg l (zdC K tl):=by subst hK;exact zif hl
theorem zeq{k:Nat}{tp:Pos}{l:Expr}{ta:TA}{p:Pos}(hK:X.K=K)(hg:Gl X "enumerate")(hm:X.mg "enumerate" =none)(ha:PA X [l] ta)(hs:starEach [l] X.env=[(false,eval l X.env)]:=by rfl) :
  PI X (.Tuple es k tp) (.Call (.Name "enumerate" p) [l] [] pos) (zae K ta):=by subst hK;exact zgE hg hm ha hs
theorem uZ{k:Nat}{t:TGs}(hK:X.K=K)(hc:X.calm=true)(h:PGs X es t)
  (hn:(assignEach es X.env).length=n:=by rfl)(hst:(assignEach es X.env).findIdx? (·.1)=none:=by rfl):PG X (.Tuple es k pos) (zdB K n t):=by subst hK;exact zia hc h hn hst
section
variable {T:String}{name:Str}{id:String}{r:V->List V->Hp->VK->Prop}{o:Expr}{to:TE}{apos cpos:Pos}
theorem Kj(hK:X.K=K)(pa:PlainAttrs T)(slot:Slot T name id)(hty:typeOf (.builtin id)=pure (.type "method_descriptor"))(hm:MtR X id r)(ho:PE X o to)
  (hbase:attributeBase o name X.env (eval o X.env)=eval o X.env:=by rfl)(hline:(apos.endLine==cpos.line)=true:=by rfl):PE X (.Call (.Attribute o name apos) [] [] cpos) (zdN K T r to):=by subst hK;exact zis pa slot hty hm ho hbase hline
theorem yJ(hK:X.K=K)(pa:PlainAttrs T)(slot:Slot T name id)(hty:typeOf (.builtin id)=pure (.type "method_descriptor"))(hm:MtR X id r)(ho:PE X o to)(ha:PA X (e::es) t)
  (hbase:attributeBase o name X.env (eval o X.env)=eval o X.env:=by rfl)
  (hfew:((backTo cpos (starEach (e::es) X.env)).all (λx=>!x.1)&&(backToKw cpos (keywordEach [] X.env)).all (λx=>x.1.isSome)&&decide ((e::es).length+([]:List Keyword).length+(if([]:List Keyword).isEmpty then 0 else 1)<30))=true:=by rfl)
  (hline:(apos.endLine==cpos.line)=true:=by rfl)(hs:starEach (e::es) X.env=(false,eval e X.env)::starEach es X.env:=by rfl)(hplain:(backTo cpos (starEach es X.env)).any (·.1)=false:=by rfl) :
  PE X (.Call (.Attribute o name apos) (e::es) [] cpos) (tBM K T r to t):=by subst hK;exact zkf pa slot hty hm ho ha hbase hfew hline hs hplain
end
def zfU(K:W.Frag):List V->Hp->VK->Prop:=λxs H Q=>∃p ys,xs=[.ref p]/\(SqL K H p ys\/SqT K H p ys)/\Q (.int ys.length) H
theorem jz(hK:X.K=K):yw X (.builtin "len") (zfU K):=by subst hK;exact UL
theorem zjb:RefC K (zfU K) zeb:=zkt
def zfV(K:W.Frag):List V->Hp->VK->Prop:=λxs H Q=>∃p ys,xs=[.ref p]/\((SqL K H p ys/\∀l,H l=none->Q (.ref l) (upd H l (.tup ys)))\/(SqT K H p ys/\Q (.ref p) H))
theorem Zf(hK:X.K=K):yw X (.type "tuple") (zfV K):=by subst hK;exact V6
theorem zjc:RefC K (zfV K) U6:=zgU
def zfW(K:W.Frag)(ta:TE):TT:=λσ H Q=>ta σ H λx H'=>∃k,UE K x H' k/\Q k H'
theorem xL{a:Expr}(hK:X.K=K)(ha:PE X a ta)(he:∀whole,isTrue a X.env whole=(do let v<-whole;standAt a.pos;holding [v] (truthy v))):PT X a (zfW K ta):=by
 subst hK;exact zdF ha he
theorem zer{t:TE}{T:TEW}(h:RefE K t T):xy K (zfW K t) (zd8 T):=zgP h
theorem ql(hK:X.K=K)(hu:X.A.units+64<cLine):OpR X (compareOp .NotEq) (zdS K):=by subst hK;exact ziz hu
theorem zg8:xy K ziw (λ_ O R=>R true O):=λΓ O H ρ σ S r Q R hT k=>k _ _ _ _ (Le.refl _) S hT
def wCR(a:Addr):TEW:=λ_ O R=>R (.own a) O
theorem zjd:RefE K (tC (.ref a)) (wCR a):=λΓ O H ρ σ S r Q R h k=>k _ _ _ _ _ (Le.refl _) S xm h
def zfX(K:W.Frag)(To:TEW)(T:TAW):TEW:=λρ O R=>To ρ O λx O1=>∃a D,x=.own a/\DK K a D/\T ρ O1 λws O2=>∃i d,ws=[.d (.int i),.d (.int d)]/\R (.d (.int ((xG D i).getD d))) O2
theorem zes{to:TE}{To:TEW}{T:TAW}(ho:RefE K to To)(h:xh K t T):RefE K (zaj K to t) (zfX K To T):=by
 intro Γ O H ρ σ S r Q R hT k;refine ho _ _ _ _ _ S r _ _ hT λΓ1 O1 H1 x v l1 S1 rx h1=>?_;obtain⟨a,D,rfl,hd,h1⟩:=h1;refine⟨a,D,rx,hd,h _ _ _ _ _ S1 (r.mono l1) _ _ h1 λΓ2 O2 H2 ws vs l2 S2 rs h2=>?_⟩;obtain⟨i,d,rfl,h2⟩:=h2;cases rs with
 |cons rx t=>cases t with
  |cons ry t=>
   cases t;exact⟨i,d,by rw[show _=V.int i from rx,show _=V.int d from ry],k _ _ _ _ _ (l1.trans l2) S2 xS h2⟩
theorem U9{o:Expr}{to:TE}{apos cpos:Pos}(hK:X.K=K)(ho:PE X o to)(ha:PA X (e::es) t)
  (hbase:attributeBase o "get" X.env (eval o X.env)=eval o X.env:=by rfl)
  (hfew:((backTo cpos (starEach (e::es) X.env)).all (λx=>!x.1)&&(backToKw cpos (keywordEach [] X.env)).all (λx=>x.1.isSome)&&decide ((e::es).length+([]:List Keyword).length+(if([]:List Keyword).isEmpty then 0 else 1)<30))=true:=by rfl)
  (hline:(apos.endLine==cpos.line)=true:=by rfl)(hs:starEach (e::es) X.env=(false,eval e X.env)::starEach es X.env:=by rfl)(hplain:(backTo cpos (starEach es X.env)).any (·.1)=false:=by rfl) :
  PE X (.Call (.Attribute o "get" apos) (e::es) [] cpos) (zaj K to t):=by subst hK;exact zgG ho ha hbase hfew hline hs hplain
theorem zcl{s:SpW}{T:TAW}(h:xh K t T):RefE K (ZY (za K s) [] E0 t) (Y7 s [] T):=U3 h
theorem zcm{s:SpW}{i:Int}{T:TAW}(h:xh K t T):RefE K (ZY (za K s) [.int i] E0 t) (Y7 s [.int i] T):=U3 h
theorem ye{T U:TSW}{D:EndsW}{ρ:WS}{O:OM}(J:WS->OM->Prop)(ht:∀R:WS->OM->Prop,(∀ρ' O',J ρ' O'->R ρ' O')->T { D with nx:=R } ρ O)(hu:∀ρ' O',J ρ' O'->U D ρ' O'):xY T U D ρ O:=ht (U D) hu
theorem yM.by{ws:List W}{keep:OM->Prop}{G:TGW}{TB:TSW}{D:EndsW}{ρ:WS}{O:OM}(Pv:Nat->WS->OM->Prop)(h0:Pv 0 ρ O)(hk:∀i ρ O,Pv i ρ O->keep O)
  (hs:∀i w ρ O,ws[i]? =some w->Pv i ρ O->∀R:WS->OM->Prop,(∀ρ' O',Pv (i+1) ρ' O'->R ρ' O')->G w ρ O λρ' O'=>TB { D with nx:=R,ct:=R,bk:=D.nx } ρ' O')(hd:∀ρ O,Pv ws.length ρ O->D.nx ρ O):yM ws keep G TB D ρ O:=
 ⟨Pv,h0,hk,λi w ρ O e p=>hs i w ρ O e p _ λ_ _ z=>z,hd⟩
theorem yM.rng{f:Nat->Int}{G:TGW}{TB:TSW}{D:EndsW}{ρ:WS}{O:OM}(Pv:Nat->WS->OM->Prop)(h0:Pv 0 ρ O)
    (hs:∀i ρ O,i<n->Pv i ρ O->∀R:WS->OM->Prop,(∀ρ' O',Pv (i+1) ρ' O'->R ρ' O')->G (.d (.int (f i))) ρ O λρ' O'=>TB { D with nx:=R,ct:=R,bk:=D.nx } ρ' O')(hd:∀ρ O,Pv n ρ O->D.nx ρ O):yM ((List.range n).map λi=>.d (.int (f i))) (λ_=>True) G TB D ρ O:=
  yM.by Pv h0 (fun _ _ _ _=>trivial) (fun i w ρ O e p R hR=>by
    rw[lw]at e;cases hr:(List.range n)[i]? with
    |none=>rw[hr]at e;cases e
    |some j=>
      rw[hr]at e;cases e;obtain⟨hi,hj⟩:=lx.mp hr;simp at hi hj;subst hj;exact hs i ρ O hi p R hR) (λρ O p=>hd ρ O (by simpa using p))
abbrev PF:=Nat->Nat->Cel
noncomputable def genG(h w:Nat)(f:PF):List (List PyData):=(List.range h).map λi=>(List.range w).map λj=>celD (f i j)
theorem Qa{h w:Nat}{f:PF}(hi:i<h):(genG h w f)[i]? =some ((List.range w).map λj=>celD (f i j)):=by
 unfold genG;rw[lw,List.getElem?_range hi];rfl
theorem qm{h w:Nat}{f:PF}:(genG h w f).length=h:=by simp[genG]
noncomputable def setF(f:PF)(i j:Nat)(c:Cel):PF:=λa b=>if a=i/\b=j then c else f a b
theorem VN{α:Type}{f:Nat->α}{x:α}:((List.range n).map f).set i x=(List.range n).map λk=>if k=i then x else f k:=by
 apply List.ext_getElem?;intro k;rw[List.getElem?_set];by_cases hk:k<n
 .simp[hk]
  by_cases e:i=k
  .subst e;simp[hk]
  .simp[e,Ne.symm e]
 .simp[hk]
  omega
theorem zet{h w:Nat}{f:PF}{j:Nat}{c:Cel}(hi:i<h):(genG h w f).set i (((List.range w).map λj=>celD (f i j)).set j (celD c))=genG h w (setF f i j c):=by
 unfold genG;rw[VN,VN];refine mo λa ha=>?_;by_cases e:a=i
 .subst e
  simp only[if_true,setF,true_and];refine mo λb hb=>?_;by_cases eb:b=j<;>simp[eb]
 .simp[e,setF]
theorem ut{O:OM}{rows:List (List PyData)}(h:O p=some (.grid rows)):z6 O (.own p)=some ((List.range rows.length).map (.row p)):=by simp[z6,h]
theorem Qb{O:OM}{h w:Nat}{f:PF}(hp:O p=some (.grid (genG h w f)))(hi:i<h):z6 O (.row p i)=some ((List.range w).map λj=>.d (celD (f i j))):=by
 simp[z6,hp,Qa hi]
theorem vz{α:Type}{f:Nat->α}{i:Int}(h0:0<=i)(h1:i<n):atI ((List.range n).map f) i=some (f i.toNat):=by
 obtain⟨k,rfl⟩:=Int.eq_ofNat_of_zero_le h0;refine uX ?_;rw[lw,List.getElem?_range (by omega)];rfl
theorem j7{O:OM}{h w:Nat}{f:PF}{k:Int}{c:Cel}(hp:O p=some (.grid (genG h w f)))(hi:i<h)(h0:0<=k)(h1:k<w):j4 O (.row p i) k (.d (celD c))=some (updO O p (.grid (genG h w (setF f i k.toNat c)))):=by
 have hx:ixN ((List.range w).map λj=>celD (f i j)).length k=some k.toNat:=by
  unfold ixN;rw[lg h0,lg (by simp;exact h1)]
 simp only[j4,hp,Qa hi,hx,Option.map_some,zet hi]
theorem xt:OpR X (binaryOp .Mult) (rI IntMulOk λi j=>.int (i*j)):=opI λ_ _ _ _ _ _ _ hc q=>mul_int q hc
theorem mulL{a b:Int}(h1:-1000000000000<=a)(h2:a<=1000000000000):IntMulOk a b:=(zgx h1 h2).ok
theorem mulR{a b:Int}(h1:-1000000000000<=b)(h2:b<=1000000000000):IntMulOk a b:=(zdT h1 h2).ok
def Bt(m:Nat)(c:Int):Prop:=c.natAbs<2 ^ m
structure KP where
 row:Int
 col:Int
 late:Bool
 ink:Int
 wrap:Bool
 putting:Bool
 home:Bool
noncomputable def kpT(k:KP):PyData:=.tuple [.int k.row,.int k.col,.bool k.late,.int k.ink,.bool k.wrap,.bool k.putting,.bool k.home]
noncomputable def stK(ks:List Int):List (Key×W):=ks.map λi=>(Sum.inl i,W.d (.bool true))
structure ST where
 w:Nat
 h:Nat
 row:Int
 col:Int
 late:Bool
 ink:Int
 wrap:Bool
 putting:Bool
 home:Bool
 top:Int
 bottom:Int
 left:Int
 right:Int
 last:PyData
 pic:PF
 stops:List Int
 kept:List KP
noncomputable def fldW(p st kp:Addr)(S:ST):List (Str×W):=[("picture",.own p),("wide",.d (.int S.w)),("high",.d (.int S.h)),("row",.d (.int S.row)),("column",.d (.int S.col)),("late",.d (.bool S.late)),("ink",.d (.int S.ink)),("wrap",.d (.bool S.wrap)),("putting",.d (.bool S.putting)),("home",.d (.bool S.home)),("top",.d (.int S.top)),("bottom",.d (.int S.bottom)),("left",.d (.int S.left)),("right",.d (.int S.right)),("stops",.own st),("kept",.own kp),("last",.d S.last)]
noncomputable def ownW(q:Addr)(S:ST):List (Key×W):=[(Sum.inr "wide",.d (.int S.w)),(Sum.inr "high",.d (.int S.h)),(Sum.inr "top",.d (.int S.top)),(Sum.inr "left",.d (.int S.left)),(Sum.inr "cells",.own q),(Sum.inr "bottom",.d (.int S.bottom)),(Sum.inr "right",.d (.int S.right)),(Sum.inr "home",.d (.bool S.home)),(Sum.inr "putting",.d (.bool S.putting)),(Sum.inr "wrap",.d (.bool S.wrap)),(Sum.inr "last",.d S.last),(Sum.inr "late",.d (.bool S.late)),(Sum.inr "ink",.d (.int S.ink)),(Sum.inr "row",.d (.int S.row)),(Sum.inr "column",.d (.int S.col))]
section
variable {st kp q:Addr}{S:ST}
theorem zV:(fldW p st kp S).length= 17:=rfl
theorem zeu:(ownW q S).length= 15:=rfl
theorem zg:(fldW p st kp S).lookup (Str.ofString "picture")=some (W.own p):=rfl
theorem zG:(fldW p st kp S).lookup (Str.ofString "wide")=some (W.d (.int S.w)):=rfl
theorem zH:(fldW p st kp S).lookup (Str.ofString "high")=some (W.d (.int S.h)):=rfl
theorem zL:(fldW p st kp S).lookup (Str.ofString "row")=some (W.d (.int S.row)):=rfl
theorem zj:(fldW p st kp S).lookup (Str.ofString "column")=some (W.d (.int S.col)):=rfl
theorem zv:(fldW p st kp S).lookup (Str.ofString "late")=some (W.d (.bool S.late)):=rfl
theorem zK:(fldW p st kp S).lookup (Str.ofString "ink")=some (W.d (.int S.ink)):=rfl
theorem zw:(fldW p st kp S).lookup (Str.ofString "wrap")=some (W.d (.bool S.wrap)):=rfl
theorem zh:(fldW p st kp S).lookup (Str.ofString "putting")=some (W.d (.bool S.putting)):=rfl
theorem zx:(fldW p st kp S).lookup (Str.ofString "home")=some (W.d (.bool S.home)):=rfl
theorem zO:(fldW p st kp S).lookup (Str.ofString "top")=some (W.d (.int S.top)):=rfl
theorem zm:(fldW p st kp S).lookup (Str.ofString "bottom")=some (W.d (.int S.bottom)):=rfl
theorem zC:(fldW p st kp S).lookup (Str.ofString "left")=some (W.d (.int S.left)):=rfl
theorem zq:(fldW p st kp S).lookup (Str.ofString "right")=some (W.d (.int S.right)):=rfl
theorem zp:(fldW p st kp S).lookup (Str.ofString "stops")=some (W.own st):=rfl
theorem zy:(fldW p st kp S).lookup (Str.ofString "kept")=some (W.own kp):=rfl
theorem zI:(fldW p st kp S).lookup (Str.ofString "last")=some (W.d S.last):=rfl
theorem zM{x:Int}:yu (Str.ofString "row") (.d (.int x)) (fldW p st kp S)=fldW p st kp { S with row:=x }:=rfl
theorem zk{x:Int}:yu (Str.ofString "column") (.d (.int x)) (fldW p st kp S)=fldW p st kp { S with col:=x }:=rfl
theorem zz{x:Bool}:yu (Str.ofString "late") (.d (.bool x)) (fldW p st kp S)=fldW p st kp { S with late:=x }:=rfl
theorem zN{x:Int}:yu (Str.ofString "ink") (.d (.int x)) (fldW p st kp S)=fldW p st kp { S with ink:=x }:=rfl
theorem zA{x:Bool}:yu (Str.ofString "wrap") (.d (.bool x)) (fldW p st kp S)=fldW p st kp { S with wrap:=x }:=rfl
theorem zi{x:Bool}:yu (Str.ofString "putting") (.d (.bool x)) (fldW p st kp S)=fldW p st kp { S with putting:=x }:=rfl
theorem zD{x:Bool}:yu (Str.ofString "home") (.d (.bool x)) (fldW p st kp S)=fldW p st kp { S with home:=x }:=rfl
theorem zP{x:Int}:yu (Str.ofString "top") (.d (.int x)) (fldW p st kp S)=fldW p st kp { S with top:=x }:=rfl
theorem zn{x:Int}:yu (Str.ofString "bottom") (.d (.int x)) (fldW p st kp S)=fldW p st kp { S with bottom:=x }:=rfl
theorem zE{x:Int}:yu (Str.ofString "left") (.d (.int x)) (fldW p st kp S)=fldW p st kp { S with left:=x }:=rfl
theorem zr{x:Int}:yu (Str.ofString "right") (.d (.int x)) (fldW p st kp S)=fldW p st kp { S with right:=x }:=rfl
theorem zJ{x:PyData}:yu (Str.ofString "last") (.d x) (fldW p st kp S)=fldW p st kp { S with last:=x }:=rfl
end
structure StAt (O:OM) (C x dx p st kp:Addr) (S:ST):Prop where
 x:O x=some (.ins C dx (fldW p st kp S))
 p:O p=some (.grid (genG S.h S.w S.pic))
 st:O st=some (.dK (stK S.stops))
 kp:O kp=some (.lst ((S.kept.map kpT).map .d))
theorem neW{O:OM}{b:Addr}{o u:OO}(h:O a=some o)(h':O b=some u)(d:o≠u):a≠b:=by
 intro e;subst e;rw[h]at h';exact d (lU h')
section
variable {O O':OM}{x st kp:Addr}{S:ST}
theorem StAt.xp(s:StAt O C x dx p st kp S):x≠p:=neW s.x s.p (by intro h;cases h)
theorem StAt.xs(s:StAt O C x dx p st kp S):x≠st:=neW s.x s.st (by intro h;cases h)
theorem StAt.xk(s:StAt O C x dx p st kp S):x≠kp:=neW s.x s.kp (by intro h;cases h)
theorem StAt.ps(s:StAt O C x dx p st kp S):p≠st:=neW s.p s.st (by intro h;cases h)
theorem StAt.pk(s:StAt O C x dx p st kp S):p≠kp:=neW s.p s.kp (by intro h;cases h)
def But(O O':OM)(x p:Addr):Prop:=∀b,b≠x->b≠p->O' b=O b
theorem But.refl:But O O x p:=λ_ _ _=>rfl
theorem But.trans{O1 O2:OM}(a:But O O1 x p)(b:But O1 O2 x p):But O O2 x p:=λc h1 h2=>(b c h1 h2).trans (a c h1 h2)
theorem But.ux{o:OO}:But O (updO O x o) x p:=λ_ h _=>ze h
theorem But.up{o:OO}:But O (updO O p o) x p:=λ_ _ h=>ze h
theorem StAt.fld(s:StAt O C x dx p st kp S){S':ST}(hw:S'.w=S.w)(hh:S'.h=S.h)(hp:S'.pic=S.pic)(hst:S'.stops=S.stops:=by rfl)(hk:S'.kept=S.kept:=by rfl):StAt (updO O x (.ins C dx (fldW p st kp S'))) C x dx p st kp S':=
 ⟨zf,by rw[ze (Ne.symm s.xp),hw,hh,hp];exact s.p,by rw[ze (Ne.symm s.xs),hst];exact s.st,by rw[ze (Ne.symm s.xk),hk];exact s.kp⟩
theorem StAt.pic(s:StAt O C x dx p st kp S){f:PF}:StAt (updO O p (.grid (genG S.h S.w f))) C x dx p st kp { S with pic:=f }:=
 ⟨by rw[ze s.xp];exact s.x,zf,by rw[ze (Ne.symm s.ps)];exact s.st,by rw[ze (Ne.symm s.pk)];exact s.kp⟩
end
structure Bds (S:ST):Prop where
 w1:1<=S.w
 w2:S.w<=24
 h1:1<=S.h
 h2:S.h<=12
 r0:0<=S.row
 r1:S.row<S.h
 c0:0<=S.col
 c1:S.col<S.w
 t0:0<=S.top
 tb:S.top<=S.bottom
 b1:S.bottom<S.h
 l0:0<=S.left
 lr:S.left<=S.right
 rr:S.right<S.w
 i0:0<=S.ink
 i1:S.ink<512
theorem zF{p q:Prop}[Decidable p][Decidable q]{a b:Prop}:(if p then(if q then a else b)else b)=(if p/\q then a else b):=by
 by_cases hp:p<;>by_cases hq:q<;>simp[hp,hq]
def NumD:PyData->Prop
 |.none=>True
 |.int i=>0<=i/\i<=1000000
 |_=>False
theorem NumD.cs{n:PyData}(h:NumD n):n=.none\/∃i,n=.int i/\0<=i/\i<=1000000:=by
 cases n<;>first|exact .inl rfl|exact h.elim|exact .inr ⟨_,rfl,h.1,h.2⟩
noncomputable def oneD:PyData->Int
 |.int i=>if i>1 then i else 1
 |_=>1
theorem xa{n:PyData}:1<=oneD n:=by cases n<;>simp[oneD];split<;>omega
theorem xU{n:PyData}(h:NumD n):oneD n<=1000000:=by
 rcases h.cs with rfl|⟨i,rfl,h0,h1⟩
 .decide
 .simp only[oneD];split<;>omega
def vG:SpW:=λws O R=>∃n,ws=[.d n]/\NumD n/\R (.d (.int (oneD n))) O
def sI1(P:Int->Prop)(f:Int->Int):SpW:=λws O R=>∃a,ws=[.d (.int a)]/\P a/\R (.d (.int (f a))) O
def sI2(P:Int->Int->Prop)(f:Int->Int->Int):SpW:=λws O R=>∃a b,ws=[.d (.int a),.d (.int b)]/\P a b/\R (.d (.int (f a b))) O
def sI3(P:Int->Int->Int->Prop)(f:Int->Int->Int->Int):SpW:=λws O R=>∃a b c,ws=[.d (.int a),.d (.int b),.d (.int c)]/\P a b c/\R (.d (.int (f a b c))) O
noncomputable def Zg(n:PyData)(a b:Int):Int:=if b<a+oneD n-1 then b else a+oneD n-1
def Yy:SpW:=λws O R=>∃n a b,ws=[.d n,.d (.int a),.d (.int b)]/\NumD n/\R (.d (.int (Zg n a b))) O
noncomputable def zje(c k:Int):Int:=(c+7919*k+3)*(c+7919*k+3)%2147483647*48271%2147483647
def XZ:SpW:=λws O R=>∃ns:List Int,∃k:Nat,ws=[.d (.list (ns.map .int)),.d (.int k)]/\R (.d (.int (ns.getD k 0))) O
def Qc:SpW:=λws O R=>∃n lo hi,ws=[.d (.int n),.d (.int lo),.d (.int hi)]/\R (.d (.bool (decide (lo<=n/\n<=hi)))) O
def zfY:SpW:=λws O R=>∃a b:Nat,ws=[.d (.int a),.d (.int b)]/\1<=a/\a<=24/\1<=b/\b<=12/\R (.d (.bool true)) O
noncomputable def xM(m:PyData)(size:Int):Int:=match m with
 |.int i=>if i= 0 then size else if size<i then size else i
 |_=>size
noncomputable def Us(n m:PyData)(size:Int):PyData:=if xM m size<oneD n then .none else .tuple [.int (oneD n-1),.int (xM m size-1)]
def Ut:SpW:=λws O R=>∃n m s,ws=[.d n,.d m,.d (.int s)]/\NumD n/\NumD m/\R (.d (Us n m s)) O
noncomputable def dyeI(ink:Int)(n:PyData):Int:=match n with
 |.int i=>if i= 0 then 0
  else if 1<=i/\i<=3 then Builtin.bitOr ink ((xG [(0,64),(1,128),(2,256)] (i-1)).getD 0)
  else if 4<=i/\i<=6 then Builtin.bitAnd ink (Builtin.bitNot ((xG [(0,64),(1,128),(2,256)] (i-4)).getD 0))
  else if i= 7 then Builtin.bitXor ink 448
  else if 10<=i/\i<=17 then(i-10)+8*Builtin.bitAnd (ink / 8) 7+64*Builtin.bitAnd (ink / 64) 7
  else if 20<=i/\i<=27 then Builtin.bitAnd ink 7+8*(i-20)+64*Builtin.bitAnd (ink / 64) 7
  else ink
 |_=>0
def Ink(i:Int):Prop:=0<=i/\i<512
def jA:SpW:=sI3 (λa b c=>-1000<=b/\b<=1000/\-1000<=c/\c<=1000) (λa b c=>a+8*b+64*c)
def zas:SpW:=λws O R=>∃ink n,ws=[.d (.int ink),.d n]/\Ink ink/\NumD n/\R (.d (.int (dyeI ink n))) O
noncomputable def eT(S:ST):Int:=if S.top<=S.row then S.top else 0
noncomputable def eB(S:ST):Int:=if S.row<=S.bottom then S.bottom else S.h-1
noncomputable def eL(S:ST):Int:=if S.left<=S.col then S.left else 0
noncomputable def eR(S:ST):Int:=if S.col<=S.right then S.right else S.w-1
noncomputable def plS(r c:PyData)(S:ST):ST:=if S.home=true then{ S with row:=Zg r S.top S.bottom,col:=Zg c S.left S.right,late:=false }else{ S with row:=Zg r 0 (S.h-1),col:=Zg c 0 (S.w-1),late:=false }
noncomputable def rowsS(a b:PyData)(S:ST):ST:=if xM b S.h<oneD a then S else plS .none .none { S with top:=oneD a-1,bottom:=xM b S.h-1 }
noncomputable def colsS(a b:PyData)(S:ST):ST:=if xM b S.w<oneD a then S else plS .none .none { S with left:=oneD a-1,right:=xM b S.w-1 }
noncomputable def blank(i:Int):Cel:=(Str.ofString " ",i)
noncomputable def atF(f:PF)(i j:Int):Cel:=f i.toNat j.toNat
noncomputable def mvP(f:PF)(ink t b l r dn ac:Int):PF:=λi j=>
 if t<=(i:Int)/\(i:Int)<=b/\l<=(j:Int)/\(j:Int)<=r then(if t<=i+dn/\i+dn<=b/\l<=j+ac/\j+ac<=r then atF f (i+dn) (j+ac)else blank ink)else f i j
noncomputable def mvS(t b l r dn ac:Int)(S:ST):ST:={ S with pic:=mvP S.pic S.ink t b l r dn ac }
inductive sSt (C:Addr) (args:List W) (pre:ST->Prop) (f:ST->ST) (ws:List W) (O:OM) (R:WK):Prop
 |mk:∀x dx p st kp S,ws=.own x::args->StAt O C x dx p st kp S->pre S->(∀O',StAt O' C x dx p st kp (f S)->But O O' x p->R (.d .none) O')->sSt C args pre f ws O R
inductive sEdges (C:Addr) (ws:List W) (O:OM) (R:WK):Prop
 |mk:∀x dx p st kp S,ws=[.own x]->StAt O C x dx p st kp S->R (.d (.tuple [.int (eT S),.int (eB S),.int (eL S),.int (eR S)])) O->sEdges C ws O R
inductive sBlankOf (C:Addr) (ws:List W) (O:OM) (R:WK):Prop
 |mk:∀x dx p st kp S,ws=[.own x]->StAt O C x dx p st kp S->R (.d (celD (blank S.ink))) O->sBlankOf C ws O R
def sPlace(C:Addr):SpW:=λws O R=>∃r c,NumD r/\NumD c/\sSt C [.d r,.d c] (λ_=>True) (plS r c) ws O R
def sHome(C:Addr):SpW:=sSt C [] (λ_=>True) (plS .none .none)
def sRows(C:Addr):SpW:=λws O R=>∃a b,NumD a/\NumD b/\sSt C [.d a,.d b] (λ_=>True) (rowsS a b) ws O R
def sCols(C:Addr):SpW:=λws O R=>∃a b,NumD a/\NumD b/\sSt C [.d a,.d b] (λ_=>True) (colsS a b) ws O R
noncomputable def dyeS(ns:List PyData)(S:ST):ST:={ S with ink:=ns.foldl dyeI S.ink }
def sDye(C:Addr):SpW:=λws O R=>∃ns:List PyData,(∀n∈ns,NumD n)/\sSt C [.d (.tuple ns)] (λS=>Ink S.ink) (dyeS ns) ws O R
noncomputable def rollS(a s:Int)(S:ST):ST:=mvS a S.bottom S.left S.right s 0 S
def PreR(a:Int)(S:ST):Prop:=Bds S/\0<=a/\a<=S.bottom
def sRoll(C:Addr):SpW:=λws O R=>∃a s,-2000000<=s/\s<=2000000/\sSt C [.d (.int a),.d (.int s)] (PreR a) (rollS a s) ws O R
def sRollD(C:Addr):SpW:=λws O R=>∃a s,-2000000<=s/\s<=2000000/\sSt C [.d (.int a),.d (.int s)] (PreR a) (rollS a (-s)) ws O R
noncomputable def lineS(s:Int)(S:ST):ST:=if S.top<=S.row/\S.row<=S.bottom then{ rollS S.row s S with late:=false }else{ S with late:=false }
def sPutL(C:Addr):SpW:=λws O R=>∃n,NumD n/\sSt C [.d n] Bds (lineS (-(oneD n))) ws O R
def sCutL(C:Addr):SpW:=λws O R=>∃n,NumD n/\sSt C [.d n] Bds (lineS (oneD n)) ws O R
noncomputable def cellsS(s:Int)(S:ST):ST:={ mvS S.row S.row S.col (eR S) 0 s S with late:=false }
def sMvC(C:Addr):SpW:=λws O R=>∃s,-2000000<=s/\s<=2000000/\sSt C [.d (.int s)] Bds (cellsS s) ws O R
def sPutC(C:Addr):SpW:=λws O R=>∃n,NumD n/\sSt C [.d n] Bds (cellsS (-(oneD n))) ws O R
noncomputable def leftS(S:ST):ST:={ S with col:=eL S,late:=false }
def sLeft(C:Addr):SpW:=sSt C [] (λ_=>True) leftS
noncomputable def lineE(S:ST):ST:=let S1:=leftS S;if S1.row=S1.bottom then rollS S1.top 1 S1 else if S1.row<S1.h-1 then{ S1 with row:=S1.row+1 }else S1
def sLineE(C:Addr):SpW:=sSt C [] Bds lineE
noncomputable def putS0(c:Str)(S:ST):ST:=
 let S1:ST:=if S.late=true/\S.wrap=true then lineE S else S
 let S2:ST:={ S1 with late:=false }
 let S3:ST:=if S2.putting=true then cellsS (-1) S2 else S2
 let S4:ST:={ S3 with pic:=setF S3.pic S3.row.toNat S3.col.toNat (c,S3.ink),last:=.str c }
 if S4.col<eR S4 then{ S4 with col:=S4.col+1 }else{ S4 with late:=S4.wrap }
def sPutSign(C:Addr):SpW:=λws O R=>∃c,sSt C [.d (.str c)] Bds (putS0 c) ws O R
inductive sBlankRow (ws:List W) (O:OM) (R:WK):Prop
 |mk:∀(a:Nat) (i:Int),ws=[.d (.int a),.d (.int i)]->a<=24->(∀p,O p=none->R (.own p) (updO O p (.lst (((List.range a).map λ_=>celD (blank i)).map .d))))->sBlankRow ws O R
inductive sBlankPic (ws:List W) (O:OM) (R:WK):Prop
 |mk:∀(a b:Nat) (i:Int),ws=[.d (.int a),.d (.int b),.d (.int i)]->1<=a->a<=24->1<=b->b<=12->(∀p,O p=none->R (.own p) (updO O p (.grid (genG b a λ_ _=>blank i))))->sBlankPic ws O R
inductive sCopied (ws:List W) (O:OM) (R:WK):Prop
 |mk:∀p h w f,ws=[.own p]->O p=some (.grid (genG h w f))->h<=12->R (.d (.list ((genG h w f).map .list))) O->sCopied ws O R
noncomputable def stopsI(w:Nat):List Int:=(List.range ((w-1) / 4)).map λi=>(4+(i:Nat)*4:Int)
noncomputable def stopsW(w:Nat):List (Key×W):=stK (stopsI w)
inductive sStops (ws:List W) (O:OM) (R:WK):Prop
 |mk:∀a:Nat,ws=[.d (.int a)]->1<=a->a<=24->(∀p,O p=none->R (.own p) (updO O p (.dK (stopsW a))))->sStops ws O R
noncomputable def st0(w h:Nat)(f:PF):ST:=⟨w,h,0,0,false,0,true,false,false,0,h-1,0,w-1,.none,f,stopsI w,[]⟩
def sBegin(C:Addr):SpW:=λws O R=>∃x dx p,∃w h:Nat,ws=[.own x]/\O x=some (.ins C dx [("picture",.own p),("wide",.d (.int w)),("high",.d (.int h))])/\1<=w/\w<=24/\
 ∀st kp O',O st=none->O kp=none->O' x=some (.ins C dx (fldW p st kp (st0 w h λ_ _=>blank 0)))->O' st=some (.dK (stopsW w))->O' kp=some (.lst [])->(∀b,b≠x->b≠st->b≠kp->O' b=O b)->R (.d .none) O'
inductive sInit (C:Addr) (ws:List W) (O:OM) (R:WK):Prop
 |mk:∀x dx,∀w h:Nat,ws=[.own x,.d (.int w),.d (.int h)]->O x=some (.ins C dx [])->1<=w->w<=24->1<=h->h<=12->(∀p st kp O',O p=none->O st=none->O kp=none->StAt O' C x dx p st kp (st0 w h λ_ _=>blank 0)->(∀b,b≠x->b≠p->b≠st->b≠kp->O' b=O b)->R (.d .none) O')->sInit C ws O R
theorem zev{i:Int}(h:Ink i):0<=Builtin.bitAnd (i / 8) 7/\Builtin.bitAnd (i / 8) 7<=7:=by
 obtain⟨n,rfl⟩:∃n:_root_.Fin 512,i=((n.val:Nat):Int):=⟨⟨i.toNat,by have:=h.1;have:=h.2;omega⟩,by have:=h.1;simp only;omega⟩;clear h
 revert n
 decide +kernel
theorem VO{i:Int}(h:Ink i):0<=Builtin.bitAnd (i / 64) 7/\Builtin.bitAnd (i / 64) 7<=7:=by
 obtain⟨n,rfl⟩:∃n:_root_.Fin 512,i=((n.val:Nat):Int):=⟨⟨i.toNat,by have:=h.1;have:=h.2;omega⟩,by have:=h.1;simp only;omega⟩;clear h
 revert n
 decide +kernel
theorem Qd{i:Int}{n:PyData}(h:Ink i):Ink (dyeI i n):=by
 cases n with
 |int k=>
  obtain⟨m,rfl⟩:∃m:_root_.Fin 512,i=((m.val:Nat):Int):=⟨⟨i.toNat,by have:=h.1;have:=h.2;omega⟩,by have:=h.1;simp only;omega⟩;by_cases hk:0<=k/\k<=27
  .obtain⟨q,rfl⟩:∃q:_root_.Fin 28,k=((q.val:Nat):Int):=⟨⟨k.toNat,by omega⟩,by simp only;omega⟩
   clear h hk;unfold Ink
   revert m q
   decide +kernel
  .simp only[dyeI]
   rw[l8 (by omega),l8 (by omega),l8 (by omega),l8 (by omega),l8 (by omega),l8 (by omega)];exact h
 |_=>exact⟨Int.le_refl 0,(by decide:(0:Int)<512)⟩
theorem zew{h w:Nat}{f:PF}{k:Int}(h0:0<=k)(h1:k<h):atI (((genG h w f).map PyData.list).map W.d) k=some (.d (.list ((List.range w).map λj=>celD (f k.toNat j)))):=by
 unfold genG;rw[lM,lM];exact vz h0 h1
theorem Qe{w:Nat}{g:Nat->Cel}{k:Int}(h0:0<=k)(h1:k<w):atI (((List.range w).map λj=>celD (g j)).map W.d) k=some (.d (celD (g k.toNat))):=by
 rw[lM];exact vz h0 h1
noncomputable def goP(N f:PF)(t l:Int)(i j:Nat):PF:=λa b=>if(a:Int)<t+i\/((a:Int)=t+i/\(b:Int)<l+j)then N a b else f a b
theorem Qf{N f:PF}{t l:Int}(hN:∀a b:Nat,(a:Int)<t\/((a:Int)=t/\(b:Int)<l)->N a b=f a b):goP N f t l 0 0 =f:=by
 funext a b
 unfold goP;split
 .rename_i e;exact hN a b (by omega)
 .rfl
theorem Qg{N f:PF}{t l:Int}{j:Nat}{r:Nat}(hr:(r:Int)=t+i)(hc:(c:Int)=l+j):setF (goP N f t l i j) r c (N r c)=goP N f t l i (j+1):=by
 funext a b
 unfold setF goP;by_cases e:a=r/\b=c
 .obtain⟨rfl,rfl⟩:=e
  rw[lg ⟨rfl,rfl⟩,lg (by omega)]
 .rw[l8 e]
  by_cases e2:(a:Int)<t+i\/((a:Int)=t+i/\(b:Int)<l+j)
  .rw[lg e2,lg (by omega)]
  .rw[l8 e2,l8 (by omega)]
theorem Kk{N f:PF}{t l:Int}(hN:∀a b:Nat,(a:Int)=t+i->l+n<=b->N a b=f a b)(hM:∀a b:Nat,(a:Int)=t+i+1->(b:Int)<l->N a b=f a b):goP N f t l i n=goP N f t l (i+1) 0:=by
 funext a b
 unfold goP;by_cases e2:(a:Int)<t+i\/((a:Int)=t+i/\(b:Int)<l+n)
 .rw[lg e2,lg (by omega)]
 .rw[l8 e2]
  split
  .rename_i e3
   by_cases e4:(a:Int)=t+i
   .exact(hN a b e4 (by omega)).symm
   .exact(hM a b (by omega) (by omega)).symm
  .rfl
theorem Kl{N f:PF}{t l:Int}(hN:∀a b:Nat,t+n<=a->N a b=f a b):goP N f t l n 0 =N:=by
 funext a b
 unfold goP;split
 .rfl
 .rename_i e
  by_cases e4:t+n<=a
  .exact(hN a b e4).symm
  .exact absurd (.inl (by omega)) e
theorem vA{f:PF}{ink t b l r dn ac:Int}{j:Nat}(h:¬(t<=(i:Int)/\(i:Int)<=b/\l<=(j:Int)/\(j:Int)<=r)):mvP f ink t b l r dn ac i j=f i j:=l8 h
theorem zcn{O:OM}:z6 O (.d (.list ds))=some (ds.map .d):=rfl
theorem zkx{T1 T2 T3 U:TSW}{D:EndsW}{ρ:WS}{O:OM}(J:WS->OM->Prop)(ht:∀R:WS->OM->Prop,(∀ρ' O',J ρ' O'->R ρ' O')->xY T1 (xY T2 T3) { D with nx:=R } ρ O)(hu:∀ρ' O',J ρ' O'->U D ρ' O'):xY T1 (xY T2 (xY T3 U)) D ρ O:=ht (U D) hu
theorem zjf{α:Type}{a b c d:α}:atI [a,b,c,d] (3:Int)=some d:=rfl
theorem Uu{S:ST}(h:Bds S):0<=eL S/\eL S<S.w:=by
 have:=h.l0;have:=h.lr;have:=h.rr;have:=h.w1;unfold eL;split<;>omega
theorem qN{S:ST}(h:Bds S):S.col<=eR S/\eR S<S.w:=by
 have:=h.l0;have:=h.lr;have:=h.rr;have:=h.c1;unfold eR;split<;>omega
theorem Bds.left{S:ST}(h:Bds S):Bds (leftS S):={ h with c0:=(Uu h).1,c1:=(Uu h).2 }
theorem Bds.pic'{S:ST}{f:PF}(h:Bds S):Bds { S with pic:=f }:={ h with }
theorem Bds.late'{S:ST}{b:Bool}(h:Bds S):Bds { S with late:=b }:={ h with }
theorem Bds.roll{S:ST}{a s:Int}(h:Bds S):Bds (rollS a s S):={ h with }
theorem Bds.cells{S:ST}{s:Int}(h:Bds S):Bds (cellsS s S):={ h with }
theorem Bds.lineE{S:ST}(h:Bds S):Bds (lineE S):=by
 have h1:=h.left;unfold L2.lineE;dsimp only;split
 .exact h1.roll
 .split
  .rename_i e1 e2
   exact{ h1 with r0:=by have:=h1.r0;simp only at *;omega,r1:=by simp only at *;omega }
  .exact h1
noncomputable def pA(S:ST):ST:=if S.late=true/\S.wrap=true then lineE S else S
noncomputable def pB(S:ST):ST:={ S with late:=false }
noncomputable def pC(S:ST):ST:=if S.putting=true then cellsS (-1) S else S
noncomputable def pD(c:Str)(S:ST):ST:={ S with pic:=setF S.pic S.row.toNat S.col.toNat (c,S.ink) }
noncomputable def pE(c:Str)(S:ST):ST:={ S with last:=.str c }
noncomputable def pF(S:ST):ST:=if S.col<eR S then{ S with col:=S.col+1 }else{ S with late:=S.wrap }
theorem vq(c:Str)(S:ST):putS0 c S=pF (pE c (pD c (pC (pB (pA S))))):=rfl
theorem Bds.pA{S:ST}(h:Bds S):Bds (pA S):=by unfold L2.pA;split;exact h.lineE;exact h
theorem Bds.pB{S:ST}(h:Bds S):Bds (pB S):=h.late'
theorem Bds.pC{S:ST}(h:Bds S):Bds (pC S):=by unfold L2.pC;split;exact h.cells;exact h
theorem Bds.pD{c:Str}{S:ST}(h:Bds S):Bds (pD c S):=h.pic'
theorem Bds.pF{S:ST}(h:Bds S):Bds (pF S):=by
 unfold L2.pF;split
 .rename_i e
  have:=qN h;exact{ h with c0:=by have:=h.c0;simp only;omega,c1:=by simp only;omega }
 .exact h.late'
end L2
variable {S:L2.ST}{O:L2.OM}{Γ:L2.Gh}
namespace L2
open PySem
abbrev FL:=List (Str×W)
section
variable {a0 a1 a2 a3 a4 a5 a6 a7 a8 a9 a10 a11 a12 a13 a14 a15 v:W}
theorem zle:yu "picture" v []=([("picture",v)]:FL):=rfl
theorem zlf:yu "wide" v [("picture",a0)]=([("picture",a0),("wide",v)]:FL):=rfl
theorem zlg:yu "high" v [("picture",a0),("wide",a1)]=([("picture",a0),("wide",a1),("high",v)]:FL):=rfl
theorem zlh:yu "row" v [("picture",a0),("wide",a1),("high",a2)]=([("picture",a0),("wide",a1),("high",a2),("row",v)]:FL):=rfl
theorem zli:yu "column" v [("picture",a0),("wide",a1),("high",a2),("row",a3)]=([("picture",a0),("wide",a1),("high",a2),("row",a3),("column",v)]:FL):=rfl
theorem zlj:yu "late" v [("picture",a0),("wide",a1),("high",a2),("row",a3),("column",a4)]=([("picture",a0),("wide",a1),("high",a2),("row",a3),("column",a4),("late",v)]:FL):=rfl
theorem zlk:yu "ink" v [("picture",a0),("wide",a1),("high",a2),("row",a3),("column",a4),("late",a5)]=([("picture",a0),("wide",a1),("high",a2),("row",a3),("column",a4),("late",a5),("ink",v)]:FL):=rfl
theorem zll:yu "wrap" v [("picture",a0),("wide",a1),("high",a2),("row",a3),("column",a4),("late",a5),("ink",a6)]=([("picture",a0),("wide",a1),("high",a2),("row",a3),("column",a4),("late",a5),("ink",a6),("wrap",v)]:FL):=rfl
theorem zlm:yu "putting" v [("picture",a0),("wide",a1),("high",a2),("row",a3),("column",a4),("late",a5),("ink",a6),("wrap",a7)]=([("picture",a0),("wide",a1),("high",a2),("row",a3),("column",a4),("late",a5),("ink",a6),("wrap",a7),("putting",v)]:FL):=rfl
theorem zln:yu "home" v [("picture",a0),("wide",a1),("high",a2),("row",a3),("column",a4),("late",a5),("ink",a6),("wrap",a7),("putting",a8)]=([("picture",a0),("wide",a1),("high",a2),("row",a3),("column",a4),("late",a5),("ink",a6),("wrap",a7),("putting",a8),("home",v)]:FL):=rfl
theorem zky:yu "top" v [("picture",a0),("wide",a1),("high",a2),("row",a3),("column",a4),("late",a5),("ink",a6),("wrap",a7),("putting",a8),("home",a9)]=([("picture",a0),("wide",a1),("high",a2),("row",a3),("column",a4),("late",a5),("ink",a6),("wrap",a7),("putting",a8),("home",a9),("top",v)]:FL):=rfl
theorem zkz:yu "bottom" v [("picture",a0),("wide",a1),("high",a2),("row",a3),("column",a4),("late",a5),("ink",a6),("wrap",a7),("putting",a8),("home",a9),("top",a10)]=([("picture",a0),("wide",a1),("high",a2),("row",a3),("column",a4),("late",a5),("ink",a6),("wrap",a7),("putting",a8),("home",a9),("top",a10),("bottom",v)]:FL):=rfl
theorem zkA:yu "left" v [("picture",a0),("wide",a1),("high",a2),("row",a3),("column",a4),("late",a5),("ink",a6),("wrap",a7),("putting",a8),("home",a9),("top",a10),("bottom",a11)]=([("picture",a0),("wide",a1),("high",a2),("row",a3),("column",a4),("late",a5),("ink",a6),("wrap",a7),("putting",a8),("home",a9),("top",a10),("bottom",a11),("left",v)]:FL):=rfl
theorem zkB:yu "right" v [("picture",a0),("wide",a1),("high",a2),("row",a3),("column",a4),("late",a5),("ink",a6),("wrap",a7),("putting",a8),("home",a9),("top",a10),("bottom",a11),("left",a12)]=([("picture",a0),("wide",a1),("high",a2),("row",a3),("column",a4),("late",a5),("ink",a6),("wrap",a7),("putting",a8),("home",a9),("top",a10),("bottom",a11),("left",a12),("right",v)]:FL):=rfl
theorem zfZ:yu "stops" v [("picture",a0),("wide",a1),("high",a2),("row",a3),("column",a4),("late",a5),("ink",a6),("wrap",a7),("putting",a8),("home",a9),("top",a10),("bottom",a11),("left",a12),("right",a13)]=([("picture",a0),("wide",a1),("high",a2),("row",a3),("column",a4),("late",a5),("ink",a6),("wrap",a7),("putting",a8),("home",a9),("top",a10),("bottom",a11),("left",a12),("right",a13),("stops",v)]:FL):=rfl
theorem zf0:yu "kept" v [("picture",a0),("wide",a1),("high",a2),("row",a3),("column",a4),("late",a5),("ink",a6),("wrap",a7),("putting",a8),("home",a9),("top",a10),("bottom",a11),("left",a12),("right",a13),("stops",a14)]=([("picture",a0),("wide",a1),("high",a2),("row",a3),("column",a4),("late",a5),("ink",a6),("wrap",a7),("putting",a8),("home",a9),("top",a10),("bottom",a11),("left",a12),("right",a13),("stops",a14),("kept",v)]:FL):=rfl
theorem zkC:yu "last" v [("picture",a0),("wide",a1),("high",a2),("row",a3),("column",a4),("late",a5),("ink",a6),("wrap",a7),("putting",a8),("home",a9),("top",a10),("bottom",a11),("left",a12),("right",a13),("stops",a14),("kept",a15)]=([("picture",a0),("wide",a1),("high",a2),("row",a3),("column",a4),("late",a5),("ink",a6),("wrap",a7),("putting",a8),("home",a9),("top",a10),("bottom",a11),("left",a12),("right",a13),("stops",a14),("kept",a15),("last",v)]:FL):=rfl
theorem zat:List.lookup (Str.ofString "begin") [("picture",a0),("wide",a1),("high",a2)]=none:=rfl
theorem zau:List.lookup (Str.ofString "high") [("picture",a0),("wide",a1),("high",a2),("row",a3),("column",a4),("late",a5),("ink",a6),("wrap",a7),("putting",a8),("home",a9),("top",a10)]=some a2:=rfl
theorem zav:List.lookup (Str.ofString "wide") [("picture",a0),("wide",a1),("high",a2),("row",a3),("column",a4),("late",a5),("ink",a6),("wrap",a7),("putting",a8),("home",a9),("top",a10),("bottom",a11),("left",a12)]=some a1:=rfl
theorem zaw:List.lookup (Str.ofString "wide") [("picture",a0),("wide",a1),("high",a2),("row",a3),("column",a4),("late",a5),("ink",a6),("wrap",a7),("putting",a8),("home",a9),("top",a10),("bottom",a11),("left",a12),("right",a13)]=some a1:=rfl
end
end L2
namespace L2
open PySem PySem.Spec PyProof.Rows
theorem zco{κ α:Type}[DecidableEq κ]{kvs:List (κ×α)}{k:κ}{v:α}(h:k∉kvs.map (·.1)):uU kvs k v=kvs++[(k,v)]:=by
 unfold uU;rw[l8];intro e;rw[List.any_eq_true]at e;obtain⟨kv,h1,h2⟩:=e;exact h (lJ.mpr ⟨kv,h1,by simpa using h2⟩)
theorem Xd{κ α:Type}[DecidableEq κ]:∀{more kvs:List (κ×α)},((kvs++more).map (·.1)).Nodup->qj kvs more=kvs++more
 |[],kvs,_=>by simp[qj]
 |(k,v)::more,kvs,h=>by
  have hk:k∉kvs.map (·.1):=by
   intro m;rw[m9,List.nodup_append]at h;exact h.2.2 k m k (by simp) rfl
  show qj (uU kvs k v) more=_;rw[zco hk,Xd (by simpa using h)];simp
theorem r3w{w:Nat}(h1:1<=w)(h2:w<=24):R3 4 w 4 ((w-1) / 4):=by
 have e:∀n:_root_.Fin 25,1<=n.val->(4:Int)≠0/\Builtin.Range.small 4 ((n.val:Nat):Int) 4 =true/\Builtin.Range.rangeSize 4 ((n.val:Nat):Int) 4 =(((n.val-1) / 4:Nat))/\Builtin.divisionGoesByPylong (((n.val:Nat):Int)-4) 4 =false:=by decide +kernel
 exact e ⟨w,by omega⟩ h1
theorem zex{w:Nat}(h2:w<=24):((stopsW w).map (·.1)).Nodup:=by
 have e:∀n:_root_.Fin 25,((List.range ((n.val-1) / 4)).map λi=>(Sum.inl (4+(i:Nat)*4:Int):Key)).Nodup:=by decide +kernel
 have:=e ⟨w,by omega⟩;unfold stopsW stK stopsI;rw[lM,lM];exact this
def zcp(K:W.Frag):List V->Hp->VK->Prop:=zbZ K
theorem zg9(hK:X.K=K)(hc:X.calm=true):yw X (.type "dict") (zcp K):=by subst hK;exact zaf hc
noncomputable def vH:List PyData->Option (List (Key×PyData))
 |[]=>some []
 |.tuple [.int i,v]::r=>(vH r).map ((Sum.inl i,v) :: ·)
 |.tuple [.str i,v]::r=>(vH r).map ((Sum.inr i,v) :: ·)
 |_=>none
theorem j8:∀{ds:List PyData}{kvs:List (Key×PyData)}{vs:List V},vH ds=some kvs->Reps K Γ.Z ds vs->∃us:List (Key×V),Y4 K Γ.Z vs us/\yx K Γ (kvs.map λkv=>(kv.1,W.d kv.2)) us
 |[],kvs,vs,e,h=>by
  cases e;rw[show vs=[]from h];exact⟨[],.nil,.nil⟩
 |d::ds,kvs,vs,e,h=>by
  obtain⟨x,r,rfl,h1,h2⟩:=h;unfold vH at e;split at e
  .rename_i heq;cases heq
  .rename_i i v r' heq
   cases heq;cases hp:vH ds with
   |none=>rw[hp]at e;cases e
   |some k2=>
    rw[hp]at e;cases e;obtain⟨us,q1,q2⟩:=j8 hp h2;obtain⟨a,xs,rfl,s1,y1,r1,e1,s2,y2,r2,e2,s3,e3⟩:=h1;subst e1 e2;rw[show r2=[]from e3]at s1;rw[show y1=.int i from s2]at s1;exact⟨(Sum.inl i,y2)::us,.cons ⟨a,rfl,s1⟩ q1,.cons ⟨rfl,s3⟩ q2⟩
  .rename_i i v r' heq
   cases heq;cases hp:vH ds with
   |none=>rw[hp]at e;cases e
   |some k2=>
    rw[hp]at e;cases e;obtain⟨us,q1,q2⟩:=j8 hp h2;obtain⟨a,xs,rfl,s1,y1,r1,e1,s2,y2,r2,e2,s3,e3⟩:=h1;subst e1 e2;rw[show r2=[]from e3]at s1;rw[show y1=.str i from s2]at s1;exact⟨(Sum.inr i,y2)::us,.cons ⟨a,rfl,s1⟩ q1,.cons ⟨rfl,s3⟩ q2⟩
  .cases e
def zcq:List W->OM->WK->Prop:=λxs O R=>∃w ds kvs,xs=[w]/\z6 O w=some (ds.map .d)/\vH ds=some kvs/\kvs.length<=1000/\∀p,O p=none->R (.own p) (updO O p (.dK (qj [] (kvs.map λkv=>(kv.1,.d kv.2)))))
theorem zha:RefC K (zcp K) zcq:=by
 rintro Γ O H xs vs S rs Q R ⟨w,ds,kvs,rfl,e,ep,hl,h⟩ k;cases rs with
 |cons rx t=>
  cases t;obtain⟨a,ys,rfl,q1,q2⟩:=yt S rx e;obtain⟨us,p1,p2⟩:=j8 ep (ya q2);refine⟨a,ys,us,rfl,q1,p1.keep λb xs hb=>hb.same S.z,by rw[<-lF p2,l6];exact hl,λp hp=>?_⟩;have S':=S.newO hp (o:=.dK (xK [] us)) (oo:=.dK _) (by intro _ h;cases h) ⟨_,zW,Yk p2 .nil⟩;exact k _ _ _ _ _ (Le.refl _) S' xm (h p (S.free hp).2.1)
def zf1(K:W.Frag):List V->Hp->VK->Prop:=zfE K
theorem zhb(hK:X.K=K):yw X (.builtin "sorted") (zf1 K):=by subst hK;exact UV
theorem j9{Z:Hp}:∀ns:List Int,Reps K Z (ns.map PyData.int) (ns.map V.int)
 |[]=>rfl
 |n::ns=>⟨_,_,rfl,rfl,j9 ns⟩
theorem Xe{kvs:List (Key×W)}{vs:List (Key×V)}(h:yx K Γ kvs vs):kvs.map (·.1)=vs.map (·.1):=by
 unfold yx at h
 induction h with
 |nil=>rfl
 |cons a b ih=>rw[lG,lG,a.1,ih]
def zf2:List W->OM->WK->Prop:=λxs O R=>∃w,∃ns:List Int,xs=[w]/\z6 O w=some ((ns.map .int).map .d)/\ns.length<64/\R (.d (.list ((srt ns).map .int))) O
theorem Zh{Z:Hp}:∀{ns:List Int}{vs:List V},Reps K Z (ns.map PyData.int) vs->vs=ns.map V.int
 |[],_,h=>h
 |n::ns,_,h=>by
  obtain⟨x,r,rfl,h1,h2⟩:=h;rw[show x=V.int n from h1,Zh h2];rfl
theorem zkD:RefC K (zf1 K) zf2:=by
 rintro Γ O H xs vs S rs Q R ⟨w,ns,rfl,e,hl,h⟩ k;cases rs with
 |cons rx t=>
  cases t;obtain⟨a,us,rfl,q1,q2⟩:=yt S rx e;have hu:=Zh (ya q2);subst hu;refine⟨a,ns,rfl,q1,hl,λp hp=>?_⟩;obtain⟨Γ',l',S',r'⟩:=qi S (j9 (srt ns)) hp;exact k _ _ _ _ _ l' S' r' h
theorem RefR.weak{r:R2}{rw rw':R2W}(h:RefR K r rw)(imp:∀x y O R,rw' x y O R->rw x y O R):RefR K r rw':=λΓ O H x y v u S rx ry Q R hT k=>h Γ O H x y v u S rx ry Q R (imp _ _ _ _ hT) k
theorem RefC.weak{r:List V->Hp->VK->Prop}{rw rw':List W->OM->WK->Prop}(h:RefC K r rw)(imp:∀x O R,rw' x O R->rw x O R):RefC K r rw':=λΓ O H xs vs S rs Q R hT k=>h Γ O H xs vs S rs Q R (imp _ _ _ hT) k
def yk(i:Nat):TEW:=λρ O R=>match ρ[i]? with
 |some (some w)=>R w O
 |_=>False
theorem zcr :RefE K (KQ i) (yk i):=fun Γ O H ρ σ S r Q R hT k=>zgH Γ O H ρ σ S r Q R (by
  unfold yk at hT;split at hT
  · rename_i w e;exact⟨w,e,hT⟩
  · exact hT.elim) k
def vI0(g:Int->Int->V):R2W:=λx y O R=>match x,y with
 |.d (.int i),.d (.int j)=>R (ofV (g i j)) O
 |_,_=>False
def vI(C:Int->Int->Prop)(g:Int->Int->V):R2W:=λx y O R=>match x,y with
 |.d (.int i),.d (.int j)=>C i j/\R (ofV (g i j)) O
 |_,_=>False
theorem zkE{g:Int->Int->V}(hg:∀i j,scV (g i j)=true:=by intro _ _;rfl):RefR K (rI0 g) (vI0 g):=(zk6 hg).weak λx y O R h=>by
 unfold vI0 at h;split at h
 .exact⟨_,_,rfl,rfl,h⟩
 .exact h.elim
theorem zlo{C:Int->Int->Prop}{g:Int->Int->V}(hg:∀i j,scV (g i j)=true:=by intro _ _;rfl):RefR K (rI C g) (vI C g):=(r_I hg).weak λx y O R h=>by
 unfold vI at h;split at h
 .exact⟨_,_,rfl,rfl,h⟩
 .exact h.elim
def vU(g:Int->V):W->OM->WK->Prop:=λx O R=>match x with
 |.d (.int i)=>R (ofV (g i)) O
 |_=>False
theorem zlp {g:Int->V}(hg:∀ i,scV (g i)=true:=by intro _;rfl):RefU K (rU g) (vU g):=fun Γ O H x v S rx Q R h k=>r_U hg Γ O H x v S rx Q R (by
  unfold vU at h;split at h
  · exact⟨_,rfl,h⟩
  · exact h.elim) k
def vEq:R2W:=λx y O R=>match x,y with
 |.d (.int i),.d (.int j)=>R (.d (.bool (decide (i=j)))) O
 |.d a,.d b=>scD a=true/\scD b=true/\Ys (vOf a) (vOf b)=true/\R (.d (.bool (decide (vOf a=vOf b)))) O
 |_,_=>False
def vNe:R2W:=λx y O R=>match x,y with
 |.d (.int i),.d (.int j)=>R (.d (.bool (!decide (i=j)))) O
 |.d a,.d b=>scD a=true/\scD b=true/\Ys (vOf a) (vOf b)=true/\R (.d (.bool (!decide (vOf a=vOf b)))) O
 |_,_=>False
theorem zkF:RefR K rEq vEq:=zk7.weak λx y O R h=>by
 unfold vEq at h;split at h
 .rename_i i j
  have e:decide (vOf (.int i)=vOf (.int j))=decide (i=j):=by simp[vOf]
  exact⟨.int i,.int j,rfl,rfl,rfl,rfl,rfl,by rw[e];exact h⟩
 .exact⟨_,_,rfl,rfl,h⟩
 .exact h.elim
theorem zkG:RefR K rNe vNe:=zk8.weak λx y O R h=>by
 unfold vNe at h;split at h
 .rename_i i j
  have e:decide (vOf (.int i)=vOf (.int j))=decide (i=j):=by simp[vOf]
  exact⟨.int i,.int j,rfl,rfl,rfl,rfl,rfl,by rw[e];exact h⟩
 .exact⟨_,_,rfl,rfl,h⟩
 .exact h.elim
def zax:R2W:=λx y O R=>match y with
 |.d .none=>R (.d (.bool (ul x))) O
 |_=>False
def Uv:R2W:=λx y O R=>match y with
 |.d .none=>R (.d (.bool (!ul x))) O
 |_=>False
theorem zjg:RefR K (λx y H Q=>y=.non/\Q (.bl (decide (x=.non))) H) zax:=zko.weak λx y O R h=>by
 unfold zax at h;split at h
 .exact⟨rfl,h⟩
 .exact h.elim
theorem zhc:RefR K (λx y H Q=>y=.non/\Q (.bl (!decide (x=.non))) H) Uv:=ziK.weak λx y O R h=>by
 unfold Uv at h;split at h
 .exact⟨rfl,h⟩
 .exact h.elim
def zey:R2W:=λx y O R=>match y with
 |.d (.int i)=>∃ws,z6 O x=some ws/\∃w,atI ws i=some w/\R w O
 |_=>False
theorem zjh:RefR K (K8 K) zey:=zkq.weak λx y O R h=>by
 unfold zey at h;split at h
 .obtain⟨ws,e,w,e2,h⟩:=h
  exact⟨ws,_,w,rfl,e,e2,h⟩
 .exact h.elim
def xz(T:TEW):TTW:=λρ O R=>T ρ O λx O1=>match x with
 |.d (.bool k)=>R k O1
 |_=>False
theorem Km{t:TE}{T:TEW}(h:RefE K t T):xy K (Uo t) (xz T):=by
 intro Γ O H ρ σ S r0 Q R hT k;refine h Γ O H ρ σ S r0 _ _ hT λΓ1 O1 H1 x v l1 S1 rx h1=>?_;split at h1
 .exact⟨_,rx,k _ _ _ _ l1 S1 h1⟩
 .exact h1.elim
theorem zkH{t:TE}{T:TEW}(h:RefE K t T):xy K (tB t) (xz T):=Km h
def Qh(r r':R2W)(Ta Tb Tc:TEW):TEW:=λρ O R=>Ta ρ O λx O1=>Tb ρ O1 λy O2=>r x y O2 λz O3=>match z with
 |.d (.bool k)=>if k=true then Tc ρ O3 λw O4=>r' y w O4 R else R (.d (.bool false)) O3
 |_=>False
theorem zez{r r':R2}{rw rw':R2W}{tb tc:TE}{Ta Tb Tc:TEW}(hr:RefR K r rw)(hr':RefR K r' rw')(ha:RefE K ta Ta)(hb:RefE K tb Tb)(hc:RefE K tc Tc):RefE K (UD r r' ta tb tc) (Qh rw rw' Ta Tb Tc):=by
 intro Γ O H ρ σ S r0 Q R h k;refine ha Γ O H ρ σ S r0 _ _ h λΓ1 O1 H1 x v l1 S1 rx h1=>?_;refine hb Γ1 O1 H1 ρ σ S1 (r0.mono l1) _ _ h1 λΓ2 O2 H2 y u l2 S2 ry h2=>?_;refine hr Γ2 O2 H2 x y v u S2 (rx.mono l2) ry _ _ h2 λΓ3 O3 H3 w z l3 S3 rz h3=>?_;split at h3
 .rename_i c
  refine⟨c,rz,?_⟩;have l13:=(l1.trans l2).trans l3;cases c with
  |true=>
   rw[lg rfl]at h3 ⊢;refine hc _ _ _ _ _ S3 (r0.mono l13) _ _ h3 λΓ4 O4 H4 q z4 l4 S4 r4 h4=>?_;exact hr' _ _ _ _ _ _ _ S4 (ry.mono (l3.trans l4)) r4 _ _ h4 λΓ5 O5 H5 w5 z5 l5 S5 r5 h5=>k _ _ _ _ _ ((l13.trans l4).trans l5) S5 r5 h5
  |false=>rw[l8 (by decide)]at h3 ⊢;exact k _ _ _ _ _ l13 S3 yX h3
 .exact h3.elim
def xi(K:W.Frag)(Ta:TEW)(f:Str):TEW:=λρ O R=>Ta ρ O λx O1=>match x with
 |.own a=>∃C dx fs,O1 a=some (.ins C dx fs)/\Cls K C/\NoAttr K C f/\∃w,fs.lookup f=some w/\R w O1
 |_=>False
theorem Qi{Ta:TEW}{f:Str}(ha:RefE K ta Ta):RefE K (K4 K ta f) (xi K Ta f):=by
 intro Γ O H ρ σ S r0 Q R hT k;refine ha Γ O H ρ σ S r0 _ _ hT λΓ1 O1 H1 x v l1 S1 rx h1=>?_;split at h1
 .obtain⟨C,dx,fs,ho,c,na,w,e,h1⟩:=h1
  obtain⟨_,vs,q1,q2⟩:=S1.o _ _ ho;obtain⟨u,e',ru⟩:=(Y8 q2).2 w e;exact⟨_,C,dx,vs,u,rx,q1,c,na,e',k _ _ _ _ _ l1 S1 ru h1⟩
 .exact h1.elim
def Uw(K:W.Frag)(Ta Tv:TEW)(f:Str):TSW:=λD ρ O=>Tv ρ O λy O1=>Ta ρ O1 λx O2=>match x with
 |.own a=>∃C dx fs,O2 a=some (.ins C dx fs)/\Cls K C/\NoAttr K C f/\fs.length<1000/\D.nx ρ (updO O2 a (.ins C dx (yu f y fs)))
 |_=>False
theorem zhd{tv:TE}{Ta Tv:TEW}{f:Str}(ha:RefE K ta Ta)(hv:RefE K tv Tv):RefS K (K5 K ta tv f) (Uw K Ta Tv f):=by
 intro Γ O H ρ σ D DW S r0 hT e;refine hv Γ O H ρ σ S r0 _ _ hT λΓ1 O1 H1 y u l1 S1 ry h1=>?_;refine ha _ _ _ _ _ S1 (r0.mono l1) _ _ h1 λΓ2 O2 H2 x v l2 S2 rx h2=>?_;split at h2
 .obtain⟨C,dx,fs,ho,c,na,hl,h2⟩:=h2
  obtain⟨_,vs,q1,q2⟩:=S2.o _ _ ho;refine⟨_,C,dx,vs,rx,q1,c,na,by rw[<-lF q2];exact hl,?_⟩;exact e.nx _ _ _ _ _ (l1.trans l2) (S2.put (oo:=.ins C dx _) ho (by intro _ h;cases h) (by intro _ h;cases h) ⟨_,zW,zao (ry.mono l2) q2⟩) (r0.mono (l1.trans l2)) h2
 .exact h2.elim
def zcs(Td Ty:TEW):TEW:=λρ O R=>Td ρ O λx O1=>Ty ρ O1 λy O2=>match x,Zd y with
 |.own a,some k=>∃kvs,O2 a=some (.dK kvs)/\∃w,Ze kvs k=some w/\R w O2
 |_,_=>False
def Qj(Td Ty Tv:TEW):TSW:=λD ρ O=>Tv ρ O λw O1=>Td ρ O1 λx O2=>Ty ρ O2 λy O3=>match x,Zd y with
 |.own a,some k=>∃kvs,O3 a=some (.dK kvs)/\kvs.length<1000/\D.nx ρ (updO O3 a (.dK (uU kvs k w)))
 |_,_=>False
theorem zeA{td ty tv:TE}{Td Ty Tv:TEW}(hd:RefE K td Td)(hy:RefE K ty Ty)(hv:RefE K tv Tv):RefS K (zb4 td ty tv) (Qj Td Ty Tv):=by
 intro Γ O H ρ σ D DW S r0 hT e;refine hv Γ O H ρ σ S r0 _ _ hT λΓ1 O1 H1 w z l1 S1 rw h1=>?_;refine hd _ _ _ _ _ S1 (r0.mono l1) _ _ h1 λΓ2 O2 H2 x v l2 S2 rx h2=>?_;refine hy _ _ _ _ _ S2 (r0.mono (l1.trans l2)) _ _ h2 λΓ3 O3 H3 y u l3 S3 ry h3=>?_;split at h3
 .rename_i ky ek
  obtain⟨kvs,ho,hl,h3⟩:=h3;obtain⟨_,vs,q1,q2⟩:=S3.o _ _ ho;refine⟨_,vs,ky,rx,q1,XV ry ek,by rw[<-lF q2];exact hl,?_⟩;have l13:=(l1.trans l2).trans l3;exact e.nx _ _ _ _ _ l13 (S3.put (oo:=.dK _) ho (by intro _ h;cases h) (by intro _ h;cases h) ⟨_,zW,VM ((rw.mono l2).mono l3) q2⟩) (r0.mono l13) h3
 .exact h3.elim
def vI2(g:Int->Int->Int):List W->OM->WK->Prop:=λxs O R=>match xs with
 |[.d (.int i),.d (.int j)]=>R (.d (.int (g i j))) O
 |_=>False
theorem zkI{g:Int->Int->Int}:RefC K (λxs H Q=>∃i j,xs=[.int i,.int j]/\Q (.int (g i j)) H) (vI2 g):=zlb.weak λx O R h=>by
 unfold vI2 at h;split at h
 .exact⟨_,_,rfl,h⟩
 .exact h.elim
end L2
namespace PySem
open Sem (wp)
section
variable {z TI TO i1 i2:Addr}{fp1 fp2:List Addr}{n1 n2:Nat}{P1 P2:Nat->Value->Prop}{St1 St2:Nat->Heap->Prop}
end
end PySem
namespace L2
open PySem PySem.Spec PyProof.Rows
theorem Zi:∀{zs:List Str}{us:List Value},Vals (zs.map V.str) us->StrsAre us zs
 |[],_,.nil=>.nil
 |z::zs,_,.cons r t=>by
  obtain⟨k,rfl⟩:=r;exact .cons z k (Zi t)
def zay(K:W.Frag):V->List V->Hp->VK->Prop:=λx xs H Q=>∃sep a zs,x=.str sep/\xs=[.ref a]/\SqL K H a (zs.map .str)/\sep.length<=16/\(zs.map (·.length)).sum+zs.length<=1048576/\Q (.str (Txt.join sep zs)) H
theorem zhe:MtR X "str.join" (zay X.K):=by
 intro pins s σ H x xs v us Q I rx r h;obtain⟨sep,a,zs,rfl,rfl,hq,hs,hw,q⟩:=h;obtain⟨u,rfl,ru⟩:=r.one;cases ru;obtain⟨t,rfl⟩:=rx;obtain⟨its,rv,p,hz⟩:=I.list hq;exact join_listW p.isList (Zi rv) hs hw λt' k=>⟨.str _,H,I.tok _,⟨_,rfl⟩,q⟩
theorem Zj:∀{bs:List Bool}{us:List Value}{i:Nat}{v:Value},Vals (bs.map V.bl) us->us[i]? =some v->∃b,bs[i]? =some b/\v=.bool b
 |[],_,_,_,.nil,e=>by simp at e
 |b::bs,_,0,v,.cons r t,e=>⟨b,rfl,by simp at e;subst e;exact r⟩
 |b::bs,_,i+1,v,.cons r t,e=>by
  simp only[List.getElem?_cons_succ]at e ⊢;exact Zj t e
theorem zaz(bs:List Bool):((List.range bs.length).any λi=>(bs[i]?).getD false)=bs.any id:=by
 induction bs with
 |nil=>rfl
 |cons b bs ih=>simp only[lL,List.range_succ_eq_map,mF,List.any_map];rw[<-ih];rfl
theorem zaA(bs:List Bool):((List.range bs.length).all λi=>(bs[i]?).getD true)=bs.all id:=by
 induction bs with
 |nil=>rfl
 |cons b bs ih=>simp only[lL,List.range_succ_eq_map,List.all_cons,List.all_map];rw[<-ih];rfl
def zeB(K:W.Frag):List V->Hp->VK->Prop:=λxs H Q=>∃a,∃bs:List Bool,xs=[.ref a]/\SqL K H a (bs.map .bl)/\Q (.bl (bs.any id)) H
def zeC(K:W.Frag):List V->Hp->VK->Prop:=λxs H Q=>∃a,∃bs:List Bool,xs=[.ref a]/\SqL K H a (bs.map .bl)/\Q (.bl (bs.all id)) H
theorem zct(hc:X.calm=true):yw X (.builtin "any") (zeB X.K):=by
 intro pins s σ H xs us Q I r h;obtain⟨a,bs,rfl,hq,q⟩:=h;obtain⟨u,rfl,ru⟩:=r.one;cases ru;obtain⟨its,rv,p,hz⟩:=I.list hq;have hl:=p.isList;have hlt:a<s.heap.objs.size:=by obtain⟨_,e,_⟩:=hl;exact lq e
 have len:=rv.length;rw[l6]at len;refine call_any_walk (wpAny_pyIter_list hl ?_);refine⟨_,_,_,_,_,_,λi=>(bs[i]?).getD false,rfl,Walks.list (A:=X.A.in1) (I.ok.hd hc) _ a (lu hlt) _,⟨⟨_,ly _ rfl,rfl,rfl⟩,hl.push _⟩,λi v s1 Q1 E1 hP hQ=>?_,λh1 tk hk=>?_⟩
 .obtain⟨b,e,rfl⟩:=Zj rv (by simpa using hP)
  simp only[e,Option.getD_some]at hQ;exact m8 hQ
 .have e:=zaz bs
  rw[len]at e;rw[show((List.range its.toArray.size).any λi=>(bs[i]?).getD false)=bs.any id by simpa using e];exact⟨.bl _,H,I.kept (t':=tk) (LSm.kept_iter hk),rfl,q⟩
theorem zcu(hc:X.calm=true):yw X (.builtin "all") (zeC X.K):=by
 intro pins s σ H xs us Q I r h;obtain⟨a,bs,rfl,hq,q⟩:=h;obtain⟨u,rfl,ru⟩:=r.one;cases ru;obtain⟨its,rv,p,hz⟩:=I.list hq;have hl:=p.isList;have hlt:a<s.heap.objs.size:=by obtain⟨_,e,_⟩:=hl;exact lq e
 have len:=rv.length;rw[l6]at len;refine call_all_walk (wpAny_pyIter_list hl ?_);refine⟨_,_,_,_,_,_,λi=>(bs[i]?).getD true,rfl,Walks.list (A:=X.A.in1) (I.ok.hd hc) _ a (lu hlt) _,⟨⟨_,ly _ rfl,rfl,rfl⟩,hl.push _⟩,λi v s1 Q1 E1 hP hQ=>?_,λh1 tk hk=>?_⟩
 .obtain⟨b,e,rfl⟩:=Zj rv (by simpa using hP)
  simp only[e,Option.getD_some]at hQ;exact m8 hQ
 .have e:=zaA bs
  rw[len]at e;rw[show((List.range its.toArray.size).all λi=>(bs[i]?).getD true)=bs.all id by simpa using e];exact⟨.bl _,H,I.kept (t':=tk) (LSm.kept_iter hk),rfl,q⟩
theorem zcv:yw X (.type "int") (λxs H Q=>∃z n,xs=[.str z]/\intText? z=some n/\z.length<=640/\Q (.int n) H):=by
 intro pins s σ H xs us Q I r h;obtain⟨z,n,rfl,hn,hl,q⟩:=h;obtain⟨u,rfl,t,rfl⟩:=jR r;exact PySem.W.KIN.call_text hn hl ⟨.int n,H,I.tok _,⟨_,rfl⟩,q⟩
noncomputable def Its(x:Str):It:=⟨λi _=>i<x.cps.size,λi H v H'=>H'=H/\∃c,x.cps[i]? =some c/\v=.str ⟨#[c]⟩,λi _=>x.cps.size<=i⟩
theorem zaB(x:Str)(t:Tok)(it:Addr):Turn P w K tg (Its x) [it] it (λi h=>h.IsStrIter it "str_ascii_iterator" x t i) where
 mem:=lh.mpr rfl
 obj:=λi h st b hb=>by
  cases lh.mp hb;obtain⟨o,e,c,d⟩:=st;exact⟨o,e,λv z=>by rw[d]at z;cases z⟩
 keep:=λi h h' st k=>let⟨o,ho,r⟩:=st;⟨o,k it (lh.mpr rfl) o ho,r⟩
 item:=by
  intro X hP hw hK hc i pins s σ H E I hf st hg;subst hP hw hK;obtain⟨f0,f1,f2,f3,f4,f5⟩:=hf it (lh.mpr rfl);have hi:i<x.cps.size:=hg;refine wpAny_pyNext_ascii_item st (c:=x.cps[i]) (by simp[hi]) λh1 st1 sb=>?_;have I1:Inv X pins σ H { s with heap:=h1,toks:=s.toks+1 }:=I.turned (t':=s.toks+1) (λb o hb e=>(sb.2 b hb).trans e) f0 f1 f3 f4 f5;obtain⟨o,e,c,d⟩:=id st1;exact⟨_,rfl,ZW (s:={ s with heap:=h1,toks:=s.toks+1 }) e c d (by decide) ⟨.str ⟨#[x.cps[i]]⟩,H,I1,⟨_,rfl⟩,⟨rfl,_,by simp[hi],rfl⟩,st1,λb hb=>(hf b hb).1⟩⟩
 done:=by
  intro X hP hw hK hc i pins s σ H E I hf st hg;subst hP hw hK;obtain⟨f0,f1,f2,f3,f4,f5⟩:=hf it (lh.mpr rfl);have hi:x.cps.size<=i:=hg;exact wpAny_pyNext_ascii_end (I.ok.hd hc) st (by simp[hi]) λh1 eb=>⟨rfl,I.turned (t':=s.toks) (λb o hb e=>eb b o hb e) f0 f1 f3 f4 f5⟩
 self:=λ_ _ _ _ _ st h=>wpAny_pyIter_striter_ascii st h
def zji(tl:TE):TI:=λσ H R=>tl σ H λv H1=>∃x,v=.str x/\x.cps.all (· < 128)=true/\R (Its x) H1
theorem zjj{l:Expr}{tl:TE}(hl:PE X l tl):PI X tg l (zji tl):=by
 intro pins s σ H R I h;refine thn (hl pins s σ H _ I h) λv s1 ⟨y,H1,I1,r1,q1⟩=>?_;obtain⟨x,rfl,ha,q⟩:=q1;obtain⟨t,rfl⟩:=r1;refine wpAny_pyIter_ascii ha ⟨s1.heap.objs.size,[s1.heap.objs.size],_,_,H1,rfl,I1.kept (t':=s1.toks) λb o e=>l9 _ e,zaB x t _,⟨_,ly _ rfl,rfl,rfl⟩,λb hb=>?_,q⟩;cases lh.mp hb;exact I1.fpOk (lp _) (I1.hok.fresh (lp _))
def zcw:V->List V->Hp->VK->Prop:=λx xs H Q=>∃z y,x=.str z/\xs=[.str y]/\(y.length==0)=false/\z.length<=1000000/\∀p,H p=none->Q (.ref p) (upd H p (.lst ((Txt.split z y).map .str)))
theorem VP:∀{l:List (Str×Tok)}{zs:List Str},l.map (·.1)=zs->Vals (zs.map V.str) (strValues l)
 |[],_,rfl=>.nil
 |(z,t)::l,_,rfl=>.cons ⟨t,rfl⟩ (VP rfl)
theorem zeD:MtR X "str.split" zcw:=by
 intro pins s σ H x xs v us Q I rx r h;obtain⟨z,y,rfl,rfl,hy,hz,q⟩:=h;obtain⟨u,rfl,t,rfl⟩:=jR r;obtain⟨t',rfl⟩:=rx;have hsz:z.length<=sizeLine:=by rw[lS];omega
 have hsp:=split_le z y;have fin:∀(l:List (Str×Tok)) (k:Tok),l.map (·.1)=Txt.split z y->EP X pins σ Q (.ref s.heap.objs.size) { s with toks:=k,heap:=s.heap.push { cls:=.type "list",data:=.seq (strValues l).toArray } }:=λl k e=>by
  have len:((Txt.split z y).map V.str).length<=sizeLine:=by rw[l6,lS];omega
  exact⟨.ref s.heap.objs.size,_,I.laid (t':=k) (o:=.lst ((Txt.split z y).map .str)) (λb ob g=>l9 _ g) (lp _) ⟨len,strValues l,0,VP e,ly _ rfl⟩,rfl,q _ (I.hok.fresh (lp _))⟩
 cases h1:(decide (z.length<y.length)||decide (Builtin.Str.strKind z<Builtin.Str.strKind y))with
 |true=>
  have e:[z]=Txt.split z y:=(lg h1).symm;refine call_meets PySem.F.slot_str_split (typeIs_str _ _ _) PySem.F.entry_str_split ?_ (meets_str_split_cannot_occur z y t' t h1) ?_
  .exact PySem.F.args_str_split_2 _ _
  .exact fin [(z,t')] s.toks e
 |false=>
  cases hf:(Builtin.Str.occurrences z y 0 z.length (z.length+1)).isEmpty with
  |true=>
   have e:[z]=Txt.split z y:=((l8 (by rw[h1];decide)).trans (lg hf)).symm;refine call_meets PySem.F.slot_str_split (typeIs_str _ _ _) PySem.F.entry_str_split ?_ (meets_str_split_not_found z y t' t h1 hy hf) ?_
   .exact PySem.F.args_str_split_2 _ _
   .exact fin [(z,t')] s.toks e
  |false=>
   have e:Builtin.Str.partsBetween z (Builtin.Str.occurrences z y 0 z.length (z.length+1)) y.length=Txt.split z y:=((l8 (by rw[h1];decide)).trans (l8 (by rw[hf];decide))).symm;refine call_meets PySem.F.slot_str_split (typeIs_str _ _ _) PySem.F.entry_str_split ?_ (meets_str_split_sep z y t' t h1 hy hf hsz ?_) ?_
   .exact PySem.F.args_str_split_2 _ _
   .rw[e,lS];omega
   .show wants _ _ _ _
    rw[strsFrom_eq];exact fin (numbered s.toks _) _ ((numbered_texts _ _).trans e)
def zeE(K:W.Frag):List V->Hp->VK->Prop:=λxs H Q=>∃a ys,xs=[.ref a,.ty "tuple"]/\SqT K H a ys/\Q (.bl true) H
theorem zeF:yw X (.builtin "isinstance") (zeE X.K):=by
 intro pins s σ H xs us Q I r h;obtain⟨a,ys,rfl,hq,q⟩:=h;obtain⟨u,c,rfl,ru,rc⟩:=r.two;cases rc;cases ru;obtain⟨its,rv,p,_⟩:=I.tuple hq;obtain⟨o,h1,h2,_⟩:=p;exact md PySem.W.kitx_tuple I.kIn ⟨o,h1,h2⟩ (show W.kitOne X.K (.type "tuple") (.type "tuple")=some true from rfl) (λz=>nomatch z) λtk=>⟨.bl true,H,I.tok tk,rfl,q⟩
theorem zcx(h:X.K=K):yw X (.builtin "isinstance") (zeE K):=by subst h;exact zeF
theorem zjk(h:X.K=K)(hc:X.calm=true):yw X (.builtin "any") (zeB K):=by subst h;exact zct hc
theorem zjl(h:X.K=K)(hc:X.calm=true):yw X (.builtin "all") (zeC K):=by subst h;exact zcu hc
theorem jB(h:X.K=K):MtR X "str.join" (zay K):=by subst h;exact zhe
noncomputable def qV(z:Str):W:=.d (.str z)
theorem VQ:∀{zs:List Str}{vs:List V},relWs K Γ (zs.map qV) vs->vs=zs.map V.str
 |[],_,.nil=>rfl
 |z::zs,_,.cons r t=>by rw[VQ t,show _=V.str z from r];rfl
theorem ka:∀{bs:List Bool}{vs:List V},relWs K Γ (bs.map λb=>.d (.bool b)) vs->vs=bs.map V.bl
 |[],_,.nil=>rfl
 |b::bs,_,.cons r t=>by rw[ka t,show _=V.bl b from r];rfl
def zf3:W->List W->OM->WK->Prop:=λx xs O R=>∃sep w,∃zs:List Str,x=.d (.str sep)/\xs=[w]/\z6 O w=some (zs.map qV)/\sep.length<=16/\(zs.map (·.length)).sum+zs.length<=1048576/\R (.d (.str (Txt.join sep zs))) O
theorem zjm{T:String}:RefM K T (zay K) zf3:=by
 rintro Γ O H x v xs vs S rx rs Q R ⟨sep,w,zs,rfl,rfl,e,h1,h2,h⟩ k;cases rs with
 |cons rw t=>
  cases t;obtain⟨a,us,rfl,q1,q2⟩:=yt S rw e;rw[VQ q2]at q1;exact⟨sep,a,zs,rx,rfl,q1,h1,h2,k _ _ _ _ _ (Le.refl _) S vX h⟩
def zcy:W->List W->OM->WK->Prop:=λx xs O R=>∃z y,x=.d (.str z)/\xs=[.d (.str y)]/\(y.length==0)=false/\z.length<=1000000/\R (.d (.list ((Txt.split z y).map .str))) O
theorem VR{Z:Hp}:∀zs:List Str,Reps K Z (zs.map PyData.str) (zs.map V.str)
 |[]=>rfl
 |z::zs=>⟨_,_,rfl,rfl,VR zs⟩
theorem zhf{T:String}:RefM K T zcw zcy:=by
 rintro Γ O H x v xs vs S rx rs Q R ⟨z,y,rfl,rfl,h1,h2,h⟩ k;cases rs with
 |cons rw t=>
  cases t;refine⟨z,y,rx,by rw[show _=V.str y from rw],h1,h2,λp hp=>?_⟩;obtain⟨Γ',le,S',r'⟩:=qi S (VR (Txt.split z y)) hp;exact k _ _ _ _ _ le S' r' h
def zf4:List W->OM->WK->Prop:=λxs O R=>∃w,∃bs:List Bool,xs=[w]/\z6 O w=some (bs.map λb=>.d (.bool b))/\R (.d (.bool (bs.any id))) O
def zf5:List W->OM->WK->Prop:=λxs O R=>∃w,∃bs:List Bool,xs=[w]/\z6 O w=some (bs.map λb=>.d (.bool b))/\R (.d (.bool (bs.all id))) O
theorem zkJ:RefC K (zeB K) zf4:=by
 rintro Γ O H xs vs S rs Q R ⟨w,bs,rfl,e,h⟩ k;cases rs with
 |cons rw t=>
  cases t;obtain⟨a,us,rfl,q1,q2⟩:=yt S rw e;rw[ka q2]at q1;exact⟨a,bs,rfl,q1,k _ _ _ _ _ (Le.refl _) S yX h⟩
theorem zkK:RefC K (zeC K) zf5:=by
 rintro Γ O H xs vs S rs Q R ⟨w,bs,rfl,e,h⟩ k;cases rs with
 |cons rw t=>
  cases t;obtain⟨a,us,rfl,q1,q2⟩:=yt S rw e;rw[ka q2]at q1;exact⟨a,bs,rfl,q1,k _ _ _ _ _ (Le.refl _) S yX h⟩
def zf6:List W->OM->WK->Prop:=λxs O R=>∃z n,xs=[.d (.str z)]/\intText? z=some n/\z.length<=640/\R (.d (.int n)) O
theorem zjn:RefC K (λxs H Q=>∃z n,xs=[.str z]/\intText? z=some n/\z.length<=640/\Q (.int n) H) zf6:=by
 rintro Γ O H xs vs S rs Q R ⟨z,n,rfl,h1,h2,h⟩ k;cases rs with
 |cons rw t=>
  cases t;exact⟨z,n,by rw[show _=V.str z from rw],h1,h2,k _ _ _ _ _ (Le.refl _) S xS h⟩
def zcz(Ta:TEW):TEW:=λρ O R=>Ta ρ O λx O1=>∃ds,x=.d (.tuple ds)/\R (.d (.bool true)) O1
theorem zhg{Ta:TEW}(h:RefE K ta Ta):RefE K (tCB (zeE K) (vj ta (vj (tC (.ty "tuple")) uz))) (zcz Ta):=by
 intro Γ O H ρ σ S r Q R hT k;refine h _ _ _ _ _ S r _ _ hT λΓ1 O1 H1 x v l1 S1 rx h1=>?_;obtain⟨ds,rfl,h1⟩:=h1;obtain⟨a,vs,rfl,q1,_⟩:=vy S1 rx rfl;exact⟨a,vs,rfl,q1,k _ _ _ _ _ l1 S1 yX h1⟩
noncomputable def kb(x:Str):List W:=x.cps.toList.map λc=>.d (.str ⟨#[c]⟩)
def zjo(T:TEW):TIW:=λρ O R=>T ρ O λw O1=>∃x,w=.d (.str x)/\x.cps.all (· < 128)=true/\R (kb x) (λ_=>True) O1
theorem zeG{t:TE}{T:TEW}(h:RefE K t T):vp K (zji t) (zjo T):=by
 intro Γ O H ρ σ S r Q R hT k;refine h _ _ _ _ _ S r _ _ hT λΓ1 O1 H1 w v l1 S1 r1 h1=>?_;obtain⟨x,rfl,ha,h1⟩:=h1;refine⟨x,r1,ha,k _ _ _ _ _ _ l1 S1 (λi Γ' O' H' hz hg S' _=>⟨λw' hw=>?_,λhi=>?_⟩) h1⟩
 .unfold kb at hw
  rw[lw]at hw;cases hc:x.cps.toList[i]? with
  |none=>rw[hc]at hw;cases hw
  |some c=>
   rw[hc]at hw;cases hw;have hi:i<x.cps.size:=by
    have:=(lx.mp hc).1;simpa using this
   refine⟨hi,λy H2 ⟨e2,d,hd,hy⟩=>?_⟩;subst e2;have:d=c:=by
    have h3:x.cps.toList[i]? =some d:=by rw[Array.getElem?_toList];exact hd
    rw[hc]at h3;cases h3;rfl
   subst this;exact⟨Γ',Le.refl _,S',by rw[hy];exact vX⟩
 .show x.cps.size<=i
  rw[hi];simp[kb]
def zjp:R2:=λx y H Q=>∃i j,x=.str i/\y=.str j/\Q (.bl (!decide (j.cps.toList<i.cps.toList))) H
theorem vB:OpR X (compareOp .LtE) zjp:=by
 intro pins s σ H x y v u Q I rx ry h;obtain⟨i,j,rfl,rfl,q⟩:=h;obtain⟨t,rfl⟩:=rx;obtain⟨t',rfl⟩:=ry;exact PySem.P.le_str (yg I q rfl)
def zjq:R2W:=λx y O R=>∃i j,x=.d (.str i)/\y=.d (.str j)/\R (.d (.bool (!decide (j.cps.toList<i.cps.toList)))) O
theorem zkL:RefR K zjp zjq:=by
 rintro Γ O H x y v u S rx ry Q R ⟨i,j,rfl,rfl,h⟩ k;exact⟨i,j,rx,ry,k _ _ _ _ _ (Le.refl _) S yX h⟩
def zjr:V->Option Int->Option Int->Hp->VK->Prop:=λx lo hi H Q=>∃z,x=.str z/\z.length<=sizeLine/\Q (.str (Txt.slice z lo hi)) H
theorem Kn:SlR X zjr:=by
 intro pins s σ H x v vl vu lo hi sl Q I rx hs pl pu h;obtain⟨z,rfl,hz,q⟩:=h;obtain⟨t,rfl⟩:=rx;refine⟨"str",_,PySem.F.slot_str_getitem.lookup,typeIs_str _ _ _,?_⟩;have fin:∀tk k,EP X pins σ Q (.str (Txt.slice z lo hi) tk) { s with toks:=k }:=λtk k=>⟨.str _,H,I.tok _,⟨_,rfl⟩,q⟩;cases pl with
 |none=>cases pu with
  |none=>exact wpAny_getItem_str_slice (l:=none) (u:=none) (st:=none) hs rfl (post_val_or_str ⟨lT (Txt.slice_le z _ _) hz,fin⟩)
  |int j uj=>exact wpAny_getItem_str_slice (l:=none) (u:=some (j,uj)) (st:=none) hs rfl (post_val_or_str ⟨lT (Txt.slice_le z _ _) hz,fin⟩)
 |int i ui=>cases pu with
  |none=>exact wpAny_getItem_str_slice (l:=some (i,ui)) (u:=none) (st:=none) hs rfl (post_val_or_str ⟨lT (Txt.slice_le z _ _) hz,fin⟩)
  |int j uj=>exact wpAny_getItem_str_slice (l:=some (i,ui)) (u:=some (j,uj)) (st:=none) hs rfl (post_val_or_str ⟨lT (Txt.slice_le z _ _) hz,fin⟩)
def zjs(Te:TEW)(Tl Th:TOW):TEW:=λρ O R=>Te ρ O λx O1=>Tl ρ O1 λl O2=>Th ρ O2 λu O3=>∃z,x=.d (.str z)/\z.length<=sizeLine/\R (.d (.str (Txt.slice z l u))) O3
theorem zhh{te:TE}{tl th:TO}{Te:TEW}{Tl Th:TOW}(he:RefE K te Te)(hl:XX K tl Tl)(hh:XX K th Th):RefE K (tSl zjr te tl th) (zjs Te Tl Th):=by
 intro Γ O H ρ σ S r Q R hT k;refine he _ _ _ _ _ S r _ _ hT λΓ1 O1 H1 x v l1 S1 rx h1=>?_;refine hl _ _ _ _ _ S1 (r.mono l1) _ _ h1 λΓ2 O2 H2 l l2 S2 h2=>?_;refine hh _ _ _ _ _ S2 (r.mono (l1.trans l2)) _ _ h2 λΓ3 O3 H3 u l3 S3 h3=>?_;obtain⟨z,rfl,hz,h3⟩:=h3;exact⟨z,rx,hz,k _ _ _ _ _ ((l1.trans l2).trans l3) S3 vX h3⟩
def Ko:W->List W->OM->WK->Prop:=λx xs O R=>∃l b ws us,x=.own l/\xs=[.own b]/\O l=some (.lst ws)/\O b=some (.lst us)/\ws.length+us.length<=10000000/\R (.d .none) (updO O l (.lst (ws++us)))
theorem zeH{T:String}:RefM K T Ka Ko:=by
 rintro Γ O H x v xs vs S rx rs Q R ⟨l,b,ws,us,rfl,rfl,hl,hb,hn,h⟩ k;cases rs with
 |cons rw t=>
  cases t;cases(show v=.ref l from rx);obtain⟨_,vl,q1,q2⟩:=S.o _ _ hl;obtain⟨_,vb,p1,p2⟩:=S.o _ _ hb;refine⟨l,b,vl,vb,rfl,by rw[show _=V.ref b from rw],q1,p1,by rw[<-lF q2,<-lF p2,lS];omega,?_⟩;exact k _ _ _ _ _ (Le.refl _) (S.put (oo:=.lst _) hl (by intro _ h;cases h) (by intro _ h;cases h) ⟨_,zW,Paired.appP q2 p2⟩) vY h
def Qk(Ta:TEW):TEW:=λρ O R=>Ta ρ O λx O1=>∃a ws,x=.own a/\O1 a=some (.lst ws)/\R (.d (.bool true)) O1
theorem zhi{Ta:TEW}(h:RefE K ta Ta):RefE K (tCB (zap K) (vj ta (vj (tC (.ty "list")) uz))) (Qk Ta):=by
 intro Γ O H ρ σ S r Q R hT k;refine h _ _ _ _ _ S r _ _ hT λΓ1 O1 H1 x v l1 S1 rx h1=>?_;obtain⟨a,ws,rfl,ho,h1⟩:=h1;cases(show v=.ref a from rx);obtain⟨_,vs,q1,_⟩:=S1.o _ _ ho;exact⟨_,_,_,true,rfl,.lst q1,rfl,k _ _ _ _ _ l1 S1 yX h1⟩
abbrev Rw6:=List Cel
def zlq(c:Cel):Prop:=∃k,32<=k/\k<=126/\c.1=⟨#[k]⟩
def okR(r:Rw6):Prop:=∀c∈r,zlq c
abbrev T3:=Nat×Nat×Int
def PicOk(S:ST):Prop:=∀i j,i<S.h->j<S.w->okC (S.pic i j)
def InWin(S:ST):Prop:=S.home=true->S.top<=S.row/\S.row<=S.bottom/\S.left<=S.col/\S.col<=S.right
section
variable {O':OM}{d q:Addr}
end
section
variable {O':OM}{x st kp d q:Addr}{S' S1:ST}
end
def AllOk(S:ST):Prop:=PicOk S/\SeqAt.shaped S.last=true/\PyData.eqv S.last S.last=true
structure Drawn (S:ST):Prop where
 b:Bds S
 ok:PicOk S
 win:InWin S
 last:S.last=.none\/∃c,S.last=.str c/\S.pic S.row.toNat S.col.toNat=(c,S.ink)
 late:S.late=true->S.col=eR S/\S.last≠.none
theorem zjt{c:Str}(h:PyData.strOk c=true):SeqAt.shaped (.str c)=true/\PyData.eqv (.str c) (.str c)=true:=
 ⟨by simp[SeqAt.shaped,PyData.canLay0,PyData.depth,h],by simp[PyData.eqv]⟩
noncomputable def zsA:Str:=Str.ofString " !$&()*+,-./0123456789:;<=>?@ABCDEFGHIJKLMNOPQRSTUVWXYZ"
noncomputable def zsB:Str:=Str.ofString "[]^_abcdefghijklmnopqrstuvwxyz{|}~"
noncomputable def zaC(c:Int):PF:=λi j=>(⟨#[(zsA++zsB).cps.toList.getD ((zje c 51 / 8+7*(24*(i:Int)+(j:Int)))%89).toNat 0]⟩,zje c (60+(24*(i:Int)+(j:Int))) / 8%512)
end L2
namespace L2
end L2
namespace L2
open PySem PySem.Spec PyProof.Rows
def Old(O O':OM):Prop:=∀b,O b≠none->O' b=O b
theorem Old.refl:Old O O:=λ_ _=>rfl
theorem Old.upd{O':OM}{o:OO}(h:Old O O')(ha:O a=none):Old O (updO O' a o):=λb hb=>by
 rw[ze (λe=>by rw[e]at hb;exact hb ha)];exact h b hb
theorem Old.new{O':OM}(h:Old O O')(ha:O' a=none):O a=none:=by
 cases e:O a with
 |none=>rfl
 |some o=>rw[h a (by rw[e];simp)]at ha;rw[ha]at e;cases e
section
variable {q:Addr}{a b:Int}{u:Bool}{l:PyData}
end
theorem PicOk.set{j:Nat}{c:Str}{k:Int}(h:PicOk S)(hc:PyData.strOk c=true):PicOk { S with pic:=setF S.pic i j (c,k) }:=by
 intro x y hx hy;show okC (setF S.pic i j (c,k) x y);unfold setF;split
 .exact hc
 .exact h x y hx hy
theorem PicOk.mv{t b l r dn ac:Int}(h:PicOk S)(h0:0<=t)(hb:b<S.h)(hl:0<=l)(hr:r<S.w):PicOk (mvS t b l r dn ac S):=by
 intro x y hx hy;show okC (mvP S.pic S.ink t b l r dn ac x y);unfold mvP;split
 .split
  .exact h _ _ (by simp only[mvS]at *;omega) (by simp only[mvS]at *;omega)
  .show PyData.strOk (Str.ofString " ")=true
   decide +kernel
 .exact h x y hx hy
noncomputable def jnL:List (List Nat)->List Nat
 |[]=>[]
 |[a]=>a
 |a::b::r=>a++59::jnL (b::r)
theorem zf7:∀{a b x y:List Nat},59∉a->59∉b->a++59::x=b++59::y->a=b/\x=y
 |[],[],x,y,_,_,e=>⟨rfl,by simpa using e⟩
 |[],c::b,x,y,_,hb,e=>by
  simp at e;exact absurd (by rw[<-e.1];exact li) hb
 |c::a,[],x,y,ha,_,e=>by
  simp at e;exact absurd (by rw[e.1];exact li) ha
 |c::a,d::b,x,y,ha,hb,e=>by
  simp at e;obtain⟨h1,h2⟩:=zf7 (λz=>ha (lj _ z)) (λz=>hb (lj _ z)) e.2;exact⟨by rw[e.1,h1],h2⟩
theorem Kp:∀{A B:List (List Nat)},A≠[]->B≠[]->(∀a∈A,59∉a)->(∀b∈B,59∉b)->jnL A=jnL B->A=B
 |[],_,h,_,_,_,_=>absurd rfl h
 |_,[],_,h,_,_,_=>absurd rfl h
 |[a],[b],_,_,_,_,e=>by rw[show a=b from e]
 |[a],b::c::s,_,_,ha,_,e=>by
  have e:a=b++59::jnL (c::s):=e;exact absurd (by rw[e];simp) (ha a li)
 |a::d::r,[b],_,_,_,hb,e=>by
  have e:a++59::jnL (d::r)=b:=e;exact absurd (by rw[<-e];simp) (hb b li)
 |a::d::r,b::c::s,_,_,ha,hb,e=>by
  have e:a++59::jnL (d::r)=b++59::jnL (c::s):=e;obtain⟨h1,h2⟩:=zf7 (ha a li) (hb b li) e;rw[h1,Kp (A:=d::r) (B:=c::s) (by simp) (by simp) (λz hz=>ha z (lj _ hz)) (λz hz=>hb z (lj _ hz)) h2]
noncomputable def spS(r:List (List Nat)×List Nat)(c:Nat):List (List Nat)×List Nat:=if c= 59 then(r.1++[r.2],[])else(r.1,r.2++[c])
noncomputable def spF(cs:List Nat):List (List Nat)×List Nat:=cs.foldl spS ([],[])
theorem zeI{cs:List Nat}:spF (cs++[c])=spS (spF cs) c:=by unfold spF;rw[List.foldl_append];rfl
theorem Xf:∀{A:List (List Nat)},A≠[]->jnL (A++[[]])=jnL A++[59]
 |[],h=>absurd rfl h
 |[a],_=>rfl
 |a::b::r,_=>by
  show a++59::jnL ((b::r)++[[]])=(a++59::jnL (b::r))++[59];rw[Xf (by simp)];simp
theorem Ql:∀{A:List (List Nat)}{w:List Nat}{c:Nat},jnL (A++[w++[c]])=jnL (A++[w])++[c]
 |[],w,c=>rfl
 |[a],w,c=>by
  show a++59::(w++[c])=(a++59::w)++[c];simp
 |a::b::r,w,c=>by
  show a++59::jnL ((b::r)++[w++[c]])=(a++59::jnL ((b::r)++[w]))++[c];rw[Ql (A:=b::r)];simp
theorem zcA(cs:List Nat):jnL ((spF cs).1++[(spF cs).2])=cs/\(∀a∈(spF cs).1++[(spF cs).2],59∉a):=by
 have key:∀n,∀cs:List Nat,cs.length=n->jnL ((spF cs).1++[(spF cs).2])=cs/\(∀a∈(spF cs).1++[(spF cs).2],59∉a):=by
  intro n
  induction n with
  |zero=>
   intro cs h;cases List.length_eq_zero_iff.mp h;exact⟨rfl,λa ha=>by cases lh.mp ha;exact lD⟩
  |succ n ih=>
   intro cs h;obtain⟨ds,c,rfl⟩:∃ds c,cs=ds++[c]:=⟨cs.dropLast,cs.getLast (by intro z;rw[z]at h;cases h),(List.dropLast_concat_getLast _).symm⟩;obtain⟨h1,h2⟩:=ih ds (by simpa using h);rw[zeI];unfold spS;by_cases hc:c= 59
   .rw[lg hc]
    refine⟨?_,λa ha=>?_⟩
    .show jnL (((spF ds).1++[(spF ds).2])++[[]])=_
     rw[Xf (by simp),h1,hc]
    .rcases lz.mp ha with ha|ha
     .exact h2 a ha
     .cases lh.mp ha;exact lD
   .rw[l8 hc]
    refine⟨by rw[Ql,h1],λa ha=>?_⟩;rcases lz.mp ha with ha|ha
    .exact h2 a (ma _ ha)
    .cases lh.mp ha
     intro m;rcases lz.mp m with m|m
     .exact h2 _ (lN _ (lh.mpr rfl)) m
     .exact hc (lh.mp m).symm
 exact key _ cs rfl
noncomputable def xZ:Str:=⟨#[59]⟩
theorem xn{a b:Str}:(a++b).cps.toList=a.cps.toList++b.cps.toList:=by
 show(a.cps++b.cps).toList=_;simp
theorem qO:∀ps:List Str,(Str.join xZ ps).cps.toList=jnL (ps.map (·.cps.toList))
 |[]=>rfl
 |[p]=>rfl
 |p::q::r=>by
  rw[join_cons_cons,xn,xn,qO (q::r)];have e:xZ.cps.toList=[59]:=rfl;have e2:jnL ((p::q::r).map (·.cps.toList))=p.cps.toList++59::jnL ((q::r).map (·.cps.toList)):=rfl;rw[e,e2];simp
theorem JH(z:Str):(Txt.split z xZ).map (·.cps.toList)=(spF z.cps.toList).1++[(spF z.cps.toList).2]:=by
 obtain⟨h1,h2⟩:=zcA z.cps.toList;refine Kp ?_ (by simp) ?_ h2 ?_
 .have:=split_pos z xZ
  intro e;have:(Txt.split z xZ).length= 0:=by simpa using mw List.length e
  omega
 .intro a ha
  obtain⟨p,hp,rfl⟩:=lJ.mp ha;exact StrLaws.split_free z 59 p hp
 .rw[h1,<-qO,StrLaws.join_split]
def okD(z:Str):Prop:=∀c∈z.cps.toList,48<=c/\c<=57
noncomputable def uD(cs:List Nat):PyData:=if cs=[]then .none else .int ((NumText.digitsVal cs:Nat):Int)
noncomputable def kd(ws:List (List Nat)):PyData:=if 6<ws.length\/(ws.any λw=>decide (3<w.length))=true then .none else .tuple (ws.map uD)
noncomputable def vk(z:Str):PyData:=kd ((spF z.cps.toList).1++[(spF z.cps.toList).2])
def okP(a:PyData):Prop:=a=.none\/∃ds:List PyData,a=.tuple ds/\ds.length<=1000/\∀d∈ds,d=.none\/∃n,d=.int n
theorem Qm(z:Str):okP (vk z):=by
 unfold vk kd;split
 .exact .inl rfl
 .rename_i hn
  refine .inr ⟨_,rfl,by rw[l6];omega,λd hd=>?_⟩;obtain⟨w,_,rfl⟩:=lJ.mp hd;unfold uD;split
  .exact .inl rfl
  .exact .inr ⟨_,rfl⟩
theorem xu(z:Str):z.length=z.cps.toList.length:=rfl
theorem u5(sep:Str)(zs:List Str):Txt.join sep zs=Str.join sep zs:=eq_of_beq (join_plain_closes sep zs)
theorem Qn(sep:Str):∀zs:List Str,(Str.join sep zs).cps.toList.length<=(zs.map (·.length)).sum+zs.length*sep.length
 |[]=>lO _
 |[p]=>by
  show p.cps.toList.length<=([p].map (·.length)).sum+_;rw[<-xu];simp
 |p::q::r=>by
  have ih:=Qn sep (q::r);rw[join_cons_cons,xn,xn,lI,lI,<-xu p,<-xu sep];simp only[lG,List.sum_cons,lL,Nat.add_mul]at ih ⊢;omega
theorem Qo{α:Type}(l:List α)(g:α->W)(F:W->Option PyData)(k:α->PyData)(h:∀a,F (g a)=some (k a)):(l.map g).filterMap F=l.map k:=by
 induction l with
 |nil=>rfl
 |cons a l ih=>rw[lG,mm,h a,ih];rfl
noncomputable def noS:Str:=⟨#[]⟩
theorem Kq:∀{l:List Str},(∀x∈l,x.length= 1)->(l.map λx=>x.length).sum=l.length
 |[],_=>rfl
 |a::l,h=>by
  simp only[lG,List.sum_cons,Kq λx hx=>h x (lj _ hx),h a li,lL];omega
theorem Qp:∀(cs:List Nat) (acc:Array Nat),((cs.map λc=>(⟨#[c]⟩:Str)).foldl (λacc p=>acc++noS.cps++p.cps) acc).toList=acc.toList++cs
 |[],acc=>by simp
 |c::cs,acc=>by
  rw[lG,List.foldl_cons,Qp cs];simp[noS]
theorem zeJ(cs:List Nat):Txt.join noS (cs.map λc=>⟨#[c]⟩)=⟨cs.toArray⟩:=by
 show Builtin.Str.glued _ _=_;unfold Builtin.Str.glued
 congr 1
 apply Array.ext';cases cs with
 |nil=>rfl
 |cons c cs=>
  show((cs.map λc=>(⟨#[c]⟩:Str)).foldl (λacc p=>acc++noS.cps++p.cps) #[c]).toList=_;rw[Qp];rfl
noncomputable def Itz(K:W.Frag)(a b:Addr):It:=
  ⟨fun i H=>∃ xs ys x y,SqL K H a xs/\SqL K H b ys/\xs[i]? =some x/\ys[i]? =some y,
   λi H v H'=>∃t x y,v=.ref t/\H t=none/\H'=upd H t (.tup [x,y])/\(∀xs,SqL K H a xs->xs[i]? =some x)/\∀ys,SqL K H b ys->ys[i]? =some y,
   λi H=>∃xs ys,SqL K H a xs/\SqL K H b ys/\(xs.length<=i\/ys.length<=i)⟩
theorem VS{n l1 l2:Addr}{xs ys:Array Value}{a b:Value}(hz:IsZip h (n+4) (n+2) (n+3) .none)(hTO:IsPair h (n+3) a b){k1 k2:Nat}(h1:h.IsListIter n l1 k1)(h2:h.IsListIter (n+1) l2 k2)
  (hl1:h.IsList l1 xs)(hl2:h.IsList l2 ys):ZipApart (n+4) (n+2) (n+3) n (n+1) l1 l2:=by
 have dz:∀{l:Addr}{zs:Array Value},h.IsList l zs->l≠n+4/\l≠n+3/\l≠n/\l≠n+1:=λ{l zs} ⟨o,e,c,_⟩=>by
  obtain⟨o1,e1,c1,_⟩:=h1;obtain⟨o2,e2,c2,_⟩:=h2;refine⟨λz=>?_,λz=>?_,λz=>?_,λz=>?_⟩
  .subst z;rw[hz]at e;cases e;simp at c
  .subst z;rw[hTO]at e;cases e;simp at c
  .subst z;rw[e1]at e;cases e;rw[c1]at c;simp at c
  .subst z;rw[e2]at e;cases e;rw[c2]at c;simp at c
 obtain⟨a1,a2,a3,a4⟩:=dz hl1;obtain⟨b1,b2,b3,b4⟩:=dz hl2;exact⟨lu (by omega),lu (by omega),lu (by omega),lu (by omega),lu (by omega),Nat.ne_of_gt (by omega),Nat.ne_of_gt (by omega),Nat.ne_of_gt (by omega),Nat.ne_of_gt (by omega),lu (by omega),a1,a2,a3,a4,b1,b2,b3,b4⟩
theorem zeK{k:Nat}(a b n:Addr) :
    Turn P w K (.Tuple es k pos) (Itz K a b) [n,n+1,n+2,n+3,n+4] (n+4) (λi h=>IsZip h (n+4) (n+2) (n+3) .none/\IsPair h (n+2) (.ref n) (.ref (n+1))/\(∃a b,IsPair h (n+3) a b)/\h.IsListIter n a i/\h.IsListIter (n+1) b i) where
  mem:=by simp
  obj:=λi h st c hc=>by
    obtain⟨hz,hTI,⟨x,y,hTO⟩,⟨o1,e1,c1,d1⟩,⟨o2,e2,c2,d2⟩⟩:=st;have hc':c=n\/c=n+1\/c=n+2\/c=n+3\/c=n+4:=by simpa using hc
    rcases hc' with rfl|rfl|rfl|rfl|rfl
    · exact⟨o1,e1,λv z=>by rw[d1]at z;cases z⟩
    · exact⟨o2,e2,λv z=>by rw[d2]at z;cases z⟩
    · exact⟨_,hTI,fun v z=>by
        have z':Data.seq _ _=Data.cell v:=z;cases z'⟩
    · exact⟨_,hTO,fun v z=>by
        have z':Data.seq _ _=Data.cell v:=z;cases z'⟩
    · exact⟨_,hz,fun v z=>by
        have z':Data.fields _=Data.cell v:=z;cases z'⟩
  keep:=λi h h' st k=>by
    obtain⟨hz,hTI,⟨x,y,hTO⟩,h1,h2⟩:=st;exact⟨k _ (by simp) _ hz,k _ (by simp) _ hTI,⟨x,y,k _ (by simp) _ hTO⟩,h1.at λo q=>k _ (by simp) o q,h2.at λo q=>k _ (by simp) o q⟩
  item:=by
    intro X hP hw hK hc i pins s σ H E I hf st hg;subst hP hw hK;obtain⟨hz,hTI,⟨x0,y0,hTO⟩,h1,h2⟩:=st;obtain⟨xs,ys,x,y,qa,qb,hx,hy⟩:=hg;obtain⟨its,rv,p,hzz⟩:=I.list qa;obtain⟨jts,sv,q,hzy⟩:=I.list qb;obtain⟨u,hu,ru⟩:=rv.get hx;obtain⟨v,hv,rv'⟩:=sv.get hy;have D:=VS hz hTO h1 h2 p.isList q.isList;refine wpAny_pyNext_zip_item D hz hTI hTO h1 h2 p.isList q.isList (x:=u) (by simpa using hu) (y:=v) (by simpa using hv) λh' z' to' i1' i2' hp hsz kk=>?_;refine⟨_,rfl,wpAny_letOwnedTupleGo_zip z' λh3 z3 sb=>?_⟩;have hn:=I.hok.fresh (lp s.heap.objs.size);have I1:Inv X pins σ (upd H s.heap.objs.size (.tup [x,y])) { s with heap:=s.heap.push { cls:=.type "tuple",data:=.seq [u,v].toArray },toks:=s.toks }:=
      I.laid (t':=s.toks) (λb o e=>l9 _ e) (lp _) ⟨by show 2<=sizeLine;decide,[u,v],.cons ru (.cons rv' .nil),IsTup.new s.heap _⟩
    have lt:∀c∈[n,n+1,n+2,n+3,n+4],c≠s.heap.objs.size:=λc hc=>by
      have hc':c=n\/c=n+1\/c=n+2\/c=n+3\/c=n+4:=by simpa using hc
      rcases hc' with rfl|rfl|rfl|rfl|rfl
      · obtain⟨o,e1,_⟩:=h1;exact lu (lq e1)
      · obtain⟨o,e1,_⟩:=h2;exact lu (lq e1)
      · exact lu (lq hTI)
      · exact lu (lq hTO)
      · exact lu (lq hz)
    have nt:∀c∈[n,n+1,n+2,n+3,n+4],upd H s.heap.objs.size (.tup [x,y]) c=none:=λc hc=>by rw[zu (lt c hc)];exact(hf c hc).1
    have I2:=I1.turnedL (h':=h3) (t':=s.toks) (fp:=[n,n+1,n+2,n+3,n+4]) (fun c o hc q=>by
      have c0:c≠n:=λz=>hc (by simp[z]);have c1:c≠n+1:=λz=>hc (by simp[z]);have c3:c≠n+3:=λz=>hc (by simp[z]);have c4:c≠n+4:=λz=>hc (by simp[z]);by_cases hcz:c=s.heap.objs.size
      · subst hcz
        have q':(s.heap.push { cls:=.type "tuple",data:=.seq #[u,v] }).get? s.heap.objs.size=some o:=q;rw[ly s.heap (o:={ cls:=.type "tuple",data:=.seq #[u,v] }) rfl]at q';exact(sb.2 _ c4).trans (hp.trans q')
      · have q':(s.heap.push { cls:=.type "tuple",data:=.seq #[u,v] }).get? c=some o:=q
        rw[Heap.get?_push_ne _ _ _ hcz]at q';exact(sb.2 c c4).trans (kk c o c4 c3 c0 c1 q')) λc hc=>⟨nt c hc,(hf c hc).2⟩
    refine⟨.ref s.heap.objs.size,_,I2,rfl,⟨_,x,y,rfl,hn,rfl,λzs hs=>by rw[I.list_inj hs qa];exact hx,λzs hs=>by rw[I.list_inj hs qb];exact hy⟩,⟨z3,(sb.2 _ D.TIz).trans (kk _ _ D.TIz D.TITO D.TIi1 D.TIi2 hTI),⟨_,_,(sb.2 _ D.TOz).trans to'⟩,i1'.at λo q=>(sb.2 _ D.i1z).trans q,i2'.at λo q=>(sb.2 _ D.i2z).trans q⟩,nt⟩
  done:=by
    intro X hP hw hK hc i pins s σ H E I hf st hg;subst hP hw hK;obtain⟨hz,hTI,⟨x0,y0,hTO⟩,h1,h2⟩:=st;obtain⟨xs,ys,qa,qb,hl⟩:=hg;obtain⟨its,rv,p,hzz⟩:=I.list qa;obtain⟨jts,sv,q,hzy⟩:=I.list qb;have l1:=rv.length;have l2:=sv.length;have D:=VS hz hTO h1 h2 p.isList q.isList;refine wpAny_pyNext_zip_end (I.ok.hd hc) D hz hTI hTO h1 h2 p.isList q.isList (by
      rcases hl with hl|hl
      · exact .inl (by simp;omega)
      · exact .inr (by simp;omega)) λh' kk=>⟨rfl,I.turnedL (t':=s.toks) (fp:=[n,n+1,n+2,n+3,n+4]) (λc o hc e=>kk c o (λz=>hc (by simp[z])) (λz=>hc (by simp[z])) (λz=>hc (by simp[z])) (λz=>hc (by simp[z])) e) hf⟩
  self:=λ_ _ _ _ _ st h=>wpAny_pyIter_zip st.1 h
def zju(K:W.Frag)(ta:TA):TI:=λσ H R=>ta σ H λvs H1=>∃a b,vs=[.ref a,.ref b]/\(∃xs,SqL K H1 a xs)/\(∃ys,SqL K H1 b ys)/\R (Itz K a b) H1
theorem zjv{k:Nat}{tp:Pos}{l m:Expr}{ta:TA}{p:Pos}(hK:X.K=K)(hg:Gl X "zip")(hm:X.mg "zip" =none)(ha:PA X [l,m] ta)(hs:starEach [l,m] X.env=(false,eval l X.env)::starEach [m] X.env:=by rfl)
  (hs2:(backTo pos (starEach [m] X.env)).any (·.1)=false:=by rfl) :
  PI X (.Tuple es k tp) (.Call (.Name "zip" p) [l,m] [] pos) (zju K ta):=by
 subst hK;intro pins s σ H R I h;refine Call_ (vD I hg hm boot_zip (mh (thn (ha pos pins s σ H _ I h) λus s1 ⟨vs,H1,I1,r1,q1⟩=>?_) hs hs2));obtain⟨a,b,e,⟨xs,qa⟩,⟨ys,qb⟩,q⟩:=q1;subst e;cases r1 with
 |cons r rr=>
  cases rr with
  |cons r' rr=>
   cases rr;cases r;cases r';obtain⟨its,rv,p,_⟩:=I1.list qa;obtain⟨jts,sv,p',_⟩:=I1.list qb;refine call_zip_2 p.isList p'.isList λh' hZ hTI hTO h1 h2 hsz hk=>wpAny_pyIter_zip hZ ?_;refine⟨s1.heap.objs.size+4,[s1.heap.objs.size,s1.heap.objs.size+1,s1.heap.objs.size+2,s1.heap.objs.size+3,s1.heap.objs.size+4],_,_,H1,rfl,I1.kept (t':=s1.toks) hk,zeK a b _,⟨hZ,hTI,⟨_,_,hTO⟩,h1,h2⟩,λc hc=>?_,q⟩;have hc':c=s1.heap.objs.size\/c=s1.heap.objs.size+1\/c=s1.heap.objs.size+2\/c=s1.heap.objs.size+3\/c=s1.heap.objs.size+4:=by simpa using hc
   have hle:s1.heap.objs.size<=c:=by
    rcases hc' with rfl|rfl|rfl|rfl|rfl
    .exact lp _
    .exact Nat.le_add_right _ _
    .exact Nat.le_add_right _ _
    .exact Nat.le_add_right _ _
    .exact Nat.le_add_right _ _
   exact I1.fpOk hle (I1.hok.fresh hle)
def zjw(T:TAW):TIW:=λρ O R=>T ρ O λws O1=>∃w1 w2 us1 us2 ds1 ds2,ws=[w1,w2]/\z6 O1 w1=some us1/\z6 O1 w2=some us2/\yE us1=some ds1/\yE us2=some ds2/\
 R (List.zipWith (λa b=>W.d (.tuple [a,b])) ds1 ds2) (λO'=>z6 O' w1=some us1/\z6 O' w2=some us2) O1
theorem zeL{T:TAW}(h:xh K t T):vp K (zju K t) (zjw T):=by
 intro Γ O H ρ σ S r Q R hT k;refine h _ _ _ _ _ S r _ _ hT λΓ1 O1 H1 ws vs l1 S1 r1 h1=>?_;obtain⟨w1,w2,us1,us2,ds1,ds2,rfl,e1,e2,hd1,hd2,h1⟩:=h1;cases r1 with
 |cons rx t=>
  cases t with
  |cons ry t=>
   cases t;obtain⟨a,va,rfl,q1,q2⟩:=yt S1 rx e1;obtain⟨b,vb,rfl,p1,p2⟩:=yt S1 ry e2;refine⟨a,b,rfl,⟨va,q1⟩,⟨vb,p1⟩,k _ _ _ _ _ _ l1 S1 (λi Γ' O' H' hz hg S' e'=>?_) h1⟩;obtain⟨a',va',ea,q1',q2'⟩:=yt S' (rx.up hz hg) e'.1;cases ea;obtain⟨b',vb',eb,p1',p2'⟩:=yt S' (ry.up hz hg) e'.2;cases eb;rw[y9 hd1]at q2';rw[y9 hd2]at p2';have hl1:ds1.length=va'.length:=by rw[<-lF q2',l6]
   have hl2:ds2.length=vb'.length:=by rw[<-lF p2',l6]
   refine⟨λw' hw=>?_,λhi=>⟨va',vb',q1',p1',by rw[hi,List.length_zipWith,<-hl1,<-hl2];omega⟩⟩;rw[List.getElem?_zipWith]at hw;cases hd:ds1[i]? with
   |none=>rw[hd]at hw;cases hw
   |some d=>
    cases hd':ds2[i]? with
    |none=>rw[hd,hd']at hw;cases hw
    |some d'=>
     rw[hd,hd']at hw;cases hw;obtain⟨x,hx,rx'⟩:=Paired.getP q2' (i:=i) (x:=.d d) (by rw[lw,hd];rfl);obtain⟨y,hy,ry'⟩:=Paired.getP p2' (i:=i) (x:=.d d') (by rw[lw,hd'];rfl);refine⟨⟨va',vb',x,y,q1',p1',hx,hy⟩,λv H2 ⟨t,x',y',f1,f2,f3,f4,f5⟩=>?_⟩;have h4:=f4 va' q1';have h5:=f5 vb' p1';rw[hx]at h4;rw[hy]at h5;cases h4;cases h5;subst f1 f3;obtain⟨Γ2,l2,S2,r2⟩:=Zb S' (ds:=[d,d']) (vs:=[x,y]) ⟨_,_,rfl,rx',_,_,rfl,ry',rfl⟩ f2;exact⟨Γ2,l2,S2,r2⟩
noncomputable def Zk(O:OM)(o w:W):Option OM:=match o with
 |.own a=>match O a with
  |some (.lst ws)=>if ws.length<100000 then some (updO O a (.lst (ws++[w])))else none
  |_=>none
 |_=>none
def zaD:W->List W->OM->WK->Prop:=λx ws O R=>∃w O1,ws=[w]/\Zk O x w=some O1/\R (.d .none) O1
theorem zjx{T:String}:RefM K T Z1 zaD:=by
 rintro Γ O H x v xs vs S rx rs Q R ⟨w,O1,rfl,e,h⟩ k;cases rs with
 |cons rw t=>
  cases t
  rename_i u
  cases x with
  |d _=>cases e
  |row _ _=>cases e
  |own a=>
   cases(show v=.ref a from rx);simp only[Zk]at e;split at e
   .rename_i ws ho
    split at e
    .rename_i hl
     cases e;obtain⟨_,us,q1,q2⟩:=S.o _ _ ho;refine⟨a,us,u,rfl,rfl,q1,by rw[<-lF q2,lS];omega,?_⟩;exact k _ _ _ _ _ (Le.refl _) (S.put (oo:=.lst _) ho (by intro _ h;cases h) (by intro _ h;cases h) ⟨_,zW,Paired.appP q2 (.cons rw .nil)⟩) vY h
    .cases e
   .cases e
section
variable {k:Nat}{sp:Sp}{p:Pos}
theorem Kr(c:CalM X.prog X.w X.K X.mg X.base k x C sp)(hr:Room (k+1) X.A)(hg:Gl X x)(hdb:(x==("__debug__":Str))=false:=by decide):PE X (.Call (.Name x p) [] [] pos) (YY C sp [] E0 uz):=by
 obtain⟨f,fd,ps,M,F,hm,hb⟩:=c.ex;exact zdK M F hr hg hm hb .nil Y0 hdb
end
theorem zkM{y:Str}(hg:Gl X x)(h:∃t,X.mg x=some (.str y t))(hd:(x==("__debug__":Str))=false:=by decide):PE X (.Name x pos) (tC (.str y)):=by
 obtain⟨t,e⟩:=h;exact jt hg e ⟨t,rfl⟩ hd
theorem Qq{z:Str}{lo hi:Option Int}{a b:Nat}(hab:a<=b)(hb:b<=z.length)(e:Builtin.Str.strSliceIndices lo hi 1 z.length=(List.range (b-a)).map (a+ ·)):(Txt.slice z lo hi).cps.toList=(z.cps.toList.drop a).take (b-a):=by
 have hz:z.length=z.cps.toList.length:=rfl;unfold Txt.slice;rw[e];split
 .rename_i h
  simp at h;have ha:a= 0:=by omega
  subst ha;rw[List.drop_zero,List.take_of_length_le (by omega)]
 .show(((List.range (b-a)).map (a+ ·)).filterMap (z.cps[·]?))=_
  rw[List.filterMap_map];refine List.ext_getElem? λi=>?_;have key:∀n,n<=b-a->(List.range n).filterMap ((λx=>z.cps[x]?)∘λx=>a+x)=(z.cps.toList.drop a).take n:=by
   intro n
   induction n with
   |zero=>intro _;simp
   |succ n ih=>
    intro hn;rw[List.range_succ,List.filterMap_append,ih (by omega)];have h1:a+n<z.cps.toList.length:=by omega
    have h2:z.cps[a+n]? =some z.cps.toList[a+n]:=by
     rw[<-Array.getElem?_toList,ls h1]
    have h3:(z.cps.toList.drop a)[n]? =some z.cps.toList[a+n]:=by
     rw[List.getElem?_drop,ls h1]
    rw[List.take_succ,h3];simp[h2]
  rw[key _ (lp _)]
theorem zeM{z:Str}{a b:Nat}(hab:a<=b)(hb:b<=z.length):(Txt.slice z (some (a:Int)) (some (b:Int))).cps.toList=(z.cps.toList.drop a).take (b-a):=by
 refine Qq hab hb ?_;unfold Builtin.Str.strSliceIndices sliceRange;simp only[show(1:Int)>0 by decide,if_true];have ca:max 0 (min (if(a:Int)<0 then(a:Int)+z.length else a) z.length)=(a:Int):=by rw[l8 (by omega)];omega
 have cb:max 0 (min (if(b:Int)<0 then(b:Int)+z.length else b) z.length)=(b:Int):=by rw[l8 (by omega)];omega
 rw[ca,cb];have e:(if(a:Int)<b then((b:Int)-a+1-1) / 1 else 0).toNat=b-a:=by
  split
  .rw[Int.ediv_one];omega
  .simp;omega
 rw[e];refine mo λk hk=>?_;omega
theorem zhj{z:Str}{a:Nat}(ha:a<=z.length):(Txt.slice z (some (a:Int)) none).cps.toList=z.cps.toList.drop a:=by
 rw[Qq (a:=a) (b:=z.length) ha (lp _) ?_]
 .rw[List.take_of_length_le (by rw[mI];exact lp _)]
 unfold Builtin.Str.strSliceIndices sliceRange;simp only[show(1:Int)>0 by decide,if_true];have ca:max 0 (min (if(a:Int)<0 then(a:Int)+z.length else a) z.length)=(a:Int):=by rw[l8 (by omega)];omega
 rw[ca];have e:(if(a:Int)<z.length then((z.length:Int)-a+1-1) / 1 else 0).toNat=z.length-a:=by
  split
  .rw[Int.ediv_one];omega
  .simp;omega
 rw[e];refine mo λk hk=>?_;omega
theorem X0{a b:Str}(h:a.cps.toList=b.cps.toList):a=b:=by
 obtain⟨a⟩:=a;obtain⟨b⟩:=b;exact mw Str.mk (Array.ext' h)
noncomputable abbrev sgS(c:Nat):Str:=⟨#[c]⟩
noncomputable abbrev sgW(c:Nat):W:=.d (.str (sgS c))
def isLet(c:Nat):Prop:=(97<=c/\c<=122)\/(65<=c/\c<=90)
def vm(c:Nat):Prop:=48<=c/\c<=57
noncomputable instance (c:Nat):Decidable (isLet c):=by unfold isLet;infer_instance
noncomputable instance (c:Nat):Decidable (vm c):=by unfold vm;infer_instance
noncomputable def uu(c:Nat):PyData:=if c= 10 then .tuple [.str (Str.ofString "line")]else if c= 9 then .tuple [.str (Str.ofString "tab")]else .tuple [.str (Str.ofString "sign"),.str (sgS c)]
noncomputable def zjy:PyData->Bool
 |.none=>true
 |_=>false
noncomputable def rwD(b:List Nat)(c:Nat):List PyData:=if zjy (vk ⟨(b.drop 1).toArray⟩)=true then[]else[.tuple [.str (Str.ofString "row"),.str (sgS c),vk ⟨(b.drop 1).toArray⟩]]
noncomputable def rdS(b:List Nat)(c:Nat):List Nat×List PyData:=
 if b≠[]/\isLet c then([],rwD b c)
 else if b≠[]/\(vm c\/c= 59)then(b++[c],[])
 else if c≠126\/b.length= 1 then([],[uu c])else([126],[])
noncomputable def rdF:List Nat->List Nat->List Nat×List PyData
 |b,[]=>(b,[])
 |b,c::cs=>((rdF (rdS b c).1 cs).1,(rdS b c).2++(rdF (rdS b c).1 cs).2)
theorem X1:∀(cs:List Nat) (b ds:List Nat),rdF b (cs++ds)=((rdF (rdF b cs).1 ds).1,(rdF b cs).2++(rdF (rdF b cs).1 ds).2)
 |[],b,ds=>by simp[rdF]
 |c::cs,b,ds=>by simp[rdF,X1 cs]
theorem zeN(b cs:List Nat)(c:Nat):rdF b (cs++[c])=((rdS (rdF b cs).1 c).1,(rdF b cs).2++(rdS (rdF b cs).1 c).2):=by
 rw[X1];simp[rdF]
def okG(b:List Nat):Prop:=∀c∈b.drop 1,c= 59\/(48<=c/\c<=57)
theorem X2:okG []:=λc h=>by cases h
theorem Qr(h:okG b)(c:Nat):okG (rdS b c).1/\(rdS b c).1.length<=b.length+1/\(rdS b c).2.length<=1:=by
 unfold rdS;split
 .refine⟨X2,lO _,?_⟩
  show(rwD b c).length<=1;unfold rwD;split
  .exact lO _
  .exact lp _
 .split
  .rename_i q
   refine⟨λd hd=>?_,by simp,lO _⟩;have hd':d∈(b++[c]).drop 1:=hd;cases b with
   |nil=>exact absurd rfl q.1
   |cons a b=>
    have hd2:d∈b++[c]:=hd';rcases lz.mp hd2 with z|z
    .exact h d z
    .cases lh.mp z
     rcases q.2 with y|y
     .exact .inr y
     .exact .inl y
  .split
   .exact⟨X2,lO _,lp _⟩
   .exact⟨λd hd=>(by cases hd),(by simp),lO _⟩
theorem jC:∀(cs:List Nat) {b:List Nat},okG b->okG (rdF b cs).1/\(rdF b cs).1.length<=b.length+cs.length/\(rdF b cs).2.length<=cs.length
 |[],b,h=>⟨h,lp _,lp _⟩
 |c::cs,b,h=>by
  obtain⟨h1,h2,h3⟩:=Qr h c;obtain⟨h4,h5,h6⟩:=jC cs h1;refine⟨h4,?_,?_⟩
  .show(rdF (rdS b c).1 cs).1.length<=_
   rw[lL];omega
  .show((rdS b c).2++(rdF (rdS b c).1 cs).2).length<=_
   rw[lI,lL];omega
theorem zjz(hb:∀x∈b,x<128)(h:c<128):∀x∈(rdS b c).1,x<128:=by
 intro x hx;unfold rdS at hx;split at hx
 .cases hx
 .split at hx
  .rcases lz.mp (show x∈b++[c]from hx)with z|z
   .exact hb x z
   .cases lh.mp z;exact h
  .split at hx
   .cases hx
   .cases lh.mp hx;decide
theorem zcB:∀{cs b:List Nat},(∀x∈b,x<128)->(∀c∈cs,c<128)->∀x∈(rdF b cs).1,x<128
 |[],b,hb,_=>hb
 |c::cs,b,hb,h=>zcB (cs:=cs) (zjz hb (h c li)) λx hx=>h x (lj _ hx)
def zeO(z:Str):Prop:=z.length<=100000/\∀c∈z.cps.toList,c= 59\/(48<=c/\c<=57)
theorem zeP{z p:Str}(hz:zeO z)(hp:p∈Txt.split z xZ):okD p/\p.length<=100000:=by
 have e:=StrLaws.join_split z xZ;refine⟨λc hc=>?_,lT (part_short hp) hz.1⟩;have h1:c∈z.cps.toList:=by
  rw[<-e];exact(mem_join xZ c _).mpr (.inl ⟨p,hp,hc⟩)
 rcases hz.2 c h1 with h|h
 .exact absurd (h▸hc) (StrLaws.split_free z 59 p hp)
 .exact h
def zcC:SpW:=λws O R=>∃z,ws=[.d (.str z)]/\zeO z/\R (.d (vk z)) O
def zf8:SpW:=λws O R=>∃c,ws=[sgW c]/\R (.d (.bool (decide (isLet c)))) O
def zf9:SpW:=λws O R=>∃c,ws=[sgW c]/\R (.d (.bool (decide (vm c)))) O
def X3:SpW:=λws O R=>∃c,ws=[sgW c]/\R (.d (uu c)) O
structure RdAt (C:Addr) (O:OM) (x dx p:Addr) (b:List Nat):Prop where
 x:O x=some (.ins C dx [(Str.ofString "begun",.own p)])
 p:O p=some (.lst (b.map sgW))
def Ho(O O':OM)(x p:Addr):Prop:=∀a,O a≠none->a≠x->a≠p->O' a=O a
theorem RdAt.ne{x:Addr}(h:RdAt C O x dx p b):x≠p:=λe=>by
 have:=h.x;rw[e,h.p]at this;cases this
def Qs(C:Addr):SpW:=λws O R=>∃x dx,ws=[.own x]/\O x=some (.ins C dx [])/\∀p O',O p=none->RdAt C O' x dx p []->(∀a,a≠x->a≠p->O' a=O a)->R (.d .none) O'
def Zl(C:Addr):SpW:=λws O R=>∃x dx p b,ws=[.own x]/\RdAt C O x dx p b/\b.length<=100000/\R (.d (.str ⟨b.toArray⟩)) O
def zaE(C:Addr):SpW:=λws O R=>∃x dx p b c,ws=[.own x,sgW c]/\RdAt C O x dx p b/\b≠[]/\okG b/\b.length<=100000/\∀q p' O',RdAt C O' x dx p' []->Ho O O' x p->O p'=none->O q=none->q≠p'->O' q=some (.lst ((rwD b c).map .d))->R (.own q) O'
def Qt(C:Addr):SpW:=λws O R=>∃x dx p b c,ws=[.own x,sgW c]/\RdAt C O x dx p b/\okG b/\b.length<100000/\∀q p' O',RdAt C O' x dx p' (rdS b c).1->Ho O O' x p->(p'=p\/O p'=none)->O q=none->q≠p'->O' q=some (.lst ((rdS b c).2.map .d))->R (.own q) O'
def Xg(C:Addr):SpW:=λws O R=>∃x dx p b z,ws=[.own x,.d (.str z)]/\RdAt C O x dx p b/\okG b/\z.cps.all (· < 128)=true/\b.length+z.length<=90000/\∀p' O',RdAt C O' x dx p' (rdF b z.cps.toList).1->Ho O O' x p->(p'=p\/O p'=none)->R (.d (.list (rdF b z.cps.toList).2)) O'
structure Rdr (K:W.Frag) (C:Addr):Prop where
 cl:Cls K C
 n_begun:NoAttr K C "begun"
theorem Sim.shrink{O':OM}(S:Sim K Γ O' H)(h:Old O O'):Sim K Γ O H:=by
 have k1:∀{x:Addr}{o:OO},O x=some o->O' x=some o:=λ{x o} e=>by rw[h x (by rw[e];simp)];exact e
 have k0:∀{x:Addr},O' x=none->O x=none:=λ{x} e=>by
  cases q:O x with
  |none=>rfl
  |some o=>rw[k1 q]at e;cases e
 refine⟨S.z,λx o e=>?_,S.gd,S.f,λx o e hn=>S.gn x o (k1 e) hn,S.fg,λx o e=>⟨(S.fd x o e).1,k0 (S.fd x o e).2.1,λb rows rs e1=>(S.fd x o e).2.2 b rows rs (k1 e1)⟩,λx b ra rb rs ss r e1 e2=>S.u x b ra rb rs ss r (k1 e1) (k1 e2)⟩;obtain⟨h1,h2⟩:=S.o _ _ (k1 e);refine⟨h1,h2.keep (Le.refl _) rfl rfl λrs r hg ⟨rows,hrw⟩ hr=>?_⟩;subst hrw;obtain⟨_,q2,_⟩:=S.rowIn (k1 e) hg hr;refine⟨rfl,rfl,?_⟩;rw[q2];exact k0 q2
theorem FnOk.forget{CX:CXT}{k:Nat}{ps:List Str}{s s':SpW}(F:FnOk P w K mg base CX k f fd ps (za K s'))
  (h:∀ws O R,s ws O R->s' ws O λw O'=>Old O O'/\R w O):FnOk P w K mg base CX k f fd ps (za K s):=
 F.imp λvs H Q E ⟨Γ,O,ws,R,S,r,hs,k⟩=>⟨Γ,O,ws,_,S,r,h ws O R hs,λΓ' O' H' w v l S' rw⟨ho,hR⟩=>k Γ' O H' w v l (S'.shrink ho) rw hR⟩
def zeQ(wi:TI)(n:Nat)(js:List Nat)(g:TG)(tt:TT)(te:TE):TE:=tLc wi n js g tt te
section
variable {js:List Nat}{scope:Scope}{cl:List (Str×Addr)}{elt iter:Expr}{ifs:List Expr}{wi:TI}{g:TG}{tt:TT}{te:TE}
theorem jD(L:LcOk X N n js scope cl)(hc:X.calm=true)(hi:PI X tg iter wi)
  (hg:∀C s0 H0 fp0,PG (yz X N scope cl C s0 H0 fp0) tg g)(ht:∀C s0 H0 fp0,PTs (yz X N scope cl C s0 H0 fp0) ifs tt)(he:∀C s0 H0 fp0,PE (yz X N scope cl C s0 H0 fp0) elt te)
  (hs:∀x,foldedSetIterable iter X.env x=pure x:=by intro _;rfl):PE X (.ListComp elt [⟨tg,iter,ifs,0⟩] scope pos) (zeQ wi n js g tt te):=vE L hc hi hg ht he hs
theorem zcD{pos' spos:Pos}(hN:X.N.Nodup)(hx:X.N[i]? =some x)(hk:X.env.scope.names.lookup x=some .local)(L:LcOk X N n js scope cl)(hc:X.calm=true)(hi:PI X tg iter wi)
  (hg:∀C s0 H0 fp0,PG (yz X N scope cl C s0 H0 fp0) tg g)(ht:∀C s0 H0 fp0,PTs (yz X N scope cl C s0 H0 fp0) ifs tt)(he:∀C s0 H0 fp0,PE (yz X N scope cl C s0 H0 fp0) elt te)
  (hsw:swapsWith (.ListComp elt [⟨tg,iter,ifs,0⟩] scope pos) (some (.Name x pos')) spos.line X.env=pure true:=by rfl)
  (hs:∀x,foldedSetIterable iter X.env x=pure x:=by intro _;rfl):PS X (.Assign [.Name x pos'] (.ListComp elt [⟨tg,iter,ifs,0⟩] scope pos) spos) (Yr (zeQ wi n js g tt te) (qI i)):=qf hN hx hk L hc hi hg ht he hsw hs
end
def zjA(Wi:TIW)(n:Nat)(js:List Nat)(G:TGW)(T:TTW)(E:TEW):TEW:=λρ O R=>Wi ρ O λws keep O1=>keep O1/\ws.length<=1000000/\∃Pd:PyData->Prop,
 (∀w∈ws,∀us:WS,us.length=n->Xa G T E n (yD js ρ) w (us++yD js ρ) O1 λy O2=>O2=O1/\∃d,y=some (.d d)/\Pd d)/\∀ds:List PyData,ds.length=ws.length->(∀d∈ds,Pd d)->R (.d (.list ds)) O1
theorem zhk{wi:TI}{Wi:TIW}{js:List Nat}{g:TG}{G:TGW}{tt:TT}{T:TTW}{te:TE}{E:TEW}(hi:vp K wi Wi)(hg:RefG K g G)(ht:xy K tt T)(he:RefE K te E):RefE K (zeQ wi n js g tt te) (zjA Wi n js G T E):=by
 intro Γ O H ρ σ S r Q R hT k;refine hi _ _ _ _ _ S r _ _ hT λΓ1 O1 H1 J ws keep l1 S1 ok h1=>?_;obtain⟨hk,hlen,Pd,hF,hR⟩:=h1;intro D hD;have hFD:Γ1.F D=none:=S1.f.free hD;have r1:=qM (r.mono l1) n js;refine⟨fun i m σ' H'=>i<=ws.length/\m=ws.length - i/\∃ Γ' ρ' vs,Same Γ1.Z Γ'.Z/\(∀ a rs,Γ1.G a=some rs->∃ more,Γ'.G a=some (rs ++ more))/\Γ'.F=upd Γ1.F D (.lst vs)/\Sim K Γ' O1 H'/\relR K Γ' ρ' σ'/\
  ρ'.length=n+(yD js ρ).length/\ρ'.drop n=yD js ρ/\∃ds,ds.length=i/\(∀d∈ds,Pd d)/\Reps K Γ'.Z ds vs,⟨_,lO _,rfl,_,_,[],Same.refl _,λa rs h=>⟨[],by rw[lV];exact h⟩,rfl,S1.frameNew hD (.lst []),r1.setF,by simp,by simp,[],rfl,λd h=>(by cases h),rfl⟩,?_⟩
 rintro i m σ' H' ⟨hi,rfl,Γ',ρ',vs,z',g',f',S',r',n1,n2,ds,hdl,hdp,rp⟩;obtain⟨ok1,ok2⟩:=ok i Γ' O1 H' z' g' S' hk;have hvl:vs.length<=i:=by
  rw[<-Reps.length rp];omega
 by_cases hlt:i<ws.length
 .obtain⟨go,y⟩:=ok1 _ (ls hlt)
  refine .inr ⟨go,fun σ2 H2=>∃ Γ2 ρ2 vs2,Same Γ1.Z Γ2.Z/\(∀ a rs,Γ1.G a=some rs->∃ more,Γ2.G a=some (rs ++ more))/\Γ2.F=upd Γ1.F D (.lst vs2)/\Sim K Γ2 O1 H2/\relR K Γ2 ρ2 σ2/\
   ρ2.length=n+(yD js ρ).length/\ρ2.drop n=yD js ρ/\∃ds,ds.length=i+1/\(∀d∈ds,Pd d)/\Reps K Γ2.Z ds vs2,λσ2 H2 h=>⟨ws.length-(i+1),by omega,hlt,rfl,h⟩,λx H2 hy=>?_⟩
  obtain⟨Γ2,l2,S2,rx⟩:=y x H2 hy;obtain⟨us,hus,rfl⟩:=j5 n1 n2;have et:ws.take (i+1)=ws.take i++[ws[i]]:=(List.take_append_getElem hlt).symm;refine hg _ _ _ _ _ _ _ S2 (r'.mono l2) rx _ _ (hF _ (List.getElem_mem hlt) us hus) λΓ3 O3 H3 ρ3 σ3 l3 S3 r3 h3=>?_;obtain⟨⟨m1,m2⟩,h3⟩:=h3;refine ht _ _ _ _ _ S3 r3 _ _ h3 λΓ4 O4 H4 b l4 S4 h4=>?_;have l24:=(l2.trans l3).trans l4;have up:∀ Γ5,Le Γ' Γ5->Same Γ1.Z Γ5.Z/\(∀ a rs,Γ1.G a=some rs->∃ more,Γ5.G a=some (rs ++ more)):=fun Γ5 l=>⟨z'.trans l.z,fun a rs h=>by
   obtain⟨m,e⟩:=g' a rs h;obtain⟨m2,e2⟩:=l.g a _ e;exact⟨m++m2,by rw[<-mQ];exact e2⟩⟩
  cases b with
  |true=>
   rw[lg rfl]at h4 ⊢;refine he _ _ _ _ _ S4 (r3.mono l4) _ _ h4 λΓ5 O5 H5 w5 v5 l5 S5 r5 h5=>?_;obtain⟨rfl,h5⟩:=h5;have l25:=l24.trans l5;obtain⟨d,hy5,hd⟩:=h5;cases hy5;have f5:Γ5.F=upd Γ1.F D (.lst vs):=by rw[l25.f,f']
   have fD:Γ5.F D=some (.lst vs):=by rw[f5,zW]
   refine⟨vs,S5.f _ _ fD,(by rw[lS];omega),?_⟩;obtain⟨u1,u2⟩:=up Γ5 l25;refine⟨⟨Γ5.Z,Γ5.G,upd Γ5.F D (.lst (vs++[v5]))⟩,ρ3,vs++[v5],u1,u2,?_,S5.framePut fD _,((r3.mono l4).mono l5).setF,m1,m2,ds++[d],?_,?_,?_⟩
   .show upd Γ5.F D _=_
    rw[f5,XF]
   .simp[hdl]
   .intro e he
    rcases lz.mp he with he|he
    .exact hdp e he
    .cases lh.mp he;exact hd
   .exact Reps.snoc (Reps.same l25.z _ _ rp) r5
  |false=>
   rw[l8 (by decide)]at h4;obtain⟨_,d,h4,_⟩:=h4;cases h4
 .have hi2:i=ws.length:=by omega
  subst hi2;refine .inl ⟨ok2 rfl,?_⟩;obtain⟨q1,q2,q3⟩:=S'.unframe f' hFD rp;exact k ⟨upd Γ'.Z D (.lst vs),Γ'.G,Γ1.F⟩ _ _ _ _ (l1.trans ⟨rfl,z'.trans q1,g'⟩) q2 q3 (hR ds hdl hdp)
theorem ltA{a b:Nat}:((#[a]:Array Nat) < #[b])↔a<b:=by
 show([a]:List Nat)<[b]↔_;rw[List.cons_lt_cons_iff];simp
theorem leA{a b:Nat}:((#[a]:Array Nat)<=#[b])↔a<=b:=by
 show(¬(([b]:List Nat)<[a]))↔_;rw[List.cons_lt_cons_iff];simp
theorem Qu{a b:Nat}:((⟨#[a]⟩:Str)=⟨#[b]⟩)↔a=b:=by simp
theorem Zm{O1:OM}{x p' q:Addr}{b':List Nat}{L:List W}(h1:RdAt C O1 x dx p' b')(h2:Ho O O1 x p)(h3:∀a,O1 a=none->O a=none)(hq:O1 q=none) :
  RdAt C (updO O1 q (.lst L)) x dx p' b'/\Ho O (updO O1 q (.lst L)) x p/\O q=none/\q≠p'/\updO O1 q (.lst L) q=some (.lst L):=by
 have e1:x≠q:=λe=>by have:=h1.x;rw[e,hq]at this;cases this
 have e2:p'≠q:=λe=>by have:=h1.p;rw[e,hq]at this;cases this
 refine⟨⟨by rw[ze e1];exact h1.x,by rw[ze e2];exact h1.p⟩,λa ha hx hp=>?_,h3 q hq,Ne.symm e2,zf⟩;have:a≠q:=λe=>ha (by rw[e];exact h3 q hq);rw[ze this];exact h2 a ha hx hp
theorem zcE{x p':Addr}(h:RdAt C O x dx p b)(hp:O p'=none)(b':List Nat){O1:OM}(e:O1=updO (updO O p' (.lst (b'.map sgW))) x (.ins C dx [(Str.ofString "begun",.own p')])) :
  RdAt C O1 x dx p' b'/\Ho O O1 x p/\∀a,O1 a=none->O a=none:=by
 subst e;have e1:p'≠x:=λe=>by rw[e,h.x]at hp;cases hp
 refine⟨⟨zf,by rw[ze e1,zf]⟩,λa ha hx hpp=>?_,λa ha=>?_⟩
 .have:a≠p':=λe=>ha (by rw[e];exact hp)
  rw[ze hx,ze this]
 .by_cases q:a=x
  .subst q;rw[zf]at ha;cases ha
  .rw[ze q]at ha
   by_cases q2:a=p'
   .subst q2;exact hp
   .rw[ze q2]at ha;exact ha
theorem zcF{x:Addr}(h:RdAt C O x dx p b)(b':List Nat):RdAt C (updO O p (.lst (b'.map sgW))) x dx p b'/\Ho O (updO O p (.lst (b'.map sgW))) x p/\∀a,updO O p (.lst (b'.map sgW)) a=none->O a=none:=by
 refine⟨⟨by rw[ze h.ne];exact h.x,zf⟩,λa _ _ hp=>by rw[ze hp],λa ha=>?_⟩;by_cases q:a=p
 .subst q;rw[zf]at ha;cases ha
 .rw[ze q]at ha;exact ha
theorem zeR(b:List Nat):Txt.join noS (b.map sgS)=⟨b.toArray⟩:=zeJ b
theorem zaF(h:b≠[]):Txt.slice ⟨b.toArray⟩ (some 1) none=⟨(b.drop 1).toArray⟩:=by
 apply X0;have hl:1<=(⟨b.toArray⟩:Str).length:=by
  show 1<=b.toArray.size;rw[lC];exact List.length_pos_iff.mpr h
 have:=zhj (z:=⟨b.toArray⟩) (a:=1) hl;exact this
theorem xN{w:W}:List.lookup (Str.ofString "begun") [(Str.ofString "begun",w)]=some w:=by simp[List.lookup]
theorem zeS{xs:List Int}{N:Nat}(h:∀n∈xs,0<=n/\n<=N):∃ns:List Nat,(srt xs).map PyData.int=ns.map (λ(n:Nat)=>PyData.int n)/\ns.length=xs.length/\ns.Pairwise (·<=·)/\∀n∈ns,n<=N:=by
 have hm:∀n∈srt xs,0<=n/\n<=N:=λn hn=>h n ((List.mergeSort_perm xs _).mem_iff.mp hn);refine⟨(srt xs).map Int.toNat,?_,by rw[l6,jw],?_,λn hn=>?_⟩
 .rw[lM]
  refine mo λn hn=>?_;show PyData.int n=PyData.int ((n.toNat:Nat):Int);rw[Int.toNat_of_nonneg (hm n hn).1]
 .rw[List.pairwise_map]
  exact(zbX xs).imp λ{a b} h=>by omega
 .obtain⟨k,hk,rfl⟩:=lJ.1 hn
  have:=hm k hk;omega
theorem VT{N:Nat}:∀{ns:List Nat}{a:Nat},(a::ns).Pairwise (·<=·)->(∀n∈a::ns,n<=N)->∀q∈List.zip (a::ns) (ns++[N]),q.1<=q.2/\q.2<=N
 |[],a,_,h,q,hq=>by
  simp at hq;subst hq;exact⟨h a li,lp _⟩
 |n::ns,a,hp,h,q,hq=>by
  obtain⟨p1,p2⟩:=mL.mp hp;rcases lm.mp (show q∈(a,n)::List.zip (n::ns) (ns++[N])from hq)with rfl|hq
  .exact⟨p1 n li,h n (lj _ li)⟩
  .exact VT p2 (λm hm=>h m (lj _ hm)) q hq
theorem Ks{L:List Nat}:∀{ns:List Nat}{a:Nat},(a::ns).Pairwise (·<=·)->(∀n∈a::ns,n<=L.length)->((List.zip (a::ns) (ns++[L.length])).map λq=>(L.drop q.1).take (q.2-q.1)).flatten=L.drop a
 |[],a,_,h=>by
  show((L.drop a).take (L.length-a)++[])=_;rw[lV,List.take_of_length_le (by rw[mI];exact lp _)]
 |n::ns,a,hp,h=>by
  obtain⟨p1,p2⟩:=mL.mp hp;have ih:=Ks (L:=L) p2 λm hm=>h m (lj _ hm);show((L.drop a).take (n-a)++((List.zip (n::ns) (ns++[L.length])).map λq=>(L.drop q.1).take (q.2-q.1)).flatten)=_;rw[ih];have e:L.drop n=(L.drop a).drop (n-a):=by rw[List.drop_drop];congr 1;have:=p1 n li;omega
  rw[e,List.take_append_drop]
theorem zeT{l1 l2:List Nat}:List.zipWith (λa b=>W.d (.tuple [a,b])) (l1.map λ(n:Nat)=>PyData.int n) (l2.map λ(n:Nat)=>PyData.int n)=(List.zip l1 l2).map λq=>W.d (.tuple [.int q.1,.int q.2]):=by
 rw[List.zipWith_map,List.zip,List.map_zipWith]
theorem Kt{O':OM}{x:Addr}(hx:O x=none)(hp:updO O x (.ins C dx []) p=none)(ho:∀a,a≠x->a≠p->O' a=updO O x (.ins C dx []) a):Old O O'/\O p=none/\p≠x:=by
 have e:p≠x:=λe=>by rw[e,zf]at hp;cases hp
 rw[ze e]at hp;refine⟨λa ha=>?_,hp,e⟩;have h1:a≠x:=λe=>ha (by rw[e];exact hx);have h2:a≠p:=λe=>ha (by rw[e];exact hp);rw[ho a h1 h2,ze h1]
theorem RdAt.old{O':OM}{x:Addr}(r:RdAt C O x dx p b)(h:Old O O'):RdAt C O' x dx p b:=⟨by rw[h x (by rw[r.x];simp)];exact r.x,by rw[h p (by rw[r.p];simp)];exact r.p⟩
noncomputable def frz(w:W)(O:OM):Option (PyData×OM):=match w with
 |.d x=>some (x,O)
 |.own a=>match O a with
  |some (.lst ws)=>(yE ws).map λds=>(.list ds,del O a)
  |_=>none
 |_=>none
noncomputable def frzs:List W->OM->Option (List PyData×OM)
 |[],O=>some ([],O)
 |w::ws,O=>match frz w O with
  |some (d,O1)=>(frzs ws O1).map λq=>(d::q.1,q.2)
  |none=>none
noncomputable def inS(j i:Str):Bool:=!(Builtin.Str.occurrences j i 0 j.length 1).isEmpty
def zjB:R2W:=λx y O R=>∃i j,x=.d (.str i)/\y=.d (.str j)/\R (.d (.bool (inS j i))) O
theorem zkN:RefR K (λx y H Q=>∃i j,x=.str i/\y=.str j/\Q (.bl (!(Builtin.Str.occurrences j i 0 j.length 1).isEmpty)) H) zjB:=by
 rintro Γ O H x y v u S rx ry Q R ⟨i,j,rfl,rfl,h⟩ k;exact⟨i,j,rx,ry,k _ _ _ _ _ (Le.refl _) S yX h⟩
section
variable {O':OM}{xb db pb xr dr pr p' q:Addr}{bb br br' bb':List Nat}
end
section
variable {js:List Nat}{scope:Scope}{cl:List (Str×Addr)}{elt iter:Expr}{ifs:List Expr}{wi:TI}{g:TG}{tt:TT}{te:TE}
end
end L2
namespace PySem.AutoListH
open AutoSeq1 (wpAny_loadPart')
open MeetsSeq MeetsSeq2 MeetsSeq3 SeqRoads2
end PySem.AutoListH
namespace L2
open PySem PySem.Spec PyProof.Rows
section
variable (K:W.Frag)
end
def zjC(K:W.Frag):List V->Hp->VK->Prop:=zap K
theorem zjD(h:X.K=K):yw X (.builtin "isinstance") (zjC K):=ur h
theorem zhl{Ta:TEW}(h:RefE K ta Ta):RefE K (tCB (zjC K) (vj ta (vj (tC (.ty "list")) uz))) (Qk Ta):=zhi h
end L2
namespace PySem.MeetsSeq2
open AutoSeq1 (wpAny_loadPart')
open MeetsSeq
end PySem.MeetsSeq2
namespace L2
open PySem PySem.Spec PyProof.Rows
abbrev DSp(kvs:List (Str×Value))(D:List (Str×Int)):Prop:=Paired (λ(p:Str×Value) (q:Str×Int)=>p.1=q.1/\∃t,p.2=.int q.2 t) kvs D
structure DS (P:Program) (w:World) (K:W.Frag) (a:Addr) (D:List (Str×Int)):Prop where
 ns:(a==sysModules)=false
 ex:∃(kvs:List (Str×Value)) (ep:Nat),(∀h:Heap,K.In h->h.DictAt (strKind P w) a kvs ep)/\DSp kvs D
theorem Qv:∀{kvs:List (Str×Value)}{D:List (Str×Int)},PyProof.V.FlatPairs PyData.str kvs ((D.map λp=>(p.1,PyData.int p.2)).map λp=>(PyData.str p.1,p.2))->DSp kvs D
 |_,[],h=>by
  cases h;exact .nil
 |_,(y,i)::D,h=>by
  simp only[lG]at h;cases h with
  |cons hf ht=>
   refine .cons ⟨rfl,?_⟩ (Qv ht);cases hf (default:Heap)with
   |int _ t=>exact⟨t,rfl⟩
theorem DS.of{D:List (Str×Int)}(hl:KTD.tabLook KTD.flatLooks (λb=>K.lookup b) a (D.map λp=>(p.1,PyData.int p.2))=true)
  (hn:((D.map λp=>(p.1,PyData.int p.2)).map (·.1)).Nodup)(hh:KTD.hashesOf (λb=>K.lookup b) a=(D.map λp=>(p.1,PyData.int p.2)).map λp=>(strKind P w).hash p.1):DS P w K a D:=by
 simp only[KTD.tabLook,Bool.and_eq_true]at hl;obtain⟨h0,hl⟩:=hl;split at hl
 .rename_i o ho
  simp only[Bool.and_eq_true]at hl;obtain⟨⟨⟨e1,e2⟩,e3⟩,e4⟩:=hl;split at e4
  .rename_i es ep hd
   have hh':es.toList.map (·.hash)=(D.map λp=>(p.1,PyData.int p.2)).map λp=>(strKind P w).hash p.1:=by
    rw[<-hh];unfold KTD.hashesOf;simp only[ho,hd]
   obtain⟨hk,kvs,hp,hf,hm⟩:=KTD.strs_of_rows P w (KTD.rows_of_look (λ_ _ x=>KTD.flat_of_looks x) e4) hh';exact⟨by simpa using h0,kvs,ep,λh X=>⟨o,es,X _ _ ho,⟨beq_iff_eq.mp e1,by simpa using e2,by simpa using e3⟩,hd,λe he=>hk e (by simpa using he),hp,by rw[hm];exact hn⟩,Qv hf⟩
  .cases e4
 .cases hl
noncomputable def Iti(D:List (Str×Int)):It:=
  ⟨fun i _=>i < D.length,
   λi H v H'=>∃t p,v=.ref t/\H t=none/\D[i]? =some p/\H'=upd H t (.tup [.str p.1,.int p.2]),
   λi _=>D.length<=i⟩
theorem zaG{k:Nat}{a ep:Nat}{D:List (Str×Int)}{kvs:List (Str×Value)}(hat:∀h:Heap,K.In h->h.DictAt (strKind P w) a kvs ep)(hp:DSp kvs D) :
    Turn P w K (.Tuple es k pos) (Iti D) [n] n (λi h=>∃ok ov,IsItemIter h n a i kvs.length ep ok ov) where
  mem:=by simp
  obj:=λi h st c hc=>by
    obtain⟨ok,ov,hz⟩:=st;cases lh.1 hc;exact⟨_,hz,fun v z=>by
      have z':Data.fields _=Data.cell v:=z;cases z'⟩
  keep:=λi h h' st k=>by
    obtain⟨ok,ov,hz⟩:=st;exact⟨ok,ov,k _ (by simp) _ hz⟩
  item:=by
    intro X hP hw hK hc i pins s σ H E I hf st hg;subst hP hw hK;obtain⟨ok,ov,hz⟩:=st;have hg':i<D.length:=hg;obtain⟨q,hq,e1,t,e2⟩:=Paired.getQ hp (ls hg');obtain⟨qk,qv⟩:=q;simp only at e1 e2;subst e2;have hm:=hat s.heap I.kIn;refine wpAny_pyNext_items_item hz hm hq λkey h' hkey hz' hp' hsz kk=>?_;obtain⟨tk,rfl⟩:=Value.isStrOf_shape hkey;refine⟨_,rfl,wpAny_letOwnedTupleGo_items hz' λh3 z3 sb=>?_⟩;have hn:=I.hok.fresh (lp s.heap.objs.size);have I1:Inv X pins σ (upd H s.heap.objs.size (.tup [.str qk,.int D[i].2])) { s with heap:=s.heap.push { cls:=.type "tuple",data:=.seq [Value.str qk tk,Value.int D[i].2 t].toArray },toks:=s.toks }:=
      I.laid (t':=s.toks) (λb o e=>l9 _ e) (lp _) ⟨by show 2<=sizeLine;decide,[Value.str qk tk,Value.int D[i].2 t],.cons ⟨tk,rfl⟩ (.cons ⟨t,rfl⟩ .nil),IsTup.new s.heap _⟩
    have ln:n≠s.heap.objs.size:=lu (lq hz);have I2:=I1.turnedL (h':=h3) (t':=s.toks) (fp:=[n]) (fun c o hc q=>by
      have c0:c≠n:=λz=>hc (by simp[z]);by_cases hcz:c=s.heap.objs.size
      · subst hcz
        have q':(s.heap.push { cls:=.type "tuple",data:=.seq #[Value.str qk tk,Value.int D[i].2 t] }).get? s.heap.objs.size=some o:=q;rw[ly s.heap (o:={ cls:=.type "tuple",data:=.seq #[Value.str qk tk,Value.int D[i].2 t] }) rfl]at q';exact(sb.2 _ c0).trans (hp'.trans q')
      · have q':(s.heap.push { cls:=.type "tuple",data:=.seq #[Value.str qk tk,Value.int D[i].2 t] }).get? c=some o:=q
        rw[Heap.get?_push_ne _ _ _ hcz]at q';exact(sb.2 c c0).trans (kk c o c0 q')) λc hc=>by
          cases lh.1 hc;exact⟨by rw[zu ln];exact(hf n (by simp)).1,(hf n (by simp)).2⟩
    refine⟨.ref s.heap.objs.size,_,I2,rfl,⟨_,D[i],rfl,hn,ls hg',by rw [e1]⟩,⟨_,_,z3⟩,fun c hc=>by
      cases lh.1 hc;rw[zu ln];exact(hf n (by simp)).1⟩
  done:=by
    intro X hP hw hK hc i pins s σ H E I hf st hg;subst hP hw hK;obtain⟨ok,ov,hz⟩:=st;have hg':D.length<=i:=hg;have hm:=hat s.heap I.kIn;refine wpAny_pyNext_items_end (I.ok.hd hc) hz hm (List.getElem?_eq_none (by rw[lF hp];exact hg')) λh' kk=>⟨rfl,I.turnedL (t':=s.toks) (fp:=[n]) (λc o hc e=>kk c o (λz=>hc (by simp[z])) e) hf⟩
  self:=λ_ _ _ _ _ st h=>by
    obtain⟨ok,ov,hz⟩:=st;exact PySem.W.kcp_self hz h
def Qw(P:Program)(w:World)(K:W.Frag)(to:TE):TI:=λσ H R=>to σ H λx H1=>∃a D,x=.ref a/\DS P w K a D/\R (Iti D) H1
theorem zeU{k:Nat}{tp:Pos}{o:Expr}{to:TE}{apos cpos:Pos}(ho:PE X o to)(hbase:attributeBase o "items" X.env (eval o X.env)=eval o X.env:=by rfl)(hline:(apos.endLine==cpos.line)=true:=by rfl) :
  PI X (.Tuple es k tp) (.Call (.Attribute o "items" apos) [] [] cpos) (Qw X.prog X.w X.K to):=by
 intro pins s σ H R I h;refine wpAny_Call_method0_late hbase hline (thn (ho pins s σ H _ I h) λv s1 ⟨x,H1,I1,r1,a,D,ex,hD,q⟩=>?_);subst ex;cases r1;obtain⟨kvs,ep,hat,hp⟩:=hD.ex;have dd:=hat s1.heap I1.kIn;obtain⟨ob,bs,hob,hc,hrest⟩:=id dd;have dof:s1.heap.DictOf (strKind X.prog X.w) a kvs:=⟨ob,bs,ep,hob,hc,hrest⟩;refine⟨"dict","dict.items",PySem.F.plainAttrs_dict,PySem.F.slot_dict_items,PySem.F.type_dict_items,⟨ob,hob,hc.1⟩,λb e=>by injection e with e;subst e;exact⟨ob,hob,hc.2.1⟩,my rfl (PySem.evalArgs_none ?_)⟩;refine call_meetsIn PySem.F.slot_dict_items dof.typeIs PySem.F.entry_dict_items (PySem.F.args_dict_items_1 _) (meets_dict_items (strKind X.prog X.w) a hD.ns) ⟨⟨kvs,dof⟩,?_⟩;have hv:(s1.heap.push { cls:=.type "dict_items",data:=.fields #[.ref a] }).IsItemsView s1.heap.objs.size a:=⟨_,ly _ rfl,rfl,rfl⟩;have k1:∀b o,s1.heap.get? b=some o->(s1.heap.push { cls:=.type "dict_items",data:=.fields #[.ref a] }).get? b=some o:=λb o e=>l9 _ e;have I2:Inv X pins σ H1 { s1 with heap:=s1.heap.push { cls:=.type "dict_items",data:=.fields #[.ref a] } }:=I1.kept (t':=s1.toks) k1;refine wpAny_pyIter_items (knd:=strKind X.prog X.w) hv (hat _ I2.kIn) ?_;refine⟨_,[(s1.heap.push { cls:=.type "dict_items",data:=.fields #[.ref a] }).objs.size],_,_,H1,rfl,I2.kept (t':=s1.toks) λb o e=>l9 _ e,zaG (ep:=ep) hat hp,⟨.none,.none,ly _ rfl⟩,λc hc=>?_,q⟩;cases lh.1 hc;exact I2.fpOk (lp _) (I2.hok.fresh (lp _))
def zcG(P:Program)(w:World)(K:W.Frag)(To:TEW):TIW:=λρ O R=>To ρ O λx O1=>∃a D,x=.own a/\DS P w K a D/\R (D.map λp=>W.d (.tuple [.str p.1,.int p.2])) (λ_=>True) O1
theorem zaH{to:TE}{To:TEW}(h:RefE K to To):vp K (Qw P w K to) (zcG P w K To):=by
 intro Γ O H ρ σ S r Q R hT k;refine h _ _ _ _ _ S r _ _ hT λΓ1 O1 H1 x v l1 S1 r1 h1=>?_;obtain⟨a,D,rfl,hD,h1⟩:=h1;refine⟨a,D,r1,hD,k _ _ _ _ _ _ l1 S1 (λi Γ' O' H' hz hg S' e'=>⟨λw' hw=>?_,λhi=>?_⟩) h1⟩
 .rw[lw]at hw
  cases hd:D[i]? with
  |none=>rw[hd]at hw;cases hw
  |some p=>
   rw[hd]at hw;cases hw;refine⟨(lx.mp hd).1,λy H2 ⟨t,p',e1,e2,e3,e4⟩=>?_⟩;rw[hd]at e3;cases e3;subst e1 e4;obtain⟨Γ2,l2,S2,r2⟩:=Zb S' (ds:=[.str p.1,.int p.2]) (vs:=[.str p.1,.int p.2]) ⟨_,_,rfl,rfl,_,_,rfl,rfl,rfl⟩ e2;exact⟨Γ2,l2,S2,r2⟩
 .show D.length<=i
  rw[hi,l6];exact lp _
theorem Xh{i:Int}(h0:0<=i)(h1:i<=1000000):i.natAbs.log2<1920:=by
 by_cases hz:i.natAbs= 0
 .rw[hz]
  decide
 .refine(Nat.log2_lt hz).2 ?_
  have:i.natAbs<=1000000:=by omega
  exact Nat.lt_of_le_of_lt this (lH (show 1000000<2 ^ 20 by decide) (Nat.pow_le_pow_right (n:=2) (by decide) (show 20<=1920 by decide)))
def zga:List V->Hp->VK->Prop:=λxs H Q=>∃i,xs=[.int i]/\i.natAbs.log2<1920/\Q (.str (toString i)) H
theorem zcH:yw X (.type "str") zga:=UF
noncomputable def X4:V->Option Str
 |.str z=>if z.length<=1000 then some z else none
 |.int i=>if -1000000<=i/\i<=1000000 then some (toString i)else none
 |_=>none
def zjE(ta:TE)(z:Str)(tb:TE):TE:=λσ H Q=>ta σ H λx H1=>∃s1,X4 x=some s1/\s1.length<=1000/\tb σ H1 λy H2=>∃s2,X4 y=some s2/\s2.length<=1000/\Q (.str (((Str.empty++s1)++z)++s2)) H2
theorem zcI{x:V}{v:Value}{y:Str}(I:Inv X pins σ H s)(r:RelV x v)(e:X4 x=some y)(h:∀t s',Inv X pins σ H s'->Q (.str y t) s'):wpAny (model X.prog X.w) X.A (formatField v Str.empty) Q X.xe s:=by
 cases x with
 |str z=>
  obtain⟨t,rfl⟩:=r;simp only[X4]at e;split at e
  .rename_i hz
   cases e;exact formatField_str (λt' tk=>h t' _ (I.tok tk)) (by rw[lS];omega)
  .cases e
 |int i=>
  obtain⟨t,rfl⟩:=r;simp only[X4]at e;split at e
  .rename_i hz
   cases e;exact formatField_int_small (by have e:=Xh (i:=(i.natAbs:Int)) (by omega) (by omega);rwa[Int.natAbs_natCast]at e) (h _ _ (I.tok _))
  .cases e
 |_=>cases e
theorem Qx{a b:Expr}{z:Str}{k:Nat}{p1 p2 p3:Pos}{tb:TE}(ha:PE X a ta)(hb:PE X b tb)(hz:z.length<=1000):PE X (.JoinedStr [.FormattedValue a (-1) none p1,.Constant (.str z) k p2,.FormattedValue b (-1) none p3] pos) (zjE ta z tb):=by
 intro pins s σ H Q I h;refine JoinedStr_many (joinParts_cons (FormattedValue_plain (thn (ha pins s σ H _ I h) λv s1 ⟨x,H1,I1,r1,s1',e1,l1,q1⟩=>zcI I1 r1 e1 λt s2 I2=>?_)));have len:∀a b:Str,(a++b).length=a.length+b.length:=strLen_append;have le0:Str.empty.length= 0:=rfl;refine⟨by rw[len,le0,lS];omega,?_⟩;refine joinParts_cons (thn (zS (X:=X) (x:=z) pins s2 σ H1 (λv H'=>v=.str z/\H'=H1) I2 ⟨rfl,rfl⟩) λv s3 ⟨x',H',I3,r3,ex,eH⟩=>?_);subst ex eH;obtain⟨t3,rfl⟩:=r3;refine⟨by rw[len,len,le0,lS];omega,?_⟩;refine joinParts_cons (FormattedValue_plain (thn (hb pins s3 σ H' _ I3 q1) λv s4 ⟨y,H2,I4,r4,s2',e2,l2,q2⟩=>zcI I4 r4 e2 λt s5 I5=>?_));refine⟨by rw[len,len,len,le0,lS];omega,?_⟩;exact joinParts_nil ⟨.str _,H2,I5.tok _,⟨_,rfl⟩,q2⟩ (by rw[len,len,len,le0,lS];omega)
noncomputable def zaI:W->Option Str
 |.d (.str z)=>if z.length<=1000 then some z else none
 |.d (.int i)=>if -1000000<=i/\i<=1000000 then some (toString i)else none
 |_=>none
theorem zcJ{x:W}{y:Str}(r:relW K Γ x v)(e:zaI x=some y):X4 v=some y:=by
 cases x with
 |d d=>
  cases d with
  |str z=>rw[show v=V.str z from r];exact e
  |int z=>rw[show v=V.int z from r];exact e
  |_=>cases e
 |own _=>cases e
 |row _ _=>cases e
def zeV(Ta:TEW)(z:Str)(Tb:TEW):TEW:=λρ O R=>Ta ρ O λx O1=>∃s1,zaI x=some s1/\s1.length<=1000/\Tb ρ O1 λy O2=>∃s2,zaI y=some s2/\s2.length<=1000/\R (.d (.str (((Str.empty++s1)++z)++s2))) O2
theorem zhm{tb:TE}{Ta Tb:TEW}{z:Str}(ha:RefE K ta Ta)(hb:RefE K tb Tb):RefE K (zjE ta z tb) (zeV Ta z Tb):=by
 intro Γ O H ρ σ S r Q R hT k;refine ha _ _ _ _ _ S r _ _ hT λΓ1 O1 H1 x v l1 S1 rx h1=>?_;obtain⟨s1,e1,n1,h1⟩:=h1;refine⟨s1,zcJ rx e1,n1,hb _ _ _ _ _ S1 (r.mono l1) _ _ h1 λΓ2 O2 H2 y u l2 S2 ry h2=>?_⟩;obtain⟨s2,e2,n2,h2⟩:=h2;exact⟨s2,zcJ ry e2,n2,k _ _ _ _ _ (l1.trans l2) S2 vX h2⟩
end L2
namespace L2
open PySem PySem.W PySem.Spec PySem.Calls PyProof.Rows
theorem zcK{k:Nat}{tp:Pos}{o:Expr}{to:TE}{apos cpos:Pos}(hK:X.K=K)(hP:X.prog=P)(hw:X.w=w)(ho:PE X o to)(hbase:attributeBase o "items" X.env (eval o X.env)=eval o X.env:=by rfl)(hline:(apos.endLine==cpos.line)=true:=by rfl) :
  PI X (.Tuple es k tp) (.Call (.Attribute o "items" apos) [] [] cpos) (Qw P w K to):=by subst hK hP hw;exact zeU ho hbase hline
end L2
namespace L2
open PySem PySem.Spec PyProof.Rows
noncomputable def sp1:Str:=Str.ofString " "
theorem qo(a b:Nat):Builtin.bitAnd (a:Int) (b:Int)=((a &&& b:Nat):Int):=by
 unfold Builtin.bitAnd;rw[lQ (Int.natCast_nonneg a),lQ (Int.natCast_nonneg b)];rfl
noncomputable def bitsD:List (Str×Int):=[(Str.ofString "bold",64),(Str.ofString "under",128),(Str.ofString "turned",256)]
noncomputable def zaJ:Str:=Str.ofString "bold"
noncomputable def zaK:Str:=Str.ofString "under"
noncomputable def zaL:Str:=Str.ofString "turned"
noncomputable def X5:Str:=Str.ofString "fore"
noncomputable def zaM:Str:=Str.ofString "back"
noncomputable def fig(k:Nat):Str:=⟨#[48+k]⟩
noncomputable def bun(n:Nat):List (List Str):=(if n / 64%2=1 then[[zaJ]]else[])++(if n / 128%2=1 then[[zaK]]else[])++(if n / 256%2=1 then[[zaL]]else[])++(if n%8=0 then[]else[[X5,fig (n%8)]])++(if n / 8%8=0 then[]else[[zaM,fig (n / 8%8)]])
noncomputable def wl(n:Nat):List Str:=(bun n).flatten
noncomputable def inkT(n:Nat):Str:=if n= 0 then Str.ofString "plain" else Str.join sp1 ((bun n).map (Str.join sp1))
theorem zkO(h0:n≠0)(h:n<512):wl n≠[]:=by
 unfold wl bun;intro e;simp only[List.flatten_append,List.append_eq_nil_iff]at e;obtain⟨⟨⟨⟨e1,e2⟩,e3⟩,e4⟩,e5⟩:=e;have g1:n / 64%2≠1:=λz=>by rw[lg z]at e1;simp at e1
 have g2:n / 128%2≠1:=λz=>by rw[lg z]at e2;simp at e2
 have g3:n / 256%2≠1:=λz=>by rw[lg z]at e3;simp at e3
 have g4:n%8=0:=mr λz=>by rw[l8 z]at e4;simp at e4
 have g5:n / 8%8=0:=mr λz=>by rw[l8 z]at e5;simp at e5
 omega
section
variable {H':Hp}{h':Heap}
end
end L2
namespace PySem
open Sem (wp)
section
variable {K:Type}[DecidableEq K]{knd:KeyKind prog w K}
variable {z TI TO i1 i2:Addr}{fp1 fp2:List Addr}{n1 n2:Nat}{P1 P2:Nat->Value->Prop}{St1 St2:Nat->Heap->Prop}
end
end PySem
namespace L2
open PySem PySem.Spec PyProof.Rows
def zjF:W->List W->OM->WK->Prop:=λx ws O R=>∃a us y,x=.own a/\ws=[]/\O a=some (.lst us)/\us[us.length-1]? =some y/\R y (updO O a (.lst us.dropLast))
theorem Paired.dropLastP{α β:Type}{F:α->β->Prop}{xs:List α}{ys:List β}(r:Paired F xs ys):Paired F xs.dropLast ys.dropLast:=by
 have e:ys.length=xs.length:=(lF r).symm;rw[List.dropLast_eq_take,List.dropLast_eq_take,e];exact Paired.takeP r _
theorem Paired.eraseP{α β:Type}{F:α->β->Prop}{xs:List α}{ys:List β}(r:Paired F xs ys):∀k,Paired F (xs.eraseIdx k) (ys.eraseIdx k):=by
 induction r with
 |nil=>intro k;exact .nil
 |cons h t ih=>
  intro k;cases k with
  |zero=>exact t
  |succ k=>exact .cons h (ih k)
theorem zkP{T:String}:RefM K T zit zjF:=by
 rintro Γ O H x v xs vs S rx rs Q R ⟨a,us,y,rfl,rfl,ho,hy,h⟩ k;cases rs;cases(show v=.ref a from rx);obtain⟨_,vs,q1,q2⟩:=S.o _ _ ho;obtain⟨u,hu,ru⟩:=Paired.getP q2 hy;rw[lF q2]at hu;exact⟨a,vs,u,rfl,rfl,q1,hu,k _ _ _ _ _ (Le.refl _) (S.put (oo:=.lst _) ho (by intro _ h;cases h) (by intro _ h;cases h) ⟨_,zW,Paired.dropLastP q2⟩) ru h⟩
def zcL:W->List W->OM->WK->Prop:=λx ws O R=>∃a us y,∃n:Nat,x=.own a/\ws=[.d (.int n)]/\O a=some (.lst us)/\us[n]? =some y/\n<=1000/\R y (updO O a (.lst (us.eraseIdx n)))
theorem zhn{T:String}:RefM K T zbO zcL:=by
 rintro Γ O H x v xs vs S rx rs Q R ⟨a,us,y,n,rfl,rfl,ho,hy,hn,h⟩ k;cases rs with
 |cons rn t=>
  cases t;cases(show v=.ref a from rx);obtain⟨_,vs,q1,q2⟩:=S.o _ _ ho;obtain⟨u,hu,ru⟩:=Paired.getP q2 hy;have hlt:n<vs.length:=(lx.mp hu).1;refine⟨a,vs,n,n,u,rfl,by rw[show _=V.int n from rn],q1,by omega,by omega,?_,hu,k _ _ _ _ _ (Le.refl _) (S.put (oo:=.lst _) ho (by intro _ h;cases h) (by intro _ h;cases h) ⟨_,zW,Paired.eraseP q2 n⟩) ru h⟩;unfold seqIndex?;have h1:¬((n:Int)<0):=by omega
  have h2:¬((n:Int)≥(vs.length:Int)):=by omega
  simp[h1,h2,hlt]
def zgb:List W->OM->WK->Prop:=λxs O R=>∃i:Int,xs=[.d (.int i)]/\-1000000<=i/\i<=1000000/\R (.d (.str (toString i))) O
theorem zjG:RefC K zga zgb:=by
 rintro Γ O H xs vs S rs Q R ⟨i,rfl,h0,h1,h⟩ k;cases rs with
 |cons rx t=>
  cases t;refine⟨i,by rw[show _=V.int i from rx],?_,k _ _ _ _ _ (Le.refl _) S vX h⟩;have e:=Xh (i:=(i.natAbs:Int)) (by omega) (by omega);rwa[Int.natAbs_natCast]at e
theorem Ku(hc:X.calm=true):yw X (.builtin "sorted") Up:=UW hc
def zgc:List W->OM->WK->Prop:=λxs O R=>∃a kvs,∃ns:List Int,xs=[.own a]/\O a=some (.dK kvs)/\kvs.map (·.1)=ns.map (Sum.inl:Int->Key)/\ns.length<64/\R (.d (.list ((srt ns).map .int))) O
theorem zjH:RefC K Up zgc:=by
 rintro Γ O H xs vs S rs Q R ⟨a,kvs,ns,rfl,ho,hk,hl,h⟩ k;cases rs with
 |cons rx t=>
  cases t;obtain⟨_,us,q1,q2⟩:=S.o _ _ ho;refine⟨a,us,ns,by rw[show _=V.ref a from rx],q1,by rw[<-Xe q2];exact hk,hl,λp hp=>?_⟩;obtain⟨Γ',l',S',r'⟩:=qi S (j9 (srt ns)) hp;exact k _ _ _ _ _ l' S' r' h
theorem Ux{T1 T2 U:TSW}{D:EndsW}{ρ:WS}(J:WS->OM->Prop)(ht:∀R:WS->OM->Prop,(∀ρ' O',J ρ' O'->R ρ' O')->xY T1 T2 { D with nx:=R } ρ O)(hu:∀ρ' O',J ρ' O'->U D ρ' O'):xY T1 (xY T2 U) D ρ O:=ht (U D) hu
noncomputable def strI(i:Int):Str:=toString i
structure MA where
 sp:Addr
 kq:Addr
 q:Addr
section
variable {A:MA}
end
def ButO(O O':OM)(xs:List Addr):Prop:=∀b,b∉xs->O b≠none->O' b=O b
section
variable {O' O1:OM}{x st kp d:Addr}{A:MA}{S' S1:ST}{xs:List Addr}
theorem ButO.refl:ButO O O xs:=λ_ _ _=>rfl
theorem ButO.trans(a:ButO O O1 xs)(b:ButO O1 O' xs):ButO O O' xs:=λc h1 h2=>by
 have e:=a c h1 h2;rw[b c h1 (by rw[e];exact h2),e]
theorem ButO.upd{o:OO}(h:a∈xs):ButO O (updO O a o) xs:=λb hb _=>ze λe=>hb (by rw[e];exact h)
theorem ButO.old(h:ButO O O' xs):∀{b:Addr}{o:OO},O b=some o->b∉xs->O' b=some o:=λ{b o} e hb=>by rw[h b hb (by rw[e];simp),e]
theorem ButO.mono{ys:List Addr}(h:ButO O O' xs)(m:∀b∈xs,b∈ys):ButO O O' ys:=λb hb h0=>h b (λz=>hb (m b z)) h0
theorem But.butO(h:But O O' x p):ButO O O' [x,p]:=λb hb _=>h b (λe=>hb (by simp[e])) (λe=>hb (by simp[e]))
theorem Old.butO(h:Old O O'):ButO O O' xs:=λb _ hb=>h b hb
theorem StAt.butO(s:StAt O C x dx p st kp S)(h:ButO O O' xs)(h1:x∉xs)(h2:p∉xs)(h3:st∉xs)(h4:kp∉xs):StAt O' C x dx p st kp S:=
 ⟨h.old s.x h1,h.old s.p h2,h.old s.st h3,h.old s.kp h4⟩
end
noncomputable def goS(c:Nat)(n:Int)(S:ST):ST:=
 if c= 117 then{ S with row:=if eT S>S.row-n then eT S else S.row-n }else if c= 100 then{ S with row:=if eB S<S.row+n then eB S else S.row+n }
 else if c= 108 then{ S with col:=if eL S>S.col-n then eL S else S.col-n }else if c= 114 then{ S with col:=if eR S<S.col+n then eR S else S.col+n }else S
noncomputable def offS(S:ST):ST:={ S with late:=false }
def ltr(c:Nat):Prop:=c= 117\/c= 100\/c= 108\/c= 114
def zeW(C:Addr):SpW:=λws O R=>∃c n,ltr c/\NumD n/\sSt C [.d (.str ⟨#[c]⟩),.d n] (λ_=>True) (λS=>offS (goS c (oneD n) S)) ws O R
noncomputable def qW(S:ST):KP:=⟨S.row,S.col,S.late,S.ink,S.wrap,S.putting,S.home⟩
noncomputable def keepS(S:ST):ST:={ S with kept:=(if S.kept.length<8 then S.kept else S.kept.drop 1)++[qW S] }
noncomputable def backS(S:ST):ST:=match S.kept[S.kept.length-1]? with
 |some k=>{ S with row:=k.row,col:=k.col,late:=k.late,ink:=k.ink,wrap:=k.wrap,putting:=k.putting,home:=k.home,kept:=S.kept.dropLast }
 |none=>S
inductive sKeep (C:Addr) (f:ST->ST) (ws:List W) (O:OM) (R:WK):Prop
 |mk:∀x dx p st kp S,ws=[.own x]->StAt O C x dx p st kp S->S.kept.length<=8->(∀O',StAt O' C x dx p st kp (f S)->ButO O O' [x,kp]->R (.d .none) O')->sKeep C f ws O R
noncomputable def plT(S:ST):Str:=if S.home=true then strI (S.row+1-S.top)++Str.ofString ";" ++ strI (S.col+1-S.left)else strI (S.row+1)++Str.ofString ";" ++ strI (S.col+1)
noncomputable def szT(S:ST):Str:=strI S.w++Str.ofString "x" ++ strI S.h
inductive sTold1 (C:Addr) (f:ST->Str) (ws:List W) (O:OM) (R:WK):Prop
 |mk:∀x dx p st kp S,ws=[.own x]->StAt O C x dx p st kp S->Bds S->R (.d (.str (f S))) O->sTold1 C f ws O R
noncomputable def ansD(S:ST):PyData->List Str
 |.none=>[plT S]
 |.int i=>if i= 0\/i= 1 then[plT S]else if i= 2 then[szT S]else if i= 3 then[inkT S.ink.toNat]else[]
 |_=>[]
noncomputable def ansL(S:ST)(ns:List PyData):List Str:=(ns.map (ansD S)).flatten
inductive sAsked (C:Addr) (ws:List W) (O:OM) (R:WK):Prop
 |mk:∀x dx p st kp S,∀ns:List PyData,ws=[.own x,.d (.tuple ns)]->ns.length<=6->(∀n∈ns,NumD n)->StAt O C x dx p st kp S->Bds S->(∀q O',O q=none->O' q=some (.lst (((ansL S ns).map .str).map .d))->Old O O'->R (.own q) O')->sAsked C ws O R
theorem xv{c:TTW}{T U:TSW}{D:EndsW}{ρ:WS}(q:Prop)[Decidable q](hc:∀R:Bool->OM->Prop,R (decide q) O->c ρ O R)(ht:q->T D ρ O)(hu:¬q->U D ρ O):uB c T U D ρ O:=by
 refine hc _ ?_;show if decide q=true then T D ρ O else U D ρ O
 by_cases h:q
 .rw[lg (lQ h)];exact ht h
 .rw[l8 (by simp[h])];exact hu h
theorem yj{Tv:TEW}{U:TSW}{D:EndsW}{ρ:WS}{x:Addr}{fs fs':List (Str×W)}{y:W}{fn:Str}(hc:Cls K C)(hn:NoAttr K C fn)(e:yu fn y fs=fs')(hv:∀R:WK,R y (updO O x (.ins C dx fs))->Tv ρ (updO O x (.ins C dx fs)) R)(hl:fs.length<1000)(hr:ρ[i]? =some (some (.own x)))(h:U D ρ (updO O x (.ins C dx fs'))):xY (Uw K (yk i) Tv fn) U D ρ (updO O x (.ins C dx fs)):=by
 refine hv _ ?_;show yk i ρ _ _;unfold yk;rw[hr];refine⟨C,dx,fs,zf,hc,hn,hl,?_⟩;show U D ρ _;rw[yL,e];exact h
theorem jE{x:Addr}{o:OO}(h:O x=some o):O=updO O x o:=by
 funext b
 by_cases e:b=x
 .rw[e,zf,h]
 .rw[ze e]
inductive sMixM (ws:List W) (O:OM) (R:WK):Prop
 |mk:∀c k:Int,ws=[.d (.int c),.d (.int k)]->0<=k->k<=1000->(∀n:Int,0<=n->n<100000000->R (.d (.int n)) O)->sMixM ws O R
inductive sSizeM (ws:List W) (O:OM) (R:WK):Prop
 |mk:∀c:Int,ws=[.d (.int c)]->0<=c->(∀w h:Nat,1<=w->w<=24->1<=h->h<=12->R (.d (.tuple [.int w,.int h])) O)->sSizeM ws O R
theorem Z5{n:PyData}{a b:Int}(h:a<=b):a<=Zg n a b/\Zg n a b<=b:=by
 have:=xa (n:=n);unfold Zg;split<;>omega
theorem Bds.pl{r c:PyData}(h:Bds S):Bds (plS r c S):=by
 have t:=h.tb;have t0:=h.t0;have b1:=h.b1;have lr:=h.lr;have l0:=h.l0;have rr:=h.rr;have w1:=h.w1;have h1:=h.h1;have a1:=Z5 (n:=r) t;have a2:=Z5 (n:=c) lr;have a3:=Z5 (n:=r) (show(0:Int)<=S.h-1 by omega);have a4:=Z5 (n:=c) (show(0:Int)<=S.w-1 by omega);unfold plS;split
 .exact{ h with r0:=by simp only;omega,r1:=by simp only;omega,c0:=by simp only;omega,c1:=by simp only;omega }
 .exact{ h with r0:=by simp only;omega,r1:=by simp only;omega,c0:=by simp only;omega,c1:=by simp only;omega }
theorem Kv{m:PyData}{s:Int}:xM m s<=s:=by
 unfold xM;split
 .split
  .omega
  .split<;>omega
 .omega
theorem Bds.rows{a b:PyData}(h:Bds S):Bds (rowsS a b S):=by
 have o:=xa (n:=a);have e:=Kv (m:=b) (s:=S.h);unfold rowsS;split
 .exact h
 .exact Bds.pl { h with t0:=by simp only;omega,tb:=by simp only;omega,b1:=by simp only;omega }
theorem Bds.cols{a b:PyData}(h:Bds S):Bds (colsS a b S):=by
 have o:=xa (n:=a);have e:=Kv (m:=b) (s:=S.w);unfold colsS;split
 .exact h
 .exact Bds.pl { h with l0:=by simp only;omega,lr:=by simp only;omega,rr:=by simp only;omega }
theorem Bds.dye{ns:List PyData}(h:Bds S):Bds (dyeS ns S):=by
 have key:∀(ns:List PyData) (i:Int),Ink i->Ink (ns.foldl dyeI i):=λns=>by
  induction ns with
  |nil=>exact λi h=>h
  |cons n ns ih=>exact λi h=>ih _ (Qd h)
 have:=key ns S.ink ⟨h.i0,h.i1⟩;exact{ h with i0:=this.1,i1:=this.2 }
theorem zkQ(h:Bds S):0<=eT S/\eT S<=S.row:=by
 have:=h.t0;have:=h.r0;unfold eT;split<;>omega
theorem zkR(h:Bds S):S.row<=eB S/\eB S<S.h:=by
 have:=h.b1;have:=h.r1;unfold eB;split<;>omega
theorem zkS(h:Bds S):eL S<=S.col:=by
 have:=h.c0;unfold eL;split<;>omega
theorem Bds.goS{n:Int}(hn:0<=n)(h:Bds S):Bds (goS c n S):=by
 have t:=zkQ h;have b:=zkR h;have l:=Uu h;have l2:=zkS h;have r:=qN h;have:=h.r0;have:=h.r1;have:=h.c0;have:=h.c1;unfold L2.goS
 repeat' split
 all_goals first|exact h|exact{ h with r0:=by simp only;omega,r1:=by simp only;omega } |exact{ h with c0:=by simp only;omega,c1:=by simp only;omega }
def KOk(S:ST):Prop:=S.kept.length<=8/\∀k∈S.kept,0<=k.row/\k.row<S.h/\0<=k.col/\k.col<S.w/\Ink k.ink
theorem KOk.keep(h:KOk S)(b:Bds S):KOk (keepS S):=by
 refine⟨?_,λk hk=>?_⟩
 .unfold keepS
  simp only[lI,List.length_singleton];split
  .omega
  .rw[mI];have:=h.1;omega
 .unfold keepS at hk
  simp only[lz,lh]at hk;rcases hk with hk|rfl
  .split at hk
   .exact h.2 k hk
   .exact h.2 k (List.mem_of_mem_drop hk)
  .exact⟨b.r0,b.r1,b.c0,b.c1,b.i0,b.i1⟩
theorem zho(h:KOk S)(b:Bds S):KOk (backS S)/\Bds (backS S):=by
 unfold backS;split
 .rename_i k hk
  obtain⟨r0,r1,c0,c1,i0,i1⟩:=h.2 k (lK hk);exact⟨⟨by simp;have:=h.1;omega,λz hz=>h.2 z (List.dropLast_subset _ hz)⟩,{ b with r0:=r0,r1:=r1,c0:=c0,c1:=c1,i0:=i0,i1:=i1 }⟩
 .exact⟨h,b⟩
section
variable {O':OM}{x st kp d:Addr}{A:MA}{r c:PyData}{k:Int}{on:Bool}{ns:List PyData}
theorem KOk.of{S':ST}(h:KOk S)(e:S'.w=S.w/\S'.h=S.h/\S'.stops=S.stops/\S'.kept=S.kept):KOk S':=by
 obtain⟨e1,e2,_,e4⟩:=e;unfold KOk;rw[e1,e2,e4];exact h
end
end L2
namespace L2
open PySem PySem.Spec PyProof.Rows PySem.Builtin PySem.Builtin.Str
noncomputable def zlW:Str:=⟨#[58]⟩
noncomputable def nl:Str:=⟨#[10]⟩
def okW(r:Rw6):Prop:=1<=r.length/\r.length<=24/\okR r/\∀c∈r,0<=c.2/\c.2<512
end L2
namespace L2
open PySem PySem.Spec PyProof.Rows
section
variable {te:TE}{lo hi:Option Expr}{tl th:TO}{p2:Pos}
end
def zaN(C:Addr):SpW:=λws O R=>∃n,NumD n/\sSt C [.d n] Bds (cellsS (oneD n)) ws O R
noncomputable def wipP(f:PF)(k:Int)(w:Nat)(a b:Int):PF:=λi j=>if j<w/\a<=(i:Int)*w+j/\(i:Int)*w+j<b then blank k else f i j
noncomputable def wipS(a b:Int)(S:ST):ST:={ S with pic:=wipP S.pic S.ink S.w a b,late:=false }
def zaO(C:Addr):SpW:=λws O R=>∃a b:Int,0<=a/\a<=1000/\0<=b/\b<=1000/\sSt C [.d (.int a),.d (.int b)] (λS=>Bds S/\b<=(S.h:Int)*S.w) (wipS a b) ws O R
def zaP(C:Addr):SpW:=λws O R=>∃n,NumD n/\sSt C [.d n] Bds (λS=>wipS (S.row*S.w+S.col) (S.row*S.w+(if(S.w:Int)<S.col+oneD n then(S.w:Int)else S.col+oneD n)) S) ws O R
theorem Qy{f:PF}{k:Int}{w:Nat}{a:Int}:wipP f k w a a=f:=by
 funext i j
 unfold wipP;rw[l8 (by omega)]
theorem zhp{f:PF}{k:Int}{w:Nat}{a b:Int}(h:b<=a):wipP f k w a b=f:=by
 funext i j
 unfold wipP;rw[l8 (by omega)]
theorem zcM{f:PF}{k:Int}{w:Nat}{a b:Int}(h0:0<=b)(hab:a<=b)(hw:1<=w):setF (wipP f k w a b) (b / w).toNat (b%w).toNat (blank k)=wipP f k w a (b+1):=by
 have w0:(0:Int)<w:=by omega
 have e1:b%w=b-w*(b / w):=by have:=Int.mul_ediv_add_emod b w;omega
 have e2:0<=b%(w:Int):=Int.emod_nonneg _ (by omega);have e3:b%(w:Int)<w:=Int.emod_lt_of_pos _ w0;have e4:0<=b / (w:Int):=Int.ediv_nonneg h0 (by omega);have key:∀i j:Nat,j<w->((i:Int)*w+j=b↔i=(b / w).toNat/\j=(b%w).toNat):=λi j hj=>by
  constructor
  .intro h
   have q1:b / w=i:=by
    rw[<-h,Int.add_comm,Int.add_mul_ediv_right _ _ (by omega),Int.ediv_eq_zero_of_lt (by omega) (by omega)];omega
   have q2:b%w=j:=by
    rw[<-h,Int.add_comm,Int.add_mul_emod_self_right,Int.emod_eq_of_lt (by omega) (by omega)]
   exact⟨by omega,by omega⟩
  .rintro⟨rfl,rfl⟩
   rw[Int.toNat_of_nonneg e4,Int.toNat_of_nonneg e2,Int.mul_comm];exact Int.mul_ediv_add_emod b w
 funext i j
 unfold setF;by_cases hj:j<w
 .by_cases h:i=(b / w).toNat/\j=(b%w).toNat
  .rw[lg h]
   have:=(key i j hj).2 h;unfold wipP;rw[lg ⟨hj,by omega,by omega⟩]
  .rw[l8 h]
   have nb:¬((i:Int)*w+j=b):=λz=>h ((key i j hj).1 z);unfold wipP;by_cases z:a<=(i:Int)*w+j/\(i:Int)*w+j<b
   .rw[lg ⟨hj,z⟩,lg ⟨hj,z.1,by omega⟩]
   .rw[l8 (λy=>z y.2),l8 (λy=>z ⟨y.2.1,by have:=y.2.2;omega⟩)]
 .rw[l8 (by omega)]
  unfold wipP;rw[l8 (λy=>hj y.1),l8 (λy=>hj y.1)]
noncomputable def spI(y:Int)(S:ST):Int×Int:=
 if y= 0 then(S.row*S.w+S.col,S.row*S.w+S.w)else if y= 1 then(S.row*S.w,S.row*S.w+S.col+1)else if y= 2 then(S.row*S.w,S.row*S.w+S.w)
 else if y= 3 then(S.row*S.w+S.col,S.w*S.h)else if y= 4 then(0,S.row*S.w+S.col+1)else if y= 5 then(0,S.w*S.h)else(0,0)
noncomputable def wayD:PyData->Int
 |.int i=>i
 |_=>0
def Uy(C:Addr):SpW:=λws O R=>∃x dx p st kp S m,ws=[.own x,.d m]/\NumD m/\StAt O C x dx p st kp S/\Bds S/\∀O',StAt O' C x dx p st kp (wipS (spI (wayD m) S).1 (spI (wayD m) S).2 S)->(∀b,b≠x->b≠p->O b≠none->O' b=O b)->R (.d .none) O'
theorem StAt.old{O':OM}{x st kp:Addr}(s:StAt O C x dx p st kp S)(h:Old O O'):StAt O' C x dx p st kp S:=
 ⟨by rw[h x (by rw[s.x];simp)];exact s.x,by rw[h p (by rw[s.p];simp)];exact s.p,by rw[h st (by rw[s.st];simp)];exact s.st,by rw[h kp (by rw[s.kp];simp)];exact s.kp⟩
theorem zjI(h:Bds S):0<=S.row*(S.w:Int)/\S.row*(S.w:Int)+S.w<=(S.w:Int)*S.h/\(S.w:Int)*S.h<=288:=by
 have r0:=h.r0;have r1:=h.r1;have w2:=h.w2;have h2:=h.h2;have m0:0<=S.row*(S.w:Int):=Int.mul_nonneg r0 (by omega);have m1:(S.row+1)*(S.w:Int)<=(S.h:Int)*S.w:=Int.mul_le_mul_of_nonneg_right (by omega) (by omega);have m2:(S.h:Int)*S.w<=12*24:=Int.mul_le_mul (by omega) (by omega) (by omega) (by omega);rw[Int.add_mul]at m1;rw[Int.mul_comm (S.w:Int) (S.h:Int)];omega
theorem zjJ(h:Bds S)(y:Int):0<=(spI y S).1/\(spI y S).1<=1000/\0<=(spI y S).2/\(spI y S).2<=1000/\(spI y S).2<=(S.w:Int)*S.h:=by
 obtain⟨a,b,c⟩:=zjI h;have c0:=h.c0;have c1:=h.c1;unfold spI
 repeat' split
 all_goals simp only;omega
theorem AllOk.wip{a b:Int}(h:AllOk S):AllOk (wipS a b S):=by
 refine⟨λi j hi hj=>?_,h.2⟩;show okC (wipP S.pic S.ink S.w a b i j);unfold wipP;split
 .show PyData.strOk (Str.ofString " ")=true
  decide +kernel
 .exact h.1 i j hi hj
def Z6(C:Addr):SpW:=λws O R=>sBegin C ws O R\/∃x dx p st kp S,ws=[.own x]/\StAt O C x dx p st kp S/\1<=S.w/\S.w<=24/\
 ∀st' kp' O',O st'=none->O kp'=none->StAt O' C x dx p st' kp' (st0 S.w S.h S.pic)->(∀b,b≠x->b≠st'->b≠kp'->O' b=O b)->R (.d .none) O'
noncomputable def newS(S:ST):ST:=wipS 0 ((S.w:Int)*S.h) (st0 S.w S.h S.pic)
inductive sAnew (C:Addr) (ws:List W) (O:OM) (R:WK):Prop
 |mk:∀x dx p st kp S,ws=[.own x]->StAt O C x dx p st kp S->Bds S->(∀st' kp' O',O st'=none->O kp'=none->StAt O' C x dx p st' kp' (newS S)->ButO O O' [x,p]->R (.d .none) O')->sAnew C ws O R
noncomputable def stopS(S:ST):ST:={ S with stops:=if S.col∈S.stops then S.stops else S.stops++[S.col] }
inductive sSetStop (C:Addr) (ws:List W) (O:OM) (R:WK):Prop
 |mk:∀x dx p st kp S,ws=[.own x]->StAt O C x dx p st kp S->S.stops.length<100->(∀O',StAt O' C x dx p st kp (stopS S)->ButO O O' [st]->R (.d .none) O')->sSetStop C ws O R
theorem zcN(l:List Int)(c:Int):uU (stK l) (Sum.inl c) (W.d (.bool true))=stK (if c∈l then l else l++[c]):=by
 unfold uU;have e:((stK l).any λkv=>decide (kv.1=(Sum.inl c:Key)))=decide (c∈l):=by
  rw[Bool.eq_iff_iff,List.any_eq_true,decide_eq_true_iff];unfold stK;constructor
  .rintro⟨kv,hk,h⟩
   obtain⟨i,hi,rfl⟩:=lJ.1 hk;have:=mf h;cases this;exact hi
  .intro h
   exact⟨_,lJ.2 ⟨c,h,rfl⟩,by simp⟩
 rw[e];by_cases h:c∈l
 .rw[lg (lQ h),lg h]
  unfold stK;rw[lM];apply mo;intro i _;simp only[Function.comp];split
  .rfl
  .rfl
 .rw[l8 (by simp[h]),l8 h]
  unfold stK;simp
structure Nx (O:OM) (A A':MA):Prop where
 sp:A'.sp=A.sp\/O A'.sp=none
 kq:A'.kq=A.kq\/O A'.kq=none
 q:A'.q=A.q\/O A'.q=none
 sk:A'.sp≠A'.kq
section
variable {k m:Nat}{sp:Sp}{f:Str}{dvs:List V}{a b o:Expr}{tb te:TE}{p apos pos':Pos}
theorem zo(c:Cal X.prog X.w X.K X.mg X.base k x dvs sp)(hr:Room m X.A)(q:QA X (e::es) t)(hk:k<=m:=by decide)(hg:Gl X x:=by rfl)(hdb:(x==("__debug__":Str))=false:=by decide)
  (he:starEach (e::es) X.env=(false,eval e X.env)::starEach es X.env:=by rfl)(hpl:(backTo pos (starEach es X.env)).any (·.1)=false:=by rfl):PE X (.Call (.Name x p) (e::es) [] pos) (ZY sp dvs E0 t):=zix c (hr.mono hk) hg q.pa hdb he hpl
theorem xV{pl:Sem Bool}(c:CalT X.prog X.w X.K X.mg X.base k x C sp)(hr:Room m X.A)(he:PE X o ta)(q:QA X (e::es) t)(hk:k<=m:=by decide)
    (hst:starEach (e::es) X.env=(false,eval e X.env)::starEach es X.env:=by rfl)(hpl:(backTo pos (starEach es X.env)).any (·.1)=false:=by rfl)
    (ht:eval (.Call (.Attribute o x apos) (e :: es) [] pos) X.env=(do
      let ov<-eval o X.env
      standAt apos.atName
      let(f,first)<-holding [ov] (getMethod ov x pl)
      callWith pos f first (backTo pos (starEach (e::es) X.env)) (backToKw pos (keywordEach [] X.env))):=by rfl):PE X (.Call (.Attribute o x apos) (e::es) [] pos) (ZZ C x sp [] E0 ta t):=ziF (pl:=pl) c (hr.mono hk) he q.pa hst hpl ht
theorem fl(K:W.Frag)(he:PE X e ta)(hK:X.K=K:=by rfl)(hb:attributeBase e f X.env (eval e X.env)=eval e X.env:=by rfl):PE X (.Attribute e f pos) (K4 K ta f):=zg6 hK he hb
theorem fs(K:W.Frag)(ha:PE X o ta)(hv:PE X e te)(hK:X.K=K:=by rfl)(hs:swapsWith e (some (.Attribute o f pos')) pos.line X.env=pure false:=by rfl):PS X (.Assign [.Attribute o f pos'] e pos) (K5 K ta te f):=zg7 hK ha hv hs
theorem zY(i:Nat)(hN:X.N.Nodup)(he:PE X e te)(hi:X.N[i]? =some x:=by rfl)(hx:Loc X.env.scope x:=by first|exact Or.inl rfl|exact Or.inr rfl)(hs:swapsWith e (some (.Name x pos')) pos.line X.env=pure false:=by rfl)(hf:X.fn x=true\/X.env.scope.names.lookup x=some .local:=by first|exact .inl rfl|exact .inr rfl|assumption) :
  PS X (.Assign [.Name x pos'] e pos) (Yr te (qI i)):=zic hN hi hx he hs hf
theorem zU{op:CmpOp}{r:R2}(ho:OpR X (compareOp op) r)(ha:PE X a ta)(hb:PE X b tb)(h:op≠.In:=by decide)(h2:op≠.NotIn:=by decide):PT X (.Compare a [op] [b] pos) (Uo (tOp r ta tb)):=vR ho ha hb (zbC b h h2)
theorem Xi{op:CmpOp}{r:R2}(ho:OpR X (compareOp op) r)(ha:PE X a ta)(hb:PE X b tb)(h:op≠.In:=by decide)(h2:op≠.NotIn:=by decide):PE X (.Compare a [op] [b] pos) (tOp r ta tb):=zgm ho ha hb (zbC b h h2)
theorem z9{r:R2}(hr:IxR X r)(ha:PE X a ta)(hb:PE X b tb)(hs:J9 b:=by exact λ_ _=>rfl):PE X (.Subscript a b pos) (tOp r ta tb):=zke hr ha hb hs
theorem y6{T U:TSW}{D:EndsW}{ρ:WS}(l:WS)(ht:∀R:WS->OM->Prop,R l O->T { D with nx:=R } ρ O)(hu:U D l O):xY T U D ρ O:=ht (U D) hu
end
theorem Fun.okU{qual:Str}{ps:List Str}{k:Nat}{s:SpW}{t:TS}{T:TSW}(F:Fun K x qual st f fd)(S:FnScope N ps (defScope st))(len:∀ws O R,s ws O R->ws.length=ps.length)
  (hP:∀{cdv:Value}{A:Around}{outer:List Env}{sh:Shared}{H:Hp}{E:XK},Room k (A.deeper (envOfC qual (defScope st) sh.heap.objs.size f cdv))->PSs (vT CX0 P w K mg base N qual (defScope st) f cdv A outer sh H E).nox (defBody st) t)
  (hR:RefS K t T)(hb:∀ws O R,s ws O R->T { nx:=λ_ O'=>Clo R (.d .none) O',rt:=Clo R } (ve N ws) O):FnOk P w K mg base CX0 (k+1) f fd ps (za K s):=F.okV S len (λ_ _ _ _ _ _ hr=>hP hr) hR hb
theorem FunD.okU{qual:Str}{ds:List Value}{ps:List Str}{k:Nat}{s:SpW}{t:TS}{T:TSW}(F:FunD K x qual st ds f fd)(S:FnScope N ps (defScope st))(len:∀ws O R,s ws O R->ws.length=ps.length)
  (hP:∀{cdv:Value}{A:Around}{outer:List Env}{sh:Shared}{H:Hp}{E:XK},Room k (A.deeper (envOfC qual (defScope st) sh.heap.objs.size f cdv))->PSs (vT CX0 P w K mg base N qual (defScope st) f cdv A outer sh H E).nox (defBody st) t)
  (hR:RefS K t T)(hb:∀ws O R,s ws O R->T { nx:=λ_ O'=>Clo R (.d .none) O',rt:=Clo R } (ve N ws) O):FnOk P w K mg base CX0 (k+1) f fd ps (za K s):=F.okV S len (λ_ _ _ _ _ _ hr=>hP hr) hR hb
noncomputable def rollT(up:Bool)(n:PyData)(S:ST):ST:={ rollS S.top (if up=true then oneD n else -(oneD n)) S with late:=false }
noncomputable def zaQ(up:Bool):Str:=if up=true then "R" else "D"
def Qz(C:Addr):SpW:=λws O R=>∃(up:Bool) (n:PyData),NumD n/\sSt C [.d (.str (zaQ up)),.d n] Bds (rollT up n) ws O R
theorem AllOk.roll{a s:Int}(h:AllOk S)(hB:Bds S)(ha:0<=a):AllOk (rollS a s S):=⟨PicOk.mv h.1 ha hB.b1 hB.l0 hB.rr,h.2⟩
theorem AllOk.left(h:AllOk S):AllOk (leftS S):=h
theorem AllOk.lineE(h:AllOk S)(hB:Bds S):AllOk (lineE S):=by
 have h1:=h.left;have hB1:=hB.left;unfold L2.lineE;dsimp only;split
 .exact h1.roll hB1 hB1.t0
 .split
  .exact h1
  .exact h1
theorem Inv.swap{d:Addr}{o o':HO}(I:Inv X pins σ H s)(hd:H d=some o)(nt:∀xs,o≠.tup xs)(nb:∀ps,o≠.tbl ps)(no:∀y,o≠.own y)(nf:∀q u,X.H₀ d≠some (.frz q u))
  (new:yr X.prog X.w (upd H d o') s.heap d o'):Inv X pins σ (upd H d o') s where
 ok:=I.ok
 os:=I.os
 bare:=I.bare
 base:=by
  refine⟨I.base.keep,I.base.slot,λb ob e n hx=>?_,I.base.there,λb xs e=>?_,λb ob u e=>?_,λb ps e=>?_⟩
  .have q:=I.base.free b ob e n hx
   rw[zu (λz=>by rw[z,hd]at q;cases q)];exact q
  .have q:=I.base.tups b xs e
   rw[zu (λz=>by rw[z,hd]at q;exact nt xs (lU q))];exact q
  .have q:=I.base.frzs b ob u e
   rw[zu (λz=>by rw[z]at e;exact nf _ _ e)];exact q
  .obtain⟨more,q⟩:=I.base.tbls b ps e
   refine⟨more,?_⟩;rw[zu (λz=>by rw[z,hd]at q;exact nb _ (lU q))];exact q
 loc:=I.loc
 cell:=I.cell
 free:=by
  rw[zu (λz=>by have q:=I.free;rw[z,hd]at q;cases q)];exact I.free
 freeC:=λx c e=>by
  have q:=I.freeC x c e;rw[zu (λz=>by rw[z,hd]at q;cases q)];exact q
 pin:=λp hp=>by
  obtain⟨a1,a2,a3⟩:=I.pin p hp;refine⟨a1,?_,a3⟩;rw[zu (λz=>by rw[z,hd]at a2;cases a2)];exact a2
 hok:=λb u e=>by
  by_cases z:b=d
  .subst z
   rw[zW]at e;cases e;exact new
  .rw[zu z]at e
   refine(I.hok b u e).stay (λ_ _ _ q=>q) (λc q=>?_) λc xs q=>?_
   .rw[zu (λz=>by rw[z,hd]at q;exact no _ (lU q))]
    exact q
   .rw[zu (λz=>by rw[z,hd]at q;exact nt _ (lU q))]
    exact q
 len:=I.len
theorem Inv.nofrz{d:Addr}(I:Inv X pins σ H s)(hd:H d=some (.dK kvs)):∀q u,X.H₀ d≠some (.frz q u):=λq u e=>by
 have z:=I.base.frzs d q u e;rw[hd]at z;cases z
theorem Inv.freeze{d:Addr}{o:Obj}(I:Inv X pins σ H s)(hd:H d=some (.dK kvs))(ho:s.heap.get? d=some o):Inv X pins σ (upd H d (.frz o (.dK kvs))) s:=
 I.swap hd (λ_ z=>nomatch z) (λ_ z=>nomatch z) (λ_ z=>nomatch z) (I.nofrz hd) ⟨ho,show yr X.prog X.w _ s.heap d (.dK kvs)from I.hok d _ hd⟩
theorem Inv.thaw{d:Addr}{o:Obj}(I:Inv X pins σ H s)(nf:∀q u,X.H₀ d≠some (.frz q u))(hd:H d=some (.frz o (.dK kvs))):Inv X pins σ (upd H d (.dK kvs)) s:=
 I.swap hd (λ_ z=>nomatch z) (λ_ z=>nomatch z) (λ_ z=>nomatch z) nf (show yr X.prog X.w _ s.heap d (.dK kvs)from(I.hok d _ hd).2)
def zjK(t:TS):TS:=λD σ H=>∃d kvs,H d=some (.dK kvs)/\t { D with nx:=λσ' H'=>(∃o,H' d=some (.frz o (.dK kvs)))/\D.nx σ' (upd H' d (.dK kvs)) } σ H
theorem zcO{t:TS}(h:PS X st t):PS X st (zjK t):=by
 intro pins s σ H D I ⟨d,kvs,hd,ht⟩;refine thn (h pins s σ H _ I ht) λf s' q=>?_;cases f with
 |next=>
  obtain⟨σ',H',I',⟨o,e⟩,q⟩:=q;exact⟨σ',_,I'.thaw (I.nofrz hd) e,q⟩
 |brk=>exact q
 |cont=>exact q
 |ret u=>exact q
noncomputable def Itd(d:Addr)(o:Obj)(kvs:List (Key×V)):It:=
 ⟨λi H=>H d=some (.frz o (.dK kvs))/\i<kvs.length,λi H x H'=>H'=H/\∃k v,kvs[i]? =some (k,v)/\x=kV k,λi H=>H d=some (.frz o (.dK kvs))/\kvs.length<=i⟩
theorem zeX{k:Key}(h:qH k u=true):RelV (kV k) u:=by
 rcases yF h with⟨i,t,rfl,rfl⟩|⟨x,t,rfl,rfl⟩
 .exact⟨t,rfl⟩
 .exact⟨t,rfl⟩
theorem zcP(d it:Addr)(o:Obj)(kvs:List (Key×V))(vs:List (Key×Value))(ep:Nat)(rel:KV kvs vs)(hat:∀h:Heap,h.get? d=some o->h.DictAt (yo P w) d vs ep) :
  Turn P w K tg (Itd d o kvs) [it] it (λi h=>h.IsKeyIter it d i vs.length ep) where
 mem:=lh.mpr rfl
 obj:=λi h st b hb=>by
  cases lh.mp hb;obtain⟨o,e,c,d⟩:=st;exact⟨o,e,λv z=>by rw[d]at z;cases z⟩
 keep:=λi h h' st k=>st.at λo e=>k it (lh.mpr rfl) o e
 item:=by
  intro X hP hw hK hc i pins s σ H E I hf st hg;subst hP hw hK;obtain⟨f0,f1,f2,f3,f4,f5⟩:=hf it (lh.mpr rfl);obtain⟨hfz,hi⟩:=hg;have od:=(show yr X.prog X.w H s.heap d (.frz o (.dK kvs))from I.hok d _ hfz).1;have len:=rel.length;obtain⟨⟨k,v⟩,hx⟩:∃p,vs[i]? =some p:=⟨vs[i],by simp[<-len,hi]⟩;refine wpAny_pyNext_dict_item st (hat _ od) hx λkey h' hkey st' sb=>?_;have I1:Inv X pins σ H { s with heap:=h' }:=I.turned (t':=s.toks) (λb o hb e=>(sb.2 b hb).trans e) f0 f1 f3 f4 f5;obtain⟨o',e,c,dd⟩:=id st';refine⟨key,rfl,ZW (s:={ s with heap:=h' }) e c dd (by decide) ⟨kV k,H,I1,zeX hkey,⟨rfl,?_⟩,st',λb hb=>(hf b hb).1⟩⟩;have hk:(kvs.map (·.1))[i]? =some k:=by rw[rel.keys,lw,hx];rfl
  rw[lw]at hk;obtain⟨⟨k',v'⟩,e1,e2⟩:=Option.map_eq_some_iff.mp hk;exact⟨k',v',e1,by rw[<-e2]⟩
 done:=by
  intro X hP hw hK hc i pins s σ H E I hf st hg;subst hP hw hK;obtain⟨f0,f1,f2,f3,f4,f5⟩:=hf it (lh.mpr rfl);obtain⟨hfz,hi⟩:=hg;have od:=(show yr X.prog X.w H s.heap d (.frz o (.dK kvs))from I.hok d _ hfz).1;have len:=rel.length;exact wpAny_pyNext_dict_end (I.ok.hd hc) st (hat _ od) (by simp;omega) λh' eb=>⟨rfl,I.turned (t':=s.toks) (λb o hb e=>eb b o hb e) f0 f1 f3 f4 f5⟩
 self:=λ_ _ _ _ _ st h=>wpAny_pyIter_keyiter st h
def zjL(tl:TE):TI:=λσ H R=>tl σ H λx H1=>∃a kvs,x=.ref a/\H1 a=some (.dK kvs)/\∀o,R (Itd a o kvs) (upd H1 a (.frz o (.dK kvs)))
theorem Kw{l:Expr}{tl:TE}(hl:PE X l tl):PI X tg l (zjL tl):=by
 intro pins s σ H R I h;refine thn (hl pins s σ H _ I h) λv s1 ⟨y,H1,I1,r1,q1⟩=>?_;obtain⟨a,kvs,rfl,e,q⟩:=q1;cases r1;obtain⟨z,hd,vs,rel,dd⟩:=jX I1.hok e;obtain⟨ep,hat⟩:=dd.dictAt;obtain⟨o,es,ho,xc⟩:=id hat;have I2:=I1.freeze e ho;refine wpAny_pyIter_dict hd hat ⟨s1.heap.objs.size,[s1.heap.objs.size],_,_,_,rfl,I2.kept (t':=s1.toks) λb o e=>l9 _ e,zcP a _ o kvs vs ep rel (λh e=>⟨o,es,e,xc⟩),⟨_,ly _ rfl,rfl,rfl⟩,λb hb=>?_,q o⟩;cases lh.mp hb;exact I2.fpOk (lp _) (I2.hok.fresh (lp _))
noncomputable def tK(ns:List Int):List (Key×V):=ns.map λi=>(Sum.inl i,V.bl true)
theorem zcQ{ns:List Int}:(tK ns).length=ns.length:=l6 ..
theorem zjM{ns:List Int}{k:Key}(h:(tK ns)[i]? =some (k,v)):∃z,ns[i]? =some z/\k=Sum.inl z:=by
 unfold tK at h;rw[lw]at h;obtain⟨z,e,q⟩:=Option.map_eq_some_iff.mp h;cases q;exact⟨z,e,rfl⟩
theorem zcR{ns:List Int}{c:Int}:xg (tK ns) (Sum.inl c)=if c∈ns then some (V.bl true)else none:=by
 induction ns with
 |nil=>rfl
 |cons a r ih=>
  by_cases e:a=c
  .subst e
   rw[lg (li ..)];exact jU rfl
  .have h1:xg (tK (a::r)) (Sum.inl c)=xg (tK r) (Sum.inl c):=jV (λz=>e (Sum.inl.inj z))
   rw[h1,ih];have:¬(c=a):=λz=>e z.symm;simp[lm,this]
theorem zhq{ns:List Int}{c:Int}:jT (tK ns) (Sum.inl c)=tK (ns.filter λz=>decide (z≠c)):=by
 unfold jT tK;rw[List.filter_map]
 congr 1
 refine List.filter_congr λz _=>?_;simp
theorem zcS{ns:List Int}{c:Int}(h:c∉ns):(ns.filter λz=>decide (z≠c))=ns:=
 List.filter_eq_self.mpr λz hz=>lQ λe=>h (e▸hz)
end L2
namespace PySem
open Sem (wp)
section
variable {K:Type}[DecidableEq K]
end
section
variable {K:Type}[DecidableEq K]{knd:HeapKind prog w K}
end
section
variable {K:Type}[DecidableEq K]{knd:KeyKind prog w K}
end
end PySem
namespace L2
open PySem PySem.Spec PyProof.Rows
noncomputable def zaR(r c:Nat):List Key:=[.inl (r:Int),.inl (c:Int)]
theorem Sim.raw(S:Sim K Γ O H){p:HO->Hp->Prop}(h:O a=some (.raw p)):∃o,H a=some o/\p o Γ.Z:=by
 obtain⟨_,o,h1,h2⟩:=S.o _ _ h;exact⟨o,h1,h2 _ (Same.refl _)⟩
theorem Z7:∀{ns:List Int}{vs:List (Key×V)},yx K Γ (stK ns) vs->vs=tK ns
 |[],_,h=>by cases h;rfl
 |n::ns,_,h=>by
  cases h with
  |cons a b=>
   rename_i q qs
   obtain⟨k,v⟩:=q;obtain⟨e1,e2⟩:=a;cases(show Sum.inl n=k from e1);cases(show v=V.bl true from e2);rw[Z7 b];rfl
theorem QB:∀(ns:List Int),yx K Γ (stK ns) (tK ns)
 |[]=>.nil
 |n::ns=>.cons ⟨rfl,rfl⟩ (QB ns)
def X6(ns:List Int)(o:Obj):HO->Hp->Prop:=λu _=>u=.frz o (.dK (tK ns))
def zjN(T:TSW):TSW:=λD ρ O=>∃d ns,O d=some (.dK (stK ns))/\T { D with nx:=λρ' O'=>∃o,O' d=some (.raw (X6 ns o))/\D.nx ρ' (updO O' d (.dK (stK ns))) } ρ O
theorem zhr{t:TS}{T:TSW}(h:RefS K t T):RefS K (zjK t) (zjN T):=by
 intro Γ O H ρ σ D DW S r ⟨d,ns,hd,hT⟩ e;obtain⟨_,vs,q1,q2⟩:=S.o _ _ hd;cases Z7 q2;refine⟨d,tK ns,q1,h _ _ _ _ _ _ _ S r hT ⟨λΓ' O' H' ρ' σ' l S' r' ⟨o,ho,h'⟩=>?_,e.rt,e.bk,e.ct⟩⟩;obtain⟨u,hu,rfl⟩:=S'.raw ho;exact⟨⟨o,hu⟩,e.nx _ _ _ _ _ l (S'.put (oo:=.dK _) ho (by intro _ h;cases h) (by intro _ h;cases h) ⟨_,zW,QB ns⟩) r' h'⟩
def zjO(T:TEW):TIW:=λρ O R=>T ρ O λw O1=>∃a ns,w=.own a/\O1 a=some (.dK (stK ns))/\∀o,R (ns.map λi=>.d (.int i)) (λO'=>O' a=some (.raw (X6 ns o))) (updO O1 a (.raw (X6 ns o)))
theorem zeY{t:TE}{T:TEW}(h:RefE K t T):vp K (zjL t) (zjO T):=by
 intro Γ O H ρ σ S r Q R hT k;refine h _ _ _ _ _ S r _ _ hT λΓ1 O1 H1 w v l1 S1 r1 h1=>?_;obtain⟨a,ns,rfl,ho,h1⟩:=h1;obtain⟨_,vs,q1,q2⟩:=S1.o _ _ ho;cases Z7 q2;refine⟨a,tK ns,r1,q1,λo=>k _ _ _ _ _ _ l1 (S1.put (oo:=.raw (X6 ns o)) ho (by intro _ h;cases h) (by intro _ h;cases h) ⟨_,zW,λZ _=>rfl⟩) (λi Γ' O' H' hz hg S' e'=>?_) (h1 o)⟩;obtain⟨u,hu,rfl⟩:=S'.raw e';refine⟨λw hw=>?_,λhi=>⟨hu,by rw[zcQ,hi,l6];exact lp _⟩⟩;rw[lw]at hw;obtain⟨z,hz1,rfl⟩:=Option.map_eq_some_iff.mp hw;refine⟨⟨hu,by rw[zcQ];exact(lx.mp hz1).1⟩,λx H2 ⟨e2,k',v',hk,hx⟩=>?_⟩;subst e2;obtain⟨z',e3,rfl⟩:=zjM hk;rw[hz1]at e3;cases e3;exact⟨Γ',Le.refl _,S',by rw[hx];rfl⟩
def zcT(Td Ty Tx:TEW):TEW:=λρ O R=>Td ρ O λx O1=>∃a kvs,x=.own a/\O1 a=some (.dK kvs)/\Ty ρ O1 λy O2=>Tx ρ O2 λz O3=>∃ns c,O3 a=some (.dK (stK ns))/\y=.d (.int c)/\
 (c∈ns->R (.d (.bool true)) (updO O3 a (.dK (stK (ns.filter λz=>decide (z≠c))))))/\(c∉ns->R z O3)
theorem zcU{td ty tx:TE}{Td Ty Tx:TEW}(hd:RefE K td Td)(hy:RefE K ty Ty)(hx:RefE K tx Tx):RefE K (zbU td ty tx) (zcT Td Ty Tx):=by
 intro Γ O H ρ σ S r0 Q R hT k;refine hd _ _ _ _ _ S r0 _ _ hT λΓ1 O1 H1 x v l1 S1 rx h1=>?_;obtain⟨a,kvs,rfl,ho,h1⟩:=h1;obtain⟨_,vs,q1,q2⟩:=S1.o _ _ ho;refine⟨a,rx,.inl ⟨vs,Rd.of q1⟩,hy _ _ _ _ _ S1 (r0.mono l1) _ _ h1 λΓ2 O2 H2 y u l2 S2 ry h2=>?_⟩;refine hx _ _ _ _ _ S2 (r0.mono (l1.trans l2)) _ _ h2 λΓ3 O3 H3 z t l3 S3 rz h3=>?_;obtain⟨ns,c,ho3,rfl,k1,k2⟩:=h3;obtain⟨_,vs3,q3,q4⟩:=S3.o _ _ ho3;cases Z7 q4;have l13:=(l1.trans l2).trans l3;refine⟨tK ns,.inl c,q3,ry,λv' hv=>?_,λhv=>?_⟩
 .rw[zcR]at hv
  by_cases hc:c∈ns
  .rw[lg hc]at hv
   cases hv;rw[zhq];exact k _ _ _ _ _ l13 (S3.put (oo:=.dK _) ho3 (by intro _ h;cases h) (by intro _ h;cases h) ⟨_,zW,QB _⟩) yX (k1 hc)
  .rw[l8 hc]at hv
   cases hv
 .rw[zcR]at hv
  by_cases hc:c∈ns
  .rw[lg hc]at hv
   cases hv
  .exact k _ _ _ _ _ l13 S3 rz (k2 hc)
def Kx:W->List W->OM->WK->Prop:=λx ws O R=>∃a kvs,x=.own a/\ws=[]/\O a=some (.dK kvs)/\R (.d .none) (updO O a (.dK []))
theorem zeZ{T:String}:RefM K T Kd Kx:=by
 rintro Γ O H x v xs vs S rx rs Q R ⟨a,us,rfl,rfl,ho,h⟩ k;cases rs;cases(show v=.ref a from rx);obtain⟨_,vs,q1,q2⟩:=S.o _ _ ho;exact⟨a,vs,rfl,rfl,q1,k _ _ _ _ _ (Le.refl _) (S.put (oo:=.dK []) ho (by intro _ h;cases h) (by intro _ h;cases h) ⟨_,zW,.nil⟩) vY h⟩
theorem ze0(hK:X.K=K)(hc:X.calm=true):k9 X (.builtin "min") ["default"] (UX K):=by
 subst hK;exact L2.call_minDf hc
theorem ze1(hK:X.K=K)(hc:X.calm=true):k9 X (.builtin "max") ["default"] (UY K):=by
 subst hK;exact L2.call_maxDf hc
def zaS(K:W.Frag)(r:List V->List V->Hp->VK->Prop)(rw:List W->List W->OM->WK->Prop):Prop:=∀Γ O H xs vs zs us,Sim K Γ O H->relWs K Γ xs vs->relWs K Γ zs us->∀(Q:VK) (R:WK),rw xs zs O R->(∀Γ' O' H' w v,Le Γ Γ'->Sim K Γ' O' H'->relW K Γ' w v->R w O'->Q v H')->r vs us H Q
def zjP(rw:List W->List W->OM->WK->Prop)(T Tk:TAW):TEW:=λρ O R=>T ρ O λws O1=>Tk ρ O1 λzs O2=>rw ws zs O2 R
theorem zhs{r:List V->List V->Hp->VK->Prop}{rw:List W->List W->OM->WK->Prop}{tk:TA}{T Tk:TAW}(hr:zaS K r rw)(h:xh K t T)(hk:xh K tk Tk):RefE K (ziE r t tk) (zjP rw T Tk):=by
 intro Γ O H ρ σ S r0 Q R hT k;refine h _ _ _ _ _ S r0 _ _ hT λΓ1 O1 H1 ws vs l1 S1 rs h1=>?_;refine hk _ _ _ _ _ S1 (r0.mono l1) _ _ h1 λΓ2 O2 H2 zs us l2 S2 rz h2=>?_;exact hr _ _ _ _ _ _ _ S2 (relWs.mono l2 rs) rz _ _ h2 λΓ3 O3 H3 w u l3=>k _ _ _ _ _ ((l1.trans l2).trans l3)
noncomputable def QC(d:Int):List Int->Int
 |[]=>d
 |a::r=>r.foldl min a
noncomputable def QD(d:Int):List Int->Int
 |[]=>d
 |a::r=>r.foldl max a
theorem Zn:∀(r:List Int) (a:Int),r.foldl min a∈a::r/\∀b∈a::r,r.foldl min a<=b
 |[],a=>⟨li ..,λb h=>by rw[lh.mp h];exact Int.le_refl _⟩
 |x::r,a=>by
  obtain⟨h1,h2⟩:=Zn r (min a x);have m:min a x=a\/min a x=x:=by omega
  have h3:=h2 _ (li ..);refine⟨?_,λb hb=>?_⟩
  .rcases lm.mp h1 with e|e
   .rw[List.foldl_cons,e]
    rcases m with m|m<;>rw[m]
    .exact li ..
    .exact lj _ (li ..)
   .exact lj _ (lj _ e)
  .rw[List.foldl_cons]
   rcases lm.mp hb with rfl|hb
   .omega
   .rcases lm.mp hb with rfl|hb
    .omega
    .exact h2 b (lj _ hb)
theorem Zo:∀(r:List Int) (a:Int),r.foldl max a∈a::r/\∀b∈a::r,b<=r.foldl max a
 |[],a=>⟨li ..,λb h=>by rw[lh.mp h];exact Int.le_refl _⟩
 |x::r,a=>by
  obtain⟨h1,h2⟩:=Zo r (max a x);have m:max a x=a\/max a x=x:=by omega
  have h3:=h2 _ (li ..);refine⟨?_,λb hb=>?_⟩
  .rcases lm.mp h1 with e|e
   .rw[List.foldl_cons,e]
    rcases m with m|m<;>rw[m]
    .exact li ..
    .exact lj _ (li ..)
   .exact lj _ (lj _ e)
  .rw[List.foldl_cons]
   rcases lm.mp hb with rfl|hb
   .omega
   .rcases lm.mp hb with rfl|hb
    .omega
    .exact h2 b (lj _ hb)
theorem ke:∀{ns:List Int}{vs:List V},relWs K Γ (ns.map λi=>.d (.int i)) vs->vs=ns.map V.int
 |[],_,h=>by cases h;rfl
 |n::ns,_,h=>by
  cases h with
  |cons a b=>
   rw[ke b];rw[show _=V.int n from a];rfl
def wDf(g:Int->List Int->Int):List W->List W->OM->WK->Prop:=λxs zs O R=>∃w ns d,xs=[w]/\zs=[.d (.int d)]/\z6 O w=some (ns.map λi=>.d (.int i))/\R (.d (.int (g d ns))) O
theorem zjQ:zaS K (UX K) (wDf QC):=by
 rintro Γ O H xs vs zs us S rx rz Q R ⟨w,ns,d,rfl,rfl,e,h⟩ k;cases rx with
 |cons ra t=>
  cases t;cases rz with
  |cons b t=>
   cases t;obtain⟨a,vs,rfl,q1,q2⟩:=yt S ra e;cases ke q2;refine⟨a,ns,d,rfl,by rw[show _=V.int d from b],q1,λe=>?_,λM hM hb=>?_⟩
   .subst e
    exact k _ _ _ _ _ (Le.refl _) S xS h
   .cases ns with
    |nil=>cases hM
    |cons x r=>
     obtain⟨h1,h2⟩:=Zn r x;have e:M=QC d (x::r):=Int.le_antisymm (hb _ h1) (h2 _ hM);subst e;exact k _ _ _ _ _ (Le.refl _) S xS h
theorem zjR:zaS K (UY K) (wDf QD):=by
 rintro Γ O H xs vs zs us S rx rz Q R ⟨w,ns,d,rfl,rfl,e,h⟩ k;cases rx with
 |cons ra t=>
  cases t;cases rz with
  |cons b t=>
   cases t;obtain⟨a,vs,rfl,q1,q2⟩:=yt S ra e;cases ke q2;refine⟨a,ns,d,rfl,by rw[show _=V.int d from b],q1,λe=>?_,λM hM hb=>?_⟩
   .subst e
    exact k _ _ _ _ _ (Le.refl _) S xS h
   .cases ns with
    |nil=>cases hM
    |cons x r=>
     obtain⟨h1,h2⟩:=Zo r x;have e:M=QD d (x::r):=Int.le_antisymm (h2 _ hM) (hb _ h1);subst e;exact k _ _ _ _ _ (Le.refl _) S xS h
theorem zht(d:Int):∀ns:List Int,QC d ns=d\/QC d ns∈ns
 |[]=>.inl rfl
 |_::_=>.inr (Zn _ _).1
theorem zhu(d:Int):∀ns:List Int,QD d ns=d\/QD d ns∈ns
 |[]=>.inl rfl
 |_::_=>.inr (Zo _ _).1
noncomputable def fwd(ns:List Int)(r c:Int):Int:=QC r (ns.filter λz=>decide (c<z/\z<r))
noncomputable def bwd(ns:List Int)(l c:Int):Int:=QD l (ns.filter λz=>decide (l<z/\z<c))
noncomputable def itF(f:Int->Int):Nat->Int->Int
 |0,c=>c
 |n+1,c=>f (itF f n c)
theorem zjS{ns:List Int}{r c N:Int}(hc:0<=c)(hr:0<=r)(hN:r<N):0<=fwd ns r c/\fwd ns r c<N:=by
 rcases zht r (ns.filter λz=>decide (c<z/\z<r))with e|e
 .unfold fwd;rw[e];exact⟨hr,hN⟩
 .have:=mf (List.mem_filter.mp e).2
  unfold fwd;omega
theorem zjT{ns:List Int}{l c N:Int}(hl:0<=l)(hc:c<N)(hN:l<N):0<=bwd ns l c/\bwd ns l c<N:=by
 rcases zhu l (ns.filter λz=>decide (l<z/\z<c))with e|e
 .unfold bwd;rw[e];exact⟨hl,hN⟩
 .have:=mf (List.mem_filter.mp e).2
  unfold bwd;omega
theorem QE{f:Int->Int}{N:Int}(hf:∀c,0<=c/\c<N->0<=f c/\f c<N):∀(n:Nat) {c:Int},0<=c/\c<N->0<=itF f n c/\itF f n c<N
 |0,_,h=>h
 |n+1,_,h=>hf _ (QE hf n h)
noncomputable def tabS(n:Nat)(S:ST):ST:={ S with col:=itF (fwd S.stops (eR S)) n S.col,late:=false }
noncomputable def bakS(n:Nat)(S:ST):ST:={ S with col:=itF (bwd S.stops (eL S)) n S.col,late:=false }
noncomputable def cutS(S:ST):ST:={ S with stops:=S.stops.filter λz=>decide (z≠S.col) }
noncomputable def clrS(S:ST):ST:={ S with stops:=[] }
noncomputable def Zp(a b:Int):W->Option PyData
 |.d (.int z)=>if a<z/\z<b then some (.int z)else none
 |_=>none
theorem Ky{a b z:Int}:if a<z/\z<b then some (W.d (.int z))=Option.map W.d (Zp a b (.d (.int z)))else none=Option.map W.d (Zp a b (.d (.int z))):=by
 simp only[Zp];split
 .rfl
 .rfl
noncomputable def zaT(a b:Int)(ns:List Int):List Int:=ns.filter λz=>decide (a<z/\z<b)
theorem Zq(a b:Int):∀ns:List Int,(ns.filterMap (Zp a b∘λi=>W.d (.int i)))=(zaT a b ns).map PyData.int
 |[]=>rfl
 |n::ns=>by
  have ih:=Zq a b ns;unfold zaT at ih ⊢;rw[mm,List.filter_cons];by_cases h:a<n/\n<b
  .rw[lg (lQ h)]
   simp only[Function.comp,Zp,lg h,lG];exact mw _ ih
  .rw[l8 (by simpa using h)]
   simp only[Function.comp,Zp,l8 h];exact ih
theorem QF(ns:List Int):z6 O (.d (.list (ns.map PyData.int)))=some (ns.map λi=>W.d (.int i)):=by
 simp only[z6,lM];rfl
noncomputable def X7(S:ST)(c:Int):ST:={ S with col:=c }
def Yz(C:Addr)(f:Nat->ST->ST):SpW:=λws O R=>∃n,NumD n/\sSt C [.d n] (λS=>Bds S/\S.stops.length<=1000) (f (oneD n).toNat) ws O R
inductive sStop (C:Addr) (f:ST->ST) (ws:List W) (O:OM) (R:WK):Prop
 |mk:∀x dx p st kp S,ws=[.own x]->StAt O C x dx p st kp S->(∀O',StAt O' C x dx p st kp (f S)->ButO O O' [st]->R (.d .none) O')->sStop C f ws O R
noncomputable def modeP(on:Bool)(S:ST):PyData->ST
 |.int k=>if k= 1 then{ S with wrap:=on }else if k= 2 then{ S with putting:=on }else if k= 3 then{ S with home:=on }else S
 |_=>S
noncomputable def is3:PyData->Bool
 |.int k=>decide (k= 3)
 |_=>false
noncomputable def modesS(ns:List PyData)(on:Bool)(S:ST):ST:=if ns.any is3=true then plS .none .none (ns.foldl (modeP on) S)else ns.foldl (modeP on) S
def sModesN(C:Addr):SpW:=λws O R=>∃ns on,(∀n∈ns,NumD n)/\sSt C [.d (.tuple ns),.d (.bool on)] (λ_=>True) (modesS ns on) ws O R
structure MkN (K:W.Frag) (C:Addr):Prop where
 makes:W.makesIn K C=true
 init:W.findIn K (.ref C) "__init__" =some (some (.builtin "object.__init__"))
 kp:W.keepIn K (.ref C)=true
structure CalN (K:W.Frag) (mg:Str->Option Value) (x:Str) (C:Addr):Prop where
 m:MkN K C
 g:mg x=some (.ref C)
def tMakeN(C:Addr):TE:=λσ H Q=>∀x dx,H x=none->H dx=none->dx≠x->Q (.ref x) (upd (upd H dx (.own x)) x (.ins C dx []))
section
variable {p:Pos}
theorem zcV{Q:VK}(M:MkN X.K C)(I:Inv X pins σ H s)
  (h:∀x dx,H x=none->H dx=none->dx≠x->Q (.ref x) (upd (upd H dx (.own x)) x (.ins C dx []))) :
  wpAny (model X.prog X.w) X.A (call (.ref C) []) (EP X pins σ Q) X.xe s:=by
 have hq:=h (s.heap.objs.size+1) s.heap.objs.size (I.hok.fresh (Nat.le_succ _)) (I.hok.fresh (lp _)) (lu (Nat.lt_succ_self _));have I2:=Inv.made (C:=C) I;have Y:=PySem.W.makes_of (M:=model X.prog X.w) I.kIn M.makes;have e2:((s.heap.push PySem.W.emptyDict).push (PySem.W.instObj C s.heap.objs.size)).get? (s.heap.objs.size+1)=some (PySem.W.instObj C s.heap.objs.size):=by
  have:=ly (s.heap.push PySem.W.emptyDict) (o:=PySem.W.instObj C s.heap.objs.size) rfl;rwa[Heap.size_push]at this
 refine wpAny_call (zbE I.kIn M.makes M.init (λself=>PySem.W.Looks.of_pure (PySem.W.oi_bind self)) ?_);have t1:PySem.W.Looks (model X.prog X.w) ((s.heap.push PySem.W.emptyDict).push (PySem.W.instObj C s.heap.objs.size)) (typeOf (.ref (s.heap.objs.size+1))) (.ref C):=PySem.W.Looks.andThen (PySem.W.Looks.ld e2) PySem.W.Looks.now;have t2:PySem.W.Looks (model X.prog X.w) ((s.heap.push PySem.W.emptyDict).push (PySem.W.instObj C s.heap.objs.size)) (isInstance (.ref (s.heap.objs.size+1)) (.type "object")) true:=PySem.W.Looks.andThen t1 (Y.top.keeps λb o e=>l9 _ (l9 _ e));refine codeAny_call_builtin PySem.W.oi_plain PySem.W.entry_oi (PySem.W.check_slot PySem.W.oi_kind PySem.W.oi_split t2 (PySem.W.oi_args _) ?_);rw[PySem.W.oi_run];exact lE ⟨rfl,⟨V.ref (s.heap.objs.size+1),_,I2,rfl,hq⟩⟩
theorem Kz(c:CalN X.K X.mg x C)(hg:Gl X x)(hdb:(x==("__debug__":Str))=false:=by decide):PE X (.Call (.Name x p) [] [] pos) (tMakeN C):=by
 intro pins s σ H Q I h;refine mJ (jr I hg c.g ?_ hdb);exact PySem.W.callWith_K0 I.kIn c.m.kp (zcV c.m I h)
end
def zjU(t u:TE):TE:=λσ H Q=>t σ H Q\/u σ H Q
theorem jF{t u:TE}(h1:PE X e t)(h2:PE X e u):PE X e (zjU t u):=by
 intro pins s σ H Q I h;rcases h with h|h
 .exact h1 pins s σ H Q I h
 .exact h2 pins s σ H Q I h
structure IsK (K:W.Frag) (C:Addr):Prop where
 cl:Cls K C
 ha:W.findIn K (.ref C) "__class__" =some (some (.builtin "object.__class__"))
 hn:W.specialIn K (.builtin "object.__class__") "__get__" =some (some (.builtin "getset_descriptor.__get__"))
 htk:W.takesIn K (.builtin "object.__class__")=some true
 hm:W.mroIn K C (.type "object")=some true
def zcW(C:Addr):TEW:=λρ O R=>∀x dx,O x=none->R (.own x) (updO O x (.ins C dx []))
theorem zcX:RefE K (tMakeN C) (zcW C):=by
 intro Γ O H ρ σ S r0 Q R hT k x dx hx hdx hne;have hx':upd H dx (.own x) x=none:=by rw[zu (Ne.symm hne)];exact hx
 have S2:=S.junk hdx (.own x);have S3:=S2.newO hx' (o:=.ins C dx []) (oo:=.ins C dx []) (by intro _ h;cases h) ⟨[],zW,.nil⟩;exact k _ _ _ _ _ (Le.refl _) S3 xm (hT x dx (S2.free hx').2.1)
def zjV(T U:TEW):TEW:=λρ O R=>T ρ O R\/U ρ O R
theorem zhv{t u:TE}{T U:TEW}(h1:RefE K t T)(h2:RefE K u U):RefE K (zjU t u) (zjV T U):=by
 intro Γ O H ρ σ S r0 Q R hT k;rcases hT with h|h
 .exact .inl (h1 _ _ _ _ _ S r0 _ _ h k)
 .exact .inr (h2 _ _ _ _ _ S r0 _ _ h k)
inductive Lt where
 |R|D|i|k|s|x|e|w
noncomputable def effP(l:Lt)(m:PyData)(S:ST):PF:=match l with
 |.R=>mvP S.pic S.ink S.top S.bottom S.left S.right (oneD m) 0
 |.D=>mvP S.pic S.ink S.top S.bottom S.left S.right (-(oneD m)) 0
 |.i=>if S.top<=S.row/\S.row<=S.bottom then mvP S.pic S.ink S.row S.bottom S.left S.right (-(oneD m)) 0 else S.pic
 |.k=>if S.top<=S.row/\S.row<=S.bottom then mvP S.pic S.ink S.row S.bottom S.left S.right (oneD m) 0 else S.pic
 |.s=>mvP S.pic S.ink S.row S.row S.col (eR S) 0 (-(oneD m))
 |.x=>mvP S.pic S.ink S.row S.row S.col (eR S) 0 (oneD m)
 |.e=>wipP S.pic S.ink S.w (S.row*S.w+S.col) (S.row*S.w+(if(S.w:Int)<S.col+oneD m then(S.w:Int)else S.col+oneD m))
 |.w=>wipP S.pic S.ink S.w (spI (wayD m) S).1 (spI (wayD m) S).2
noncomputable def effS(l:Lt)(m:PyData)(S:ST):ST:={ S with pic:=effP l m S,late:=false }
theorem zaU{m:PyData}:lineS (-(oneD m)) S=effS .i m S:=by
 unfold lineS effS effP;simp only;split<;>rfl
theorem zaV{m:PyData}:lineS (oneD m) S=effS .k m S:=by
 unfold lineS effS effP;simp only;split<;>rfl
theorem PicOk.wip{a b:Int}(h:PicOk S):PicOk { S with pic:=wipP S.pic S.ink S.w a b }:=by
 intro i j hi hj;show okC (wipP S.pic S.ink S.w a b i j);unfold wipP;split
 .show PyData.strOk (Str.ofString " ")=true
  decide +kernel
 .exact h i j hi hj
theorem AllOk.eff{l:Lt}{m:PyData}(h:AllOk S)(hB:Bds S):AllOk (effS l m S):=by
 have e:=qN hB;refine⟨?_,h.2⟩;show PicOk { S with pic:=effP l m S };cases l<;>simp only[effP]
 .exact PicOk.mv h.1 hB.t0 hB.b1 hB.l0 hB.rr
 .exact PicOk.mv h.1 hB.t0 hB.b1 hB.l0 hB.rr
 .split
  .exact PicOk.mv h.1 hB.r0 hB.b1 hB.l0 hB.rr
  .exact h.1
 .split
  .exact PicOk.mv h.1 hB.r0 hB.b1 hB.l0 hB.rr
  .exact h.1
 .exact PicOk.mv h.1 hB.r0 hB.r1 hB.c0 e.2
 .exact PicOk.mv h.1 hB.r0 hB.r1 hB.c0 e.2
 .exact PicOk.wip h.1
 .exact PicOk.wip h.1
theorem Bds.put{c:Str}(h:Bds S):Bds (putS0 c S):=by
 rw[vq];exact(show Bds (L2.pE c (L2.pD c (L2.pC (L2.pB (L2.pA S)))))from{ h.pA.pB.pC with }).pF
theorem AllOk.put{c:Str}(h:AllOk S)(hB:Bds S)(hc:PyData.strOk c=true):AllOk (putS0 c S):=by
 rw[vq];have h1:AllOk (pA S):=by
  unfold pA;split
  .exact h.lineE hB
  .exact h
 have h2:AllOk (pB (pA S)):=h1;have hB2:=hB.pA.pB
 generalize pB (pA S)=S2 at *
 have h3:AllOk (pC S2):=by
  unfold pC;split
  .exact⟨PicOk.mv h2.1 hB2.r0 hB2.r1 hB2.c0 (qN hB2).2,h2.2⟩
  .exact h2
 generalize pC S2=S3 at *
 have h4:AllOk (pE c (pD c S3)):=⟨PicOk.set h3.1 hc,zjt hc⟩
 generalize pE c (pD c S3)=S4 at *
 unfold pF;split
 .exact h4
 .exact h4
theorem yN{k:Nat}{z:Str}{A B:TSW}{D:EndsW}{ρ:WS}(hz:z=⟨#[k]⟩)(hv:ρ[i]? =some (some (.d (.str ⟨#[c]⟩))))(h1:c=k->A D ρ O)(h2:c≠k->B D ρ O):uB (xz (wOp vEq (yk i) (wC (.str z)))) A B D ρ O:=by
 refine xv (c=k) (λR hR=>?_) h1 h2;unfold xz wOp yk;rw[hv];refine⟨rfl,rfl,rfl,?_⟩;have e:decide (vOf (.str ⟨#[c]⟩)=vOf (.str z))=decide (c=k):=by
  rw[hz];simp[vOf]
 show R (decide (vOf (.str ⟨#[c]⟩)=vOf (.str z))) O;rw[e];exact hR
structure Nxt (O O':OM) (C x dx p st kp st' kp':Addr) (S':ST):Prop where
 s:StAt O' C x dx p st' kp' S'
 b:ButO O O' [x,p,st,kp]
 n:∀b,O b≠none->O' b≠none
 e1:st'=st\/O st'=none
 e2:kp'=kp\/O kp'=none
section
variable {O1 O2 O':OM}{x st kp st' kp' st1 kp1:Addr}{S' S1:ST}
theorem StAt.some(s:StAt O C x dx p st kp S):∀b∈[x,p,st,kp],O b≠none:=by
 intro b hb;simp only[lm,lD,m6]at hb;rcases hb with rfl|rfl|rfl|rfl
 .rw[s.x];simp
 .rw[s.p];simp
 .rw[s.st];simp
 .rw[s.kp];simp
theorem Nxt.of{l:List Addr}(h:StAt O' C x dx p st kp S')(b:ButO O O' l)(hl:∀a∈l,a∈[x,p,st,kp]):Nxt O O' C x dx p st kp st kp S':=
 ⟨h,b.mono hl,fun a ha=>by
  by_cases e:a∈[x,p,st,kp]
  .exact h.some a e
  .rw[b.mono hl a e ha];exact ha,.inl rfl,.inl rfl⟩
theorem Nxt.xp(h:StAt O' C x dx p st kp S')(b:But O O' x p):Nxt O O' C x dx p st kp st kp S':=.of h b.butO (by simp)
theorem Nxt.xp'(h:StAt O' C x dx p st kp S')(b:∀b,b≠x->b≠p->O b≠none->O' b=O b):Nxt O O' C x dx p st kp st kp S':=
 .of (l:=[x,p]) h (λa ha h0=>b a (λe=>ha (by simp[e])) (λe=>ha (by simp[e])) h0) (by simp)
theorem Nxt.refl(h:StAt O C x dx p st kp S):Nxt O O C x dx p st kp st kp S:=.of (l:=[]) h ButO.refl (by simp)
theorem Nxt.anew(hs:StAt O C x dx p st kp S)(h:StAt O' C x dx p st' kp' S')(b:ButO O O' [x,p])(h1:O st'=none)(h2:O kp'=none):Nxt O O' C x dx p st kp st' kp' S':=
 ⟨h,b.mono (by simp),fun a ha=>by
  by_cases e:a∈[x,p]
  .exact h.some a (by simp at e;rcases e with rfl|rfl<;>simp)
  .rw[b a e ha];exact ha,.inr h1,.inr h2⟩
theorem Nxt.trans(a:Nxt O O1 C x dx p st kp st1 kp1 S1)(b:Nxt O1 O2 C x dx p st1 kp1 st' kp' S'):Nxt O O2 C x dx p st kp st' kp' S':=by
 refine⟨b.s,λc hc h0=>?_,λc hc=>b.n c (a.n c hc),?_,?_⟩
 .have q1:=a.b c hc h0
  simp only[lm,lD,m6,mz]at hc;rw[b.b c ?_ (by rw[q1];exact h0),q1];simp only[lm,lD,m6,mz];refine⟨hc.1,hc.2.1,λe=>?_,λe=>?_⟩
  .rcases a.e1 with z|z
   .exact hc.2.2.1 (e.trans z)
   .rw[<-e]at z;exact h0 z
  .rcases a.e2 with z|z
   .exact hc.2.2.2 (e.trans z)
   .rw[<-e]at z;exact h0 z
 .rcases b.e1 with z|z
  .rw[z];exact a.e1
  .refine .inr (mr λq=>a.n _ q z)
 .rcases b.e2 with z|z
  .rw[z];exact a.e2
  .refine .inr (mr λq=>a.n _ q z)
theorem Nxt.old(a:Nxt O O1 C x dx p st kp st' kp' S')(h:Old O1 O2):Nxt O O2 C x dx p st kp st' kp' S':=
 ⟨a.s.old h,fun c hc h0=>by
  have q:=a.b c hc h0;rw[h c (by rw[q];exact h0),q],λc hc=>by
  have q:=a.n c hc;rw[h c q];exact q,a.e1,a.e2⟩
variable {x2 dx2 p2 st2 kp2:Addr}{S2:ST}
end
def LsOk(S:ST):Prop:=S.last=.none\/∃c,S.last=.str c/\PyData.strOk c=true
theorem zhw:(pF S).last=S.last:=by
 unfold pF;split<;>rfl
theorem QG{c:Str}:(putS0 c S).last=.str c:=by
 rw[vq,zhw];rfl
theorem ze2{c:Str}(h:Bds S):Bds (putS0 c S):=by
 rw[vq];exact(show Bds (L2.pE c (L2.pD c (L2.pC (L2.pB (L2.pA S)))))from{ h.pA.pB.pC with }).pF
noncomputable def itS(c:Str):Nat->ST->ST
 |0,S=>S
 |n+1,S=>putS0 c (itS c n S)
theorem ze3{c:Str}(h:S.last=.str c):∀n,(itS c n S).last=.str c
 |0=>h
 |_+1=>QG
theorem QH{c:Str}(h:Bds S):∀n,Bds (itS c n S)
 |0=>h
 |n+1=>ze2 (QH h n)
structure Good (n:Nat) (S:ST):Prop where
 b:Bds S
 k:KOk S
 a:AllOk S
 l:LsOk S
 s:S.stops.length<=n
noncomputable def agS(m:PyData)(S:ST):ST:=match S.last with
 |.str c=>itS c (oneD m).toNat S
 |_=>S
noncomputable def wicS(n:PyData)(S:ST):ST:=wipS (S.row*S.w+S.col) (S.row*S.w+(if(S.w:Int)<S.col+oneD n then(S.w:Int)else S.col+oneD n)) S
noncomputable def wiwS(m:PyData)(S:ST):ST:=wipS (spI (wayD m) S).1 (spI (wayD m) S).2 S
noncomputable def actS(c:Nat)(a b:PyData)(ns:List PyData)(S:ST):ST:=
 if c= 104 then leftS S else if c= 116 then stopS S else if c= 84 then cutS S else if c= 85 then clrS S else if c= 118 then keepS S else if c= 122 then backS S else if c= 90 then newS S
 else if c= 117\/c= 100\/c= 108\/c= 114 then offS (goS c (oneD a) S)else if c= 121 then tabS (oneD a).toNat S else if c= 89 then bakS (oneD a).toNat S else if c= 112 then agS a S
 else if c= 82 then rollT true a S else if c= 68 then rollT false a S else if c= 105 then lineS (-(oneD a)) S else if c= 107 then lineS (oneD a) S
 else if c= 115 then cellsS (-(oneD a)) S else if c= 120 then cellsS (oneD a) S else if c= 101 then wicS a S else if c= 119 then wiwS a S
 else if c= 103 then plS a b S else if c= 109 then rowsS a b S else if c= 77 then colsS a b S
 else if c= 99 then dyeS ns S else if c= 111 then modesS ns true S else if c= 102 then modesS ns false S else S
structure Smo (S S':ST):Prop where
 w:S'.w=S.w
 h:S'.h=S.h
 s:S'.stops=S.stops
 k:S'.kept=S.kept
 p:S'.pic=S.pic
 l:S'.last=S.last
structure Sno (S S':ST):Prop where
 w:S'.w=S.w
 h:S'.h=S.h
 s:S'.stops=S.stops
 k:S'.kept=S.kept
section
variable {S' S1:ST}{a b:PyData}{ns:List PyData}{f:ST->ST}
theorem Smo.refl:Smo S S:=⟨rfl,rfl,rfl,rfl,rfl,rfl⟩
theorem Smo.trans(x:Smo S S1)(y:Smo S1 S'):Smo S S':=⟨y.w.trans x.w,y.h.trans x.h,y.s.trans x.s,y.k.trans x.k,y.p.trans x.p,y.l.trans x.l⟩
theorem Smo.toN(x:Smo S S'):Sno S S':=⟨x.w,x.h,x.s,x.k⟩
theorem Sno.refl:Sno S S:=⟨rfl,rfl,rfl,rfl⟩
theorem Sno.trans(x:Sno S S1)(y:Sno S1 S'):Sno S S':=⟨y.w.trans x.w,y.h.trans x.h,y.s.trans x.s,y.k.trans x.k⟩
theorem AllOk.sm(h:AllOk S)(e:Smo S S'):AllOk S':=by
 obtain⟨h1,h2⟩:=h;refine⟨λi j hi hj=>?_,by rw[e.l];exact h2⟩;rw[e.p];exact h1 i j (by rw[<-e.h];exact hi) (by rw[<-e.w];exact hj)
theorem Good.sn(h:Good n S)(e:Sno S S')(hb:Bds S')(ha:AllOk S')(hl:LsOk S'):Good n S':=
 ⟨hb,h.k.of ⟨e.w,e.h,e.s,e.k⟩,ha,hl,by rw[e.s];exact h.s⟩
theorem Good.sm(h:Good n S)(e:Smo S S')(hb:Bds S'):Good n S':=h.sn e.toN hb (h.a.sm e) (by unfold LsOk;rw[e.l];exact h.l)
theorem Good.up(h:Good n S):Good (n+1) S:=⟨h.b,h.k,h.a,h.l,Nat.le_succ_of_le h.s⟩
theorem Z8:Smo S (plS a b S):=by unfold plS;split<;>exact⟨rfl,rfl,rfl,rfl,rfl,rfl⟩
theorem X8:Smo S (rowsS a b S):=by
 unfold rowsS;split
 .exact .refl
 .refine Smo.trans ?_ Z8
  exact⟨rfl,rfl,rfl,rfl,rfl,rfl⟩
theorem X9:Smo S (colsS a b S):=by
 unfold colsS;split
 .exact .refl
 .refine Smo.trans ?_ Z8
  exact⟨rfl,rfl,rfl,rfl,rfl,rfl⟩
theorem zaW{m:Int}:Smo S (offS (goS c m S)):=by
 unfold goS
 repeat' split
 all_goals exact⟨rfl,rfl,rfl,rfl,rfl,rfl⟩
theorem ze4{on:Bool}{d:PyData}:Smo S (modeP on S d):=by
 unfold modeP
 repeat' split
 all_goals exact⟨rfl,rfl,rfl,rfl,rfl,rfl⟩
theorem zcY{on:Bool}{d:PyData}(h:Bds S):Bds (modeP on S d):=by
 unfold modeP
 repeat' split
 all_goals exact{ h with }
theorem QI{on:Bool}:∀{ns:List PyData}{S:ST},Bds S->Smo S (ns.foldl (modeP on) S)/\Bds (ns.foldl (modeP on) S)
 |[],_,h=>⟨.refl,h⟩
 |d::ns,S,h=>by
  obtain⟨q1,q2⟩:=QI (on:=on) (ns:=ns) (zcY (on:=on) (d:=d) h);exact⟨ze4.trans q1,q2⟩
theorem ua{on:Bool}(h:Bds S):Smo S (modesS ns on S)/\Bds (modesS ns on S):=by
 obtain⟨q1,q2⟩:=QI (on:=on) (ns:=ns) h;unfold modesS;split
 .exact⟨q1.trans Z8,q2.pl⟩
 .exact⟨q1,q2⟩
theorem zhx{m:Nat}(h:Bds S):Bds (tabS m S):=by
 have e:=qN h;have c0:=h.c0;have q:=QE (f:=fwd S.stops (eR S)) (N:=S.w) (λc hc=>zjS hc.1 (by omega) (by omega)) m ⟨h.c0,h.c1⟩;exact{ h with c0:=q.1,c1:=q.2 }
theorem zhy{m:Nat}(h:Bds S):Bds (bakS m S):=by
 have e:=Uu h;have q:=QE (f:=bwd S.stops (eL S)) (N:=S.w) (λc hc=>zjT e.1 hc.2 e.2) m ⟨h.c0,h.c1⟩;exact{ h with c0:=q.1,c1:=q.2 }
theorem YA:Sno S (lineE S):=by
 unfold lineE;dsimp only;split
 .exact⟨rfl,rfl,rfl,rfl⟩
 .split<;>exact⟨rfl,rfl,rfl,rfl⟩
theorem zcZ{z:Str}:Sno S (putS0 z S):=by
 rw[vq];have h1:Sno S (pA S):=by
  unfold pA;split
  .exact YA
  .exact .refl
 have h3:Sno (pB (pA S)) (pC (pB (pA S))):=by
  unfold pC;split
  .exact⟨rfl,rfl,rfl,rfl⟩
  .exact .refl
 have h5:∀S,Sno S (pF S):=λS=>by
  unfold pF;split<;>exact⟨rfl,rfl,rfl,rfl⟩
 exact(h1.trans (⟨rfl,rfl,rfl,rfl⟩:Sno (pA S) (pB (pA S)))).trans (h3.trans (Sno.trans (⟨rfl,rfl,rfl,rfl⟩:Sno (pC (pB (pA S))) (pE z (pD z (pC (pB (pA S)))))) (h5 _)))
theorem Good.put{z:Str}(h:Good n S)(hz:PyData.strOk z=true):Good n (putS0 z S):=h.sn zcZ h.b.put (h.a.put h.b hz) (.inr ⟨z,QG,hz⟩)
theorem Good.it{z:Str}(h:Good n S)(hz:PyData.strOk z=true):∀m,Good n (itS z m S)
 |0=>h
 |m+1=>(h.it hz m).put hz
theorem KA(h:LsOk S)(e:S'.last=S.last):LsOk S':=by unfold LsOk;rw[e];exact h
theorem Good.lineE (h:Good n S):Good n (lineE S):=h.sn YA h.b.lineE (h.a.lineE h.b) (KA h.l (by
  unfold L2.lineE;dsimp only;split
  · rfl
  · split<;>rfl))
theorem Good.tab{m:Nat}(h:Good n S):Good n (tabS m S):=h.sm ⟨rfl,rfl,rfl,rfl,rfl,rfl⟩ (zhx h.b)
theorem Good.eff{l:Lt}{m:PyData}(h:Good n S):Good n (effS l m S):=h.sn ⟨rfl,rfl,rfl,rfl⟩ { h.b with } (h.a.eff h.b) h.l
theorem Xj{w:Nat}(h:w<=24):(stopsI w).length<=6:=by
 have:∀w,w<=24->(stopsI w).length<=6:=by decide
 exact this w h
theorem Good.new(h:Good n S)(hn:6<=n):Good n (newS S):=by
 have b0:Bds (st0 S.w S.h S.pic):=by
  have:=h.b.w1;have:=h.b.w2;have:=h.b.h1;have:=h.b.h2;constructor<;>simp only[st0]<;>first|decide|omega
 have a0:AllOk (st0 S.w S.h S.pic):=⟨h.a.1,rfl,rfl⟩;exact⟨{ b0 with },⟨lO _,λk hk=>by cases hk⟩,a0.wip,.inl rfl,lT (Xj h.b.w2) hn⟩
theorem yh{q:Prop}[Decidable q]{A B:ST}(h1:Good n A)(h2:Good n B):Good n (if q then A else B):=by
 split
 .exact h1
 .exact h2
theorem Good.act(h:Good n S)(hn:6<=n)(ha:NumD a):Good (n+1) (actS c a b ns S):=by
 unfold actS;refine yh ?_ ?_
 .exact(Good.sm (S':=leftS S) h ⟨rfl,rfl,rfl,rfl,rfl,rfl⟩ h.b.left).up
 refine yh ?_ ?_
 .refine⟨{ h.b with },h.k,h.a,h.l,?_⟩
  have:=h.s;show(if S.col∈S.stops then S.stops else S.stops++[S.col]).length<=n+1;split
  .omega
  .simp;exact this
 refine yh ?_ ?_
 .exact⟨{ h.b with },h.k,h.a,h.l,Nat.le_succ_of_le (lT (List.length_filter_le _ _) h.s)⟩
 refine yh ?_ ?_
 .exact⟨{ h.b with },h.k,h.a,h.l,lO _⟩
 refine yh ?_ ?_
 .exact(⟨{ h.b with },h.k.keep h.b,h.a,h.l,h.s⟩:Good n (keepS S)).up
 refine yh ?_ ?_
 .obtain⟨q1,q2⟩:=zho h.k h.b
  refine(⟨q2,q1,?_,?_,?_⟩:Good n _).up
  .unfold backS;split;exact h.a;exact h.a
  .refine KA h.l ?_;unfold backS;split<;>rfl
  .unfold backS;split;exact h.s;exact h.s
 refine yh ?_ ?_
 .exact(h.new hn).up
 refine yh ?_ ?_
 .have:=xa (n:=a)
  exact(h.sm zaW (h.b.goS (c:=c) (by omega:0<=oneD a)).late').up
 refine yh ?_ ?_
 .exact h.tab.up
 refine yh ?_ ?_
 .exact(Good.sm (S':=bakS _ S) h ⟨rfl,rfl,rfl,rfl,rfl,rfl⟩ (zhy h.b)).up
 refine yh ?_ ?_
 .unfold agS
  split
  .rename_i z hz
   rcases h.l with e|⟨z',e,hz'⟩
   .rw[e]at hz;cases hz
   .rw[e]at hz;cases hz;exact(h.it hz' _).up
  .exact h.up
 refine yh ?_ ?_
 .exact(h.eff (l:=.R) (m:=a)).up
 refine yh ?_ ?_
 .exact(h.eff (l:=.D) (m:=a)).up
 refine yh ?_ ?_
 .rw[zaU];exact h.eff.up
 refine yh ?_ ?_
 .rw[zaV];exact h.eff.up
 refine yh ?_ ?_
 .exact(h.eff (l:=.s) (m:=a)).up
 refine yh ?_ ?_
 .exact(h.eff (l:=.x) (m:=a)).up
 refine yh ?_ ?_
 .exact(h.eff (l:=.e) (m:=a)).up
 refine yh ?_ ?_
 .exact(h.eff (l:=.w) (m:=a)).up
 refine yh ?_ ?_
 .exact(h.sm Z8 h.b.pl).up
 refine yh ?_ ?_
 .exact(h.sm X8 h.b.rows).up
 refine yh ?_ ?_
 .exact(h.sm X9 h.b.cols).up
 refine yh ?_ ?_
 .exact(Good.sm (S':=dyeS ns S) h ⟨rfl,rfl,rfl,rfl,rfl,rfl⟩ h.b.dye).up
 refine yh ?_ ?_
 .obtain⟨q1,q2⟩:=ua (ns:=ns) (on:=true) h.b
  exact(h.sm q1 q2).up
 refine yh ?_ ?_
 .obtain⟨q1,q2⟩:=ua (ns:=ns) (on:=false) h.b
  exact(h.sm q1 q2).up
 exact h.up
noncomputable def opt(L:List Nat)(c:Nat)(f:ST->ST)(S:ST):ST:=if c∈L then f S else S
theorem Va{L M:List Nat}{f:ST->ST}(h:c∈L->c∉M):opt M c f (opt L c f S)=opt (L++M) c f S:=by
 unfold opt;by_cases h1:c∈L
 .rw[lg h1,l8 (h h1),lg (ma _ h1)]
 .rw[l8 h1]
  by_cases h2:c∈M
  .rw[lg h2,lg (lN _ h2)]
  .rw[l8 h2,l8 (by simp[h1,h2])]
theorem Good.opt{L:List Nat}(h:Good n S)(hn:6<=n)(ha:NumD a):Good (n+1) (opt L c (actS c a b ns) S):=by
 unfold L2.opt;split
 .exact h.act hn ha
 .exact h.up
noncomputable abbrev lsA:List Nat:=[104,116,84,85,118,122,90]
noncomputable abbrev lsB:List Nat:=[117,100,108,114,121,89,112,82,68,105,107,115,120,101,119]
noncomputable abbrev lsC:List Nat:=[103,109,77]
noncomputable abbrev lsD:List Nat:=[99,111,102]
noncomputable def lsAll:List Nat:=lsA++lsB++lsC++lsD
theorem zhz:opt lsD c f (opt lsC c f (opt lsB c f (opt lsA c f S)))=opt lsAll c f S:=by
 have h1:∀c∈lsA,c∉lsB:=by decide
 have h2:∀c∈lsA++lsB,c∉lsC:=by decide
 have h3:∀c∈lsA++lsB++lsC,c∉lsD:=by decide
 rw[Va (h1 c),Va (h2 c),Va (h3 c)];rfl
end
theorem zc0{zs:List PyData}(ks:List Nat){R:Bool->OM->Prop}{q:Prop}[Decidable q](hz:zs=ks.map λk=>.str ⟨#[k]⟩)(hq:q↔c∈ks)(hR:R (decide q) O):∃x,vn O (.d (.tuple zs))=some x/\(∀y,y∈x->scD y=true)/\R (inV (V.str ⟨#[c]⟩) (x.map vOf)) O:=by
 refine⟨zs,rfl,λy hy=>?_,?_⟩
 .rw[hz]at hy
  obtain⟨k,_,rfl⟩:=lJ.mp hy;rfl
 .have e:inV (V.str ⟨#[c]⟩) (zs.map vOf)=decide q:=by
   rw[hz,lM];have:decide q=decide (c∈ks):=decide_eq_decide.mpr hq;rw[this];clear hz hq this hR
   induction ks with
   |nil=>rfl
   |cons k ks ih=>
    have h1:inV (V.str ⟨#[c]⟩) ((k::ks).map (vOf∘λk=>PyData.str ⟨#[k]⟩))=(decide (k=c)||inV (V.str ⟨#[c]⟩) (ks.map (vOf∘λk=>PyData.str ⟨#[k]⟩))):=by
     unfold inV;rw[lG,mF]
     congr 1
     show eqV (V.str ⟨#[k]⟩) (V.str ⟨#[c]⟩)=_;simp only[eqV];by_cases e:k=c
     .subst e;simp
     .simp[e]
    rw[h1,ih];simp only[lm];by_cases e:k=c
    .subst e;simp
    .simp[e,Ne.symm e]
  rw[e];exact hR
theorem zkT{a:PyData}{S':ST}(hl:LsOk S)(h1:S.last=.none->S'=S)(h2:∀c,S.last=.str c->S'=itS c (oneD a).toNat S):S'=agS a S:=by
 unfold agS;rcases hl with e|⟨c,e,_⟩
 .rw[h1 e,e]
 .rw[h2 c e,e]
inductive sDo (C:Addr) (L:List Nat) (g:PyData->PyData->List PyData->List W) (ws:List W) (O:OM) (R:WK):Prop
 |mk:∀n c a b ns x dx p st kp S,ws=.own x :: .d (.str ⟨#[c]⟩)::g a b ns->n<=90->c<128->NumD a->NumD b->(∀m∈ns,NumD m)->StAt O C x dx p st kp S->Good n S->(∀st' kp' O',Nxt O O' C x dx p st kp st' kp' (opt L c (actS c a b ns) S)->R (.d .none) O')->sDo C L g ws O R
def zgd:V->List V->Hp->VK->Prop:=Z1
theorem Vb:MtR X "list.append" zgd:=y7
theorem zjW{T:String}:RefM K T zgd zaD:=zjx
structure Dds (K:W.Frag) (mg:Str->Option Value) (cD cS cL cT cR:Addr):Prop where
 m_Deed:mg "Deed" =some (.ref cD)
 m_Sign:mg "Sign" =some (.ref cS)
 m_Line:mg "Line" =some (.ref cL)
 m_Tab:mg "Tab" =some (.ref cT)
 m_Row:mg "Row" =some (.ref cR)
 k_S:IsK K cS
 k_L:IsK K cL
 k_T:IsK K cT
 k_R:IsK K cR
 n_sign:NoAttr K cS "sign"
 n_letter:NoAttr K cR "letter"
 n_numbers:NoAttr K cR "numbers"
 i_SD:W.kitOne K (.ref cS) (.ref cD)=some true
 i_LD:W.kitOne K (.ref cL) (.ref cD)=some true
 i_TD:W.kitOne K (.ref cT) (.ref cD)=some true
 i_RD:W.kitOne K (.ref cR) (.ref cD)=some true
 i_SS:W.kitOne K (.ref cS) (.ref cS)=some true
 i_SL:W.kitOne K (.ref cS) (.ref cL)=some false
 i_ST:W.kitOne K (.ref cS) (.ref cT)=some false
 i_SR:W.kitOne K (.ref cS) (.ref cR)=some false
 i_LS:W.kitOne K (.ref cL) (.ref cS)=some false
 i_LL:W.kitOne K (.ref cL) (.ref cL)=some true
 i_LT:W.kitOne K (.ref cL) (.ref cT)=some false
 i_LR:W.kitOne K (.ref cL) (.ref cR)=some false
 i_TS:W.kitOne K (.ref cT) (.ref cS)=some false
 i_TL:W.kitOne K (.ref cT) (.ref cL)=some false
 i_TT:W.kitOne K (.ref cT) (.ref cT)=some true
 i_TR:W.kitOne K (.ref cT) (.ref cR)=some false
 i_RS:W.kitOne K (.ref cR) (.ref cS)=some false
 i_RL:W.kitOne K (.ref cR) (.ref cL)=some false
 i_RT:W.kitOne K (.ref cR) (.ref cT)=some false
 i_RR:W.kitOne K (.ref cR) (.ref cR)=some true
inductive Rea where
 |sign (c:Nat)
 |line
 |tab
 |row (c:Nat) (ns:List PyData)
noncomputable def rdD:Rea->PyData
 |.sign c=>.tuple [.str "sign",.str ⟨#[c]⟩]
 |.line=>.tuple [.str "line"]
 |.tab=>.tuple [.str "tab"]
 |.row c ns=>.tuple [.str "row",.str ⟨#[c]⟩,.tuple ns]
noncomputable def numT:PyData->Str
 |.int i=>strI i
 |_=>Str.empty
noncomputable def rowT(c:Nat)(ns:List PyData):Str:=Str.ofString "~" ++ Txt.join (Str.ofString ";") (ns.map numT)++⟨#[c]⟩
noncomputable def rdT:Rea->Str
 |.sign c=>if c= 126 then Str.ofString "~~" else⟨#[c]⟩
 |.line=>Str.ofString "\n"
 |.tab=>Str.ofString "\t"
 |.row c ns=>rowT c ns
noncomputable def nmA(ns:List PyData)(i:Nat):PyData:=ns.getD i .none
structure OkNs (ns:List PyData):Prop where
 n:∀m∈ns,NumD m
 l:ns.length<=6
 o:1<=ns.length
def OkR:Rea->Prop
 |.sign c=>c<128/\32<=c
 |.line=>True
 |.tab=>True
 |.row c ns=>c<128/\OkNs ns
def DAt(cS cL cT cR:Addr)(O:OM)(d:Addr):Rea->Prop
 |.sign c=>∃dx,O d=some (.ins cS dx [("sign",.d (.str ⟨#[c]⟩))])
 |.line=>∃dx,O d=some (.ins cL dx [])
 |.tab=>∃dx,O d=some (.ins cT dx [])
 |.row c ns=>∃dx,O d=some (.ins cR dx [("letter",.d (.str ⟨#[c]⟩)),("numbers",.d (.tuple ns))])
noncomputable def rdS'(r:Rea)(S:ST):ST:=match r with
 |.sign c=>putS0 ⟨#[c]⟩ S
 |.line=>lineE S
 |.tab=>tabS 1 S
 |.row c ns=>if c= 113 then S else opt lsAll c (actS c (nmA ns 0) (nmA ns 1) ns) S
noncomputable def rdA(r:Rea)(S:ST):List Str:=match r with
 |.row c ns=>if c= 113 then ansL S ns else[]
 |_=>[]
section
variable {A B:TSW}{D:EndsW}{ρ:WS}{O':OM}{x st kp st' kp' d dd E:Addr}{fs:List (Str×W)}{fn y z:Str}{v:W}{S':ST}
theorem xH{R:WK}(hv:ρ[i]? =some (some (.own d)))(hd:O d=some (.ins E dd fs))(hc:Cls K E)(hn:NoAttr K E fn)(hl:fs.lookup fn=some v)(h:R v O):xi K (yk i) fn ρ O R:=by
 unfold xi yk;rw[hv];exact⟨E,dd,fs,hd,hc,hn,v,hl,h⟩
theorem zc1{R:Bool->OM->Prop}(h:R (decide (y=z)) O):vEq (.d (.str y)) (.d (.str z)) O (λx O1=>match x with|.d (.bool k)=>R k O1|_=>False):=by
 refine⟨rfl,rfl,rfl,?_⟩;have e:decide (vOf (.str y)=vOf (.str z))=decide (y=z):=by simp[vOf]
 rw[e];exact h
theorem zkU{R:WK}(h:R (.d (.bool (decide (y=z)))) O):vEq (.d (.str y)) (.d (.str z)) O R:=by
 refine⟨rfl,rfl,rfl,?_⟩;have e:decide (vOf (.str y)=vOf (.str z))=decide (y=z):=by simp[vOf]
 rw[e];exact h
theorem zjX(hv:ρ[i]? =some (some (.own d)))(hd:O d=some (.ins E dd fs))(hc:Cls K E)(hn:NoAttr K E fn)(hl:fs.lookup fn=some (.d (.str y)))(h1:y=z->A D ρ O)(h2:y≠z->B D ρ O):uB (xz (wOp vEq (xi K (yk i) fn) (wC (.str z)))) A B D ρ O:=by
 refine xv (y=z) (λR hR=>?_) h1 h2;unfold xz wOp;refine xH hv hd hc hn hl ?_;exact zc1 hR
theorem zkV{k:Int}(hv:ρ[i]? =some (some (.d (.tuple ds))))(hk:atI ds k=some (.str y))(h1:y=z->A D ρ O)(h2:y≠z->B D ρ O):uB (xz (wOp vEq (wOp Za (yk i) (wC (.int k))) (wC (.str z)))) A B D ρ O:=by
 refine xv (y=z) (λR hR=>?_) h1 h2;unfold xz wOp yk;rw[hv];refine⟨ds,k,_,rfl,rfl,hk,?_⟩;exact zc1 hR
theorem zhA{U:TSW}(hv:ρ[i]? =some (some (.own d)))(hd:O d=some (.ins E dd fs))(hc:Cls K E)(hn:NoAttr K E fn)(hl:fs.lookup fn=some (.d (.str y)))(h1:y=z->A { D with nx:=U D } ρ O)(h2:y≠z->U D ρ O):xY (uB (xz (wOp vEq (xi K (yk i) fn) (wC (.str z)))) A j0) U D ρ O:=zjX hv hd hc hn hl h1 h2
theorem vJ{U:TSW}{k:Int}(hv:ρ[i]? =some (some (.d (.tuple ds))))(hk:atI ds k=some (.str y))(h1:y=z->A { D with nx:=U D } ρ O)(h2:y≠z->U D ρ O):xY (uB (xz (wOp vEq (wOp Za (yk i) (wC (.int k))) (wC (.str z)))) A j0) U D ρ O:=zkV hv hk h1 h2
theorem ze5{R:WK}{k:Int}{e:PyData}(hv:ρ[i]? =some (some (.d (.tuple ds))))(hk:atI ds k=some e)(h:R (.d e) O):wOp Za (yk i) (wC (.int k)) ρ O R:=by
 unfold wOp yk;rw[hv];exact⟨ds,k,_,rfl,rfl,hk,h⟩
theorem zkW{k:Nat}:((⟨#[c]⟩:Str)=⟨#[k]⟩)=(c=k):=by simp
theorem Old.up{o:OO}(h:O a=none):Old O (updO O a o):=λb hb=>ze λe=>hb (by rw[e];exact h)
theorem Nxt.nk(N:Nxt O O' C x dx p st kp st' kp' S'){q:Addr}(h:O' q=none):q≠kp':=λe=>by rw[e,N.s.kp]at h;cases h
theorem Nxt.nn(N:Nxt O O' C x dx p st kp st' kp' S'){q:Addr}(h:O' q=none):O q=none:=mr λe=>N.n q e h
theorem zaX(hd:O d=some (.ins E dd fs))(hs:StAt O C x dx p st kp S)(h:fs.length≠17):d≠x:=neW hd hs.x λe=>by
 injection e with _ _ e;exact h (by rw[e];rfl)
theorem Nxt.ins(N:Nxt O O' C x dx p st kp st' kp' S')(hs:StAt O C x dx p st kp S)(hd:O d=some (.ins E dd fs))(h:d≠x):O' d=some (.ins E dd fs):=by
 refine N.b.old hd ?_;simp only[lm,lD,m6,mz];exact⟨h,neW hd hs.p (by intro h;cases h),neW hd hs.st (by intro h;cases h),neW hd hs.kp (by intro h;cases h)⟩
end
theorem QJ{ns:List PyData}(h:∀m∈ns,NumD m):NumD (nmA ns i):=by
 unfold nmA;rw[List.getD_eq_getElem?_getD];cases e:ns[i]? with
 |none=>exact trivial
 |some m=>exact h m (lK e)
theorem zkX(h:c<128):PyData.strOk ⟨#[c]⟩=true:=by
 have:∀n:_root_.Fin 128,PyData.strOk ⟨#[n.val]⟩=true:=by decide +kernel
 exact this ⟨c,h⟩
noncomputable def zjY:W->Option PyData
 |.d .none=>some (.str (Str.ofString ""))
 |.d (.int i)=>some (.str (Str.ofString i.repr))
 |_=>none
theorem VU:∀{ns:List PyData},(∀m∈ns,NumD m)->ns.filterMap (zjY∘W.d)=(ns.map numT).map PyData.str
 |[],_=>rfl
 |n::ns,h=>by
  have q:=h n (li ..);have ih:=VU (ns:=ns) λm hm=>h m (lj _ hm);rw[mm];cases n with
  |none=>exact mw _ ih
  |int i=>exact mw _ ih
  |_=>exact q.elim
theorem ze6{n:PyData}(h:NumD n):(numT n).length<=8:=by
 cases n with
 |none=>exact lO _
 |int i=>
  obtain⟨h1,h2⟩:=h;have q:(toString i).length<=7+1:=int_text_length_le10 (by decide) (show i.natAbs<10 ^ 7 by omega);show(Str.ofString (toString i)).length<=8;rw[PySem.ofString_length];exact q
 |_=>exact h.elim
theorem YB:∀{ns:List PyData},(∀m∈ns,NumD m)->((ns.map numT).map (·.length)).sum<=8*ns.length
 |[],_=>lp _
 |n::ns,h=>by
  have q:=ze6 (h n (li ..));have ih:=YB (ns:=ns) λm hm=>h m (lj _ hm);simp only[lG,List.sum_cons,lL]at ih ⊢;omega
theorem QK(zs:List Str):z6 O (.d (.list (zs.map PyData.str)))=some (zs.map qV):=by
 simp only[z6,lM];rfl
theorem zc2{ns:List PyData}(h:OkNs ns):(Txt.join (Str.ofString ";") (ns.map numT)).length<=60:=by
 have q:=Qn (Str.ofString ";") (ns.map numT);have s:=YB h.n;have l:=h.l;rw[u5];have e:(Str.ofString ";").length= 1:=by decide +kernel
 rw[e,l6]at q;show(Str.join (Str.ofString ";") (ns.map numT)).cps.toList.length<=60;omega
inductive sDeedDo (C:Addr) (A:OM->Addr->Rea->Prop) (ws:List W) (O:OM) (R:WK):Prop
 |mk:∀r n d x dx p st kp S,ws=[.own d,.own x]->A O d r->OkR r->n<=80->6<=n->StAt O C x dx p st kp S->Good n S->(∀q st' kp' O',O q=none->O' q=some (.lst (((rdA r S).map .str).map .d))->q≠kp'->Nxt O O' C x dx p st kp st' kp' (rdS' r S)->R (.own q) O')->sDeedDo C A ws O R
def aS(cS:Addr)(O:OM)(d:Addr)(r:Rea):Prop:=∃c dx,r=.sign c/\O d=some (.ins cS dx [("sign",.d (.str ⟨#[c]⟩))])
def aL(cL:Addr)(O:OM)(d:Addr)(r:Rea):Prop:=∃dx,r=.line/\O d=some (.ins cL dx [])
def aT(cT:Addr)(O:OM)(d:Addr)(r:Rea):Prop:=∃dx,r=.tab/\O d=some (.ins cT dx [])
def aR(cR:Addr)(O:OM)(d:Addr)(r:Rea):Prop:=∃c ns dx,r=.row c ns/\O d=some (.ins cR dx [("letter",.d (.str ⟨#[c]⟩)),("numbers",.d (.tuple ns))])
inductive sDeedOf (cS cL cT cR:Addr) (ws:List W) (O:OM) (R:WK):Prop
 |mk:∀r,ws=[.d (rdD r)]->OkR r->(∀d O',O d=none->DAt cS cL cT cR O' d r->Old O O'->R (.own d) O')->sDeedOf cS cL cT cR ws O R
section
variable {it l:Addr}{items:Array Value}
end
section
variable {A B:TSW}{D:EndsW}{ρ:WS}{O':OM}{x st kp st' kp' d dd E:Addr}{fs:List (Str×W)}{fn y z:Str}{v:W}{S':ST}
theorem zhB{α:Type}{e:α}{tl:List α}:atI (e::tl) (0:Int)=some e:=uX (show(e::tl)[0]? =some e from rfl)
theorem qP{T:TEW}(h:T ρ O D.rt):zan T D ρ O:=h
theorem zhC{T:TAW}(h:T ρ O λws O1=>∃ds,yE ws=some ds/\ds.length<=1000/\D.nx (ρ.set i (some (.d (.list ds)))) O1):XU (zam T) (um i) D ρ O:=h
theorem zkY{T:TEW}(h:T ρ O λv O1=>D.nx (ρ.set i (some v)) O1):XU T (um i) D ρ O:=h
theorem qp{T:TAW}{R:List W->OM->Prop}(hv:ρ[i]? =some (some (.own d)))(hd:O d=some (.ins E dd fs))(hc:Cls K E)(hn:NoAttr K E fn)(hl:fs.lookup fn=some v)(h:T ρ O λws O1=>R (v::ws) O1):jZ (xi K (yk i) fn) T ρ O R:=xH hv hd hc hn hl h
theorem KB{T:TAW}{R:WK}(hv:ρ[i]? =some (some (.d (.list ds))))(h:T ρ O λws O1=>∃es,yE ws=some es/\es.length<=1000/\XY (.d (.list ds)) (.d (.list es)) O1 R):wOp XY (yk i) (zam T) ρ O R:=by
 unfold wOp yk;rw[hv];exact h
theorem zge{R:WK}{es:List PyData}(hl:ds.length<=1000)(hm:es.length<=1000)(h:R (.d (.list (ds++es))) O):XY (.d (.list ds)) (.d (.list es)) O R:=⟨ds.map .d,es.map .d,ds,es,rfl,rfl,ym ds,ym es,by omega,h⟩
end
noncomputable def zlX:Rea->Str
 |.sign _=>"sign"
 |.line=>"line"
 |.tab=>"tab"
 |.row _ _=>"row"
theorem VW{w:Nat}{g:Nat->Cel}:∀{l:List Nat},(∀j∈l,okC (g j))->PyData.canLayAll0 (l.map λj=>celD (g j))=true/\PyData.depthAll (l.map λj=>celD (g j))<=1
 |[],_=>⟨rfl,lO _⟩
 |j::l,h=>by
  obtain⟨h1,h2⟩:=VW (w:=w) (l:=l) λk hk=>h k (lj _ hk);have h0:PyData.strOk (g j).1 =true:=h j li;refine⟨?_,?_⟩
  .simp[PyData.canLayAll0,celD,PyData.canLay0,h0] ;exact h1
  .simp only[lG,PyData.depthAll,celD,PyData.depth]
   simp only[celD]at h2;omega
theorem QL{w:Nat}{f:PF}:∀{l:List Nat},(∀i∈l,∀j,j<w->okC (f i j))->PyData.canLayAll0 ((l.map λi=>(List.range w).map λj=>celD (f i j)).map PyData.list)=true/\PyData.depthAll ((l.map λi=>(List.range w).map λj=>celD (f i j)).map PyData.list)<=2
 |[],_=>⟨rfl,lO _⟩
 |i::l,h=>by
  obtain⟨h1,h2⟩:=QL (l:=l) λk hk=>h k (lj _ hk);obtain⟨g1,g2⟩:=VW (w:=w) (g:=f i) (l:=List.range w) λj hj=>h i li j (by simpa using hj);refine⟨?_,?_⟩
  .simp only[lG,PyData.canLayAll0,PyData.canLay0,g1,h1,Bool.and_self]
  .simp only[lG,PyData.depthAll,PyData.depth]
   omega
theorem Zr{g:Nat->Cel}:∀l:List Nat,PyData.eqvAll (l.map λj=>celD (g j)) (l.map λj=>celD (g j))=true
 |[]=>rfl
 |j::l=>by simp only[lG,PyData.eqvAll,zgy,decide_true,Bool.true_and];exact Zr l
theorem ze7{h w:Nat}{f:PF}:PyData.eqv (.list ((genG h w f).map PyData.list)) (.list ((genG h w f).map PyData.list))=true:=by
 unfold genG;simp only[PyData.eqv]
 generalize List.range h=l
 induction l with
 |nil=>rfl
 |cons i l ih=>simp only[lG,PyData.eqvAll,PyData.eqv,Zr,Bool.true_and];exact ih
def Num3:PyData->Prop
 |.none=>True
 |.int i=>0<=i/\i<=999
 |_=>False
theorem Num3.d{n:PyData}(h:Num3 n):NumD n:=by
 cases n with
 |none=>trivial
 |int i=>exact⟨h.1,by have:=h.2;omega⟩
 |_=>exact h.elim
structure Ok3 (ns:List PyData):Prop where
 n:∀m∈ns,Num3 m
 l:ns.length<=6
 o:1<=ns.length
theorem Ok3.ns{ns:List PyData}(h:Ok3 ns):OkNs ns:=⟨λm hm=>(h.n m hm).d,h.l,h.o⟩
theorem zc3(h:isLet c):c<128:=by unfold isLet at h;omega
def OkQ:Rea->Prop
 |.sign c=>c<128/\32<=c
 |.line=>True
 |.tab=>True
 |.row c ns=>isLet c/\Ok3 ns
theorem zlr:∀n,n<1000->(Nat.toDigits 10 n).length<=3:=by decide +kernel
theorem zc4{n:PyData}(h:Num3 n):(∀c∈(numT n).cps.toList,48<=c/\c<=57)/\(numT n).cps.toList.length<=3/\uD (numT n).cps.toList=n:=by
 cases n with
 |none=>exact⟨λc hc=>(by cases hc),lO _,rfl⟩
 |int i=>
  obtain⟨h0,h1⟩:=h;obtain⟨m,rfl⟩:=Int.eq_ofNat_of_zero_le h0;have e:(numT (.int (m:Int))).cps.toList=(Nat.toDigits 10 m).map Char.toNat:=PySem.W.KIN.signs_num m;rw[e];refine⟨λc hc=>?_,by rw[l6];exact zlr m (by omega),?_⟩
  .obtain⟨ch,hch,rfl⟩:=lJ.mp hc
   exact PyProof.Rows.digit_range (Nat.isDigit_of_mem_toDigits (by decide) (by decide) hch)
  .unfold uD
   rw[l8,PySem.W.KIN.val_back];intro z;have q:m= 0:=by
    have:=PySem.W.KIN.val_back m;rw[z]at this;exact this.symm
   subst q;exact absurd z (by decide)
 |_=>exact h.elim
theorem KC:∀{A:List (List Nat)},c∈jnL A->c= 59\/∃a∈A,c∈a
 |[],h=>by cases h
 |[a],h=>.inr ⟨a,lh.mpr rfl,h⟩
 |a::b::r,h=>by
  have h':c∈a++59::jnL (b::r):=h;rcases lz.mp h' with z|z
  .exact .inr ⟨a,li,z⟩
  .rcases lm.mp z with z|z
   .exact .inl z
   .rcases KC z with y|⟨q,hq,y⟩
    .exact .inl y
    .exact .inr ⟨q,lj _ hq,y⟩
noncomputable def Uz(ns:List PyData):List Nat:=jnL ((ns.map numT).map (·.cps.toList))
theorem Xk{ns:List PyData}(h:Ok3 ns):∀c∈Uz ns,c= 59\/(48<=c/\c<=57):=λc hc=>by
 rcases KC hc with z|⟨a,ha,z⟩
 .exact .inl z
 .obtain⟨t,ht,rfl⟩:=lJ.mp ha
  obtain⟨n,hn,rfl⟩:=lJ.mp ht;exact .inr ((zc4 (h.n n hn)).1 c z)
theorem VX(c:Nat)(ns:List PyData):(rowT c ns).cps.toList= 126::(Uz ns++[c]):=by
 unfold rowT Uz;rw[xn,xn,u5,show Str.ofString ";" =xZ by decide +kernel,qO,show(Str.ofString "~").cps.toList=[126]by decide +kernel];rfl
theorem zjZ{r:Rea}(h:OkQ r):(rdT r).cps.all (· < 128)=true/\(rdT r).length<=100:=by
 have key:∀z:Str,(∀c∈z.cps.toList,c<128)->z.cps.all (· < 128)=true:=λz hz=>by
  rw[m7];intro c hc;exact lQ (hz c (mM.mpr hc))
 cases r with
 |sign c=>
  by_cases e:c= 126
  .rw[show rdT (.sign c)=Str.ofString "~~" from lg e]
   exact⟨by decide +kernel,by decide +kernel⟩
  .rw[show rdT (.sign c)=⟨#[c]⟩from l8 e]
   refine⟨key _ λd hd=>?_,(by decide:1<=100)⟩;have hd':d∈[c]:=hd;rw[lh.mp hd'];exact h.1
 |line=>exact⟨by decide +kernel,by decide +kernel⟩
 |tab=>exact⟨by decide +kernel,by decide +kernel⟩
 |row c ns=>
  have e:=VX c ns;have jl:=zc2 h.2.ns;refine⟨key _ λd hd=>?_,?_⟩
  .rw[show rdT (.row c ns)=rowT c ns from rfl,e]at hd
   rcases lm.mp hd with rfl|hd
   .decide
   .rcases lz.mp hd with hd|hd
    .have:=Xk h.2 d hd;omega
    .cases lh.mp hd;exact zc3 h.1
  .have el:(Txt.join (Str.ofString ";") (ns.map numT)).length=(Uz ns).length:=by
    rw[xu,u5,show Str.ofString ";" =xZ by decide +kernel,qO];rfl
   rw[show rdT (.row c ns)=rowT c ns from rfl,xu,e,lL,lI,List.length_singleton];omega
theorem zc5{z:Str}(h:z.cps.all (· < 128)=true):PyData.strOk z=true:=by
 unfold PyData.strOk;rw[m7]at h ⊢;intro c hc;have:=mf (h c hc);exact lQ (by omega)
structure Lv (k:Nat) (d:PyData):Prop where
 lay:d.canLay0=true
 dep:d.depth<=k
 eq:PyData.eqv d d=true
structure Lvs (k:Nat) (ds:List PyData):Prop where
 lay:PyData.canLayAll0 ds=true
 dep:PyData.depthAll ds<=k
 eq:PyData.eqvAll ds ds=true
section
variable {k:Nat}{d:PyData}{es:List PyData}
theorem Lvs.nil:Lvs k []:=⟨rfl,lO _,rfl⟩
theorem Lvs.cons(h:Lv k d)(t:Lvs k ds):Lvs k (d::ds):=⟨by simp only[PyData.canLayAll0,h.lay,t.lay,Bool.and_self],by have a:=h.dep;have b:=t.dep;simp only[PyData.depthAll];omega,by simp only[PyData.eqvAll,h.eq,t.eq,Bool.and_self]⟩
theorem Lvs.of:∀{ds:List PyData},(∀d∈ds,Lv k d)->Lvs k ds
 |[],_=>.nil
 |d::ds,h=>.cons (h d li) (.of λx hx=>h x (lj _ hx))
theorem Lv.list(h:Lvs k ds):Lv (k+1) (.list ds):=⟨by simp only[PyData.canLay0,h.lay],by have:=h.dep;simp only[PyData.depth];omega,by simp only[PyData.eqv,h.eq]⟩
theorem Lv.tup(h:Lvs k ds):Lv (k+1) (.tuple ds):=⟨by simp only[PyData.canLay0,h.lay],by have:=h.dep;simp only[PyData.depth];omega,by simp only[PyData.eqv,h.eq]⟩
theorem Lv.int{i:Int}:Lv k (.int i):=⟨by simp only[PyData.canLay0],by simp only[PyData.depth];omega,by simp[PyData.eqv]⟩
theorem Lv.bool{i:Bool}:Lv k (.bool i):=⟨by simp only[PyData.canLay0],by simp only[PyData.depth];omega,by simp[PyData.eqv]⟩
theorem Lv.str{z:Str}(h:PyData.strOk z=true):Lv k (.str z):=⟨by simp only[PyData.canLay0,h],by simp only[PyData.depth];omega,by simp[PyData.eqv]⟩
theorem Lv.sh(h:Lv k d)(hk:k<=64):SeqAt.shaped d=true:=by
 unfold SeqAt.shaped;rw[h.lay,lQ (lT h.dep hk)];rfl
theorem Lv.grid{h w:Nat}{f:PF}(hf:∀i j,i<h->j<w->okC (f i j)):Lv 3 (.list ((genG h w f).map .list)):=by
 obtain⟨h1,h2⟩:=QL (w:=w) (f:=f) (l:=List.range h) λi hi j hj=>hf i j (by simpa using hi) hj;exact⟨by simp only[PyData.canLay0];exact h1,by simp only[PyData.depth];exact Nat.succ_le_succ h2,ze7⟩
theorem Lv.strs {l:List Str}(h:∀ z∈l,PyData.strOk z=true):Lv 1 (.list (l.map .str)):=.list (.of fun d hd=>by
  obtain⟨z,hz,rfl⟩:=lJ.mp hd;exact .str (h z hz))
theorem Lv.ints {l:List Int}:Lv 1 (.list (l.map .int)):=.list (.of fun d hd=>by
  obtain⟨z,hz,rfl⟩:=lJ.mp hd;exact .int)
end
section
variable {k m:Nat}{d:PyData}
end
theorem Good.rd{r:Rea}(h:Good n S)(hn:6<=n)(hr:OkR r):Good (n+1) (rdS' r S):=by
 cases r with
 |sign c=>exact(h.put (zkX hr.1)).up
 |line=>exact h.lineE.up
 |tab=>exact h.tab.up
 |row c ns=>
  show Good (n+1) (if c= 113 then S else L2.opt lsAll c (actS c (nmA ns 0) (nmA ns 1) ns) S);split
  .exact h.up
  .exact h.opt hn (QJ hr.2.n)
structure Sd where
 x:Addr
 dx:Addr
 p:Addr
 st:Addr
 kp:Addr
noncomputable def Sd.l(A:Sd):List Addr:=[A.x,A.p,A.st,A.kp]
abbrev At(O:OM)(C:Addr)(A:Sd)(S:ST):Prop:=StAt O C A.x A.dx A.p A.st A.kp S
def Dj(l m:List Addr):Prop:=∀a∈l,a∉m
theorem Dj.symm{l m:List Addr}(h:Dj l m):Dj m l:=λa ha hb=>h a hb ha
def Fr(O O':OM)(l l':List Addr):Prop:=∀a o,O a=some o->a∉l->O' a=some o/\a∉l'
section
variable {O1 O2 O':OM}{A A' B U:Sd}{S' T:ST}{l l' m l1:List Addr}{q:Addr}{o:OO}
theorem At.nn(h:At O C A S):∀a∈A.l,∃o,O a=some o:=λa ha=>by
 have ha':a∈[A.x,A.p,A.st,A.kp]:=ha;simp only[lm,lD,m6]at ha';rcases ha' with rfl|rfl|rfl|rfl
 .exact⟨_,h.x⟩
 .exact⟨_,h.p⟩
 .exact⟨_,h.st⟩
 .exact⟨_,h.kp⟩
theorem At.of(h:At O C A S)(k:∀a∈A.l,∀o,O a=some o->O' a=some o):At O' C A S:=
 ⟨k _ (by simp[Sd.l]) _ h.x,k _ (by simp[Sd.l]) _ h.p,k _ (by simp[Sd.l]) _ h.st,k _ (by simp[Sd.l]) _ h.kp⟩
theorem At.old(h:At O C A S)(k:Old O O'):At O' C A S:=h.of λa _ o e=>by rw[k a (by rw[e];simp)];exact e
theorem Fr.at (f:Fr O O' l l') (h:At O C U T) (d:Dj U.l l):At O' C U T/\Dj U.l l':=⟨h.of fun a ha o e=>(f a o e (d a ha)).1,fun a ha=>by
 obtain⟨o,e⟩:=h.nn a ha;exact(f a o e (d a ha)).2⟩
theorem Fr.trans(f:Fr O O1 l l1)(g:Fr O1 O2 l1 l'):Fr O O2 l l':=λa o e h=>by
 obtain⟨h1,h2⟩:=f a o e h;exact g a o h1 h2
theorem Fr.app(f:Fr O O' l l')(h:∀a∈m,∃o,O a=some o)(d:Dj m l):Fr O O' (l++m) (l'++m):=λa o e ha=>by
 rw[lz,mz]at ha;obtain⟨h1,h2⟩:=f a o e ha.1;exact⟨h1,by rw[lz,mz];exact⟨h2,ha.2⟩⟩
theorem Fr.sw(f:Fr O O' (l++m) (l'++l1)):Fr O O' (m++l) (l1++l'):=λa o e ha=>by
 rw[lz,mz]at ha;obtain⟨h1,h2⟩:=f a o e (by rw[lz,mz];exact⟨ha.2,ha.1⟩);rw[lz,mz]at h2;exact⟨h1,by rw[lz,mz];exact⟨h2.2,h2.1⟩⟩
theorem Nxt.fr{x st kp st' kp':Addr}(N:Nxt O O' C x dx p st kp st' kp' S'):Fr O O' (Sd.l ⟨x,dx,p,st,kp⟩) (Sd.l ⟨x,dx,p,st',kp'⟩):=λa o e ha=>by
 have ha':a∉[x,p,st,kp]:=ha;refine⟨N.b.old e ha',λz=>?_⟩;have z':a∈[x,p,st',kp']:=z;simp only[lm,lD,m6,mz]at ha' z';rcases z' with z|z|z|z
 .exact ha'.1 z
 .exact ha'.2.1 z
 .rcases N.e1 with y|y
  .exact ha'.2.2.1 (z.trans y)
  .rw[<-z,e]at y;cases y
 .rcases N.e2 with y|y
  .exact ha'.2.2.2 (z.trans y)
  .rw[<-z,e]at y;cases y
theorem At.upd(h:At O C A S)(hq:q∉A.l):At (updO O q o) C A S:=h.of λa ha u e=>by
 rw[ze (λz=>hq (by rw[<-z];exact ha))];exact e
theorem QM{x st kp:Addr}{u:OO}(hx:O x=none)(hp:updO O x u p=none)(hs:updO O x u st=none)(hk:updO O x u kp=none)(h:∀b,b≠x->b≠p->b≠st->b≠kp->O' b=updO O x u b) :
  Old O O'/\∀a∈Sd.l ⟨x,dx,p,st,kp⟩,O a=none:=by
 have back:∀b,updO O x u b=none->O b=none:=λb hb=>by
  by_cases e:b=x
  .rw[e];exact hx
  .rw[ze e]at hb;exact hb
 refine⟨λb hb=>?_,λa ha=>?_⟩
 .have n1:b≠x:=λe=>hb (by rw[e];exact hx)
  rw[h b n1 (λe=>hb (by rw[e];exact back _ hp)) (λe=>hb (by rw[e];exact back _ hs)) (λe=>hb (by rw[e];exact back _ hk)),ze n1]
 .have ha':a∈[x,p,st,kp]:=ha
  simp only[lm,lD,m6]at ha';rcases ha' with rfl|rfl|rfl|rfl
  .exact hx
  .exact back _ hp
  .exact back _ hs
  .exact back _ hk
theorem Dj.new(h:∀a∈l,O a=none)(k:∀a∈m,∃o,O a=some o):Dj l m:=λa ha hb=>by
 obtain⟨o,e⟩:=k a hb;rw[h a ha]at e;cases e
end
section
variable {O':OM}{cS cL cT cR d:Addr}{A:Sd}{r:Rea}
end
section
variable {O':OM}{sl:Addr}{A B U V A' B' U' V':Sd}{T S' T':ST}
theorem zj0{l m n:List Addr}(h:Dj (l++m) n):Dj l n/\Dj m n:=⟨λa ha=>h a (ma _ ha),λa ha=>h a (lN _ ha)⟩
theorem Xl{l m n:List Addr}(h:Dj l n)(k:Dj m n):Dj (l++m) n:=λa ha=>by
 rcases lz.mp ha with z|z
 .exact h a z
 .exact k a z
end
structure StOk (S:ST):Prop where
 n:S.stops.Nodup
 r:∀s∈S.stops,0<=s/\s<S.w
theorem QN:∀(w:Nat) (l:List Int),l.Nodup->(∀x∈l,0<=x/\x<(w:Int))->l.length<=w
 |0,l,_,h=>by
  cases l with
  |nil=>exact lp _
  |cons a l=>have:=h a li;omega
 |w+1,l,hn,h=>by
  by_cases hm:(w:Int)∈l
  .have ih:=QN w (l.erase (w:Int)) (hn.erase _) λx hx=>by
    rw[hn.mem_erase_iff]at hx;have:=h x hx.2;have:=hx.1;omega
   rw[List.length_erase_of_mem hm]at ih;omega
  .have ih:=QN w l hn λx hx=>by
    have:=h x hx;have:x≠w:=λe=>hm (by rw[<-e];exact hx);omega
   omega
section
variable {S':ST}{a b:PyData}{ns:List PyData}{r:Rea}
theorem StOk.len(h:StOk S):S.stops.length<=S.w:=QN _ _ h.n h.r
theorem Good.in24(h:Good n S)(hs:StOk S):Good 24 S:=⟨h.b,h.k,h.a,h.l,lT hs.len h.b.w2⟩
theorem StOk.to(h:StOk S)(e1:S'.stops=S.stops)(e2:S'.w=S.w):StOk S':=⟨by rw[e1];exact h.n,by rw[e1,e2];exact h.r⟩
theorem StOk.sm(h:StOk S)(e:Smo S S'):StOk S':=h.to e.s e.w
theorem StOk.sn(h:StOk S)(e:Sno S S'):StOk S':=h.to e.s e.w
theorem StOk.put{z:Str}(h:StOk S):StOk (putS0 z S):=h.sn zcZ
theorem StOk.it{z:Str}(h:StOk S):∀m,StOk (itS z m S)
 |0=>h
 |m+1=>(h.it m).put
theorem Zs:∀w,w<=24->(stopsI w).Nodup/\∀s∈stopsI w,0<=s/\s<(w:Int):=by decide +kernel
theorem yf{q:Prop}[Decidable q]{A B:ST}(h1:StOk A)(h2:StOk B):StOk (if q then A else B):=by
 split
 .exact h1
 .exact h2
theorem StOk.act(h:StOk S)(hb:Bds S):StOk (actS c a b ns S):=by
 unfold actS;refine yf ?_ ?_
 .exact h.to rfl rfl
 refine yf ?_ ?_
 .have c0:=hb.c0
  have c1:=hb.c1;show StOk { S with stops:=if S.col∈S.stops then S.stops else S.stops++[S.col] };split
  .exact h.to rfl rfl
  .rename_i hm
   refine⟨?_,λs hs=>?_⟩
   .show(S.stops++[S.col]).Nodup
    rw[List.nodup_append];refine⟨h.n,by simp,λx hx y hy e=>?_⟩;cases lh.mp hy;exact hm (by rw[<-e];exact hx)
   .have hs':s∈S.stops++[S.col]:=hs
    rcases lz.mp hs' with z|z
    .exact h.r s z
    .cases lh.mp z;exact⟨c0,c1⟩
 refine yf ?_ ?_
 .exact⟨h.n.filter _,λs hs=>h.r s (List.mem_filter.mp hs).1⟩
 refine yf ?_ ?_
 .exact⟨List.nodup_nil,λs hs=>by cases hs⟩
 refine yf ?_ ?_
 .exact h.to rfl rfl
 refine yf ?_ ?_
 .unfold backS;split;exact h.to rfl rfl;exact h
 refine yf ?_ ?_
 .have q:=Zs S.w hb.w2
  exact⟨q.1,q.2⟩
 refine yf ?_ ?_
 .exact h.sm zaW
 refine yf ?_ ?_
 .exact h.to rfl rfl
 refine yf ?_ ?_
 .exact h.to rfl rfl
 refine yf ?_ ?_
 .unfold agS
  split
  .exact h.it _
  .exact h
 refine yf ?_ ?_
 .exact h.to rfl rfl
 refine yf ?_ ?_
 .exact h.to rfl rfl
 refine yf ?_ ?_
 .rw[zaU];exact h.to rfl rfl
 refine yf ?_ ?_
 .rw[zaV];exact h.to rfl rfl
 refine yf ?_ ?_
 .exact h.to rfl rfl
 refine yf ?_ ?_
 .exact h.to rfl rfl
 refine yf ?_ ?_
 .exact h.to rfl rfl
 refine yf ?_ ?_
 .exact h.to rfl rfl
 refine yf ?_ ?_
 .exact h.sm Z8
 refine yf ?_ ?_
 .exact h.sm X8
 refine yf ?_ ?_
 .exact h.sm X9
 refine yf ?_ ?_
 .exact h.to rfl rfl
 refine yf ?_ ?_
 .exact h.sm (ua (ns:=ns) (on:=true) hb).1
 refine yf ?_ ?_
 .exact h.sm (ua (ns:=ns) (on:=false) hb).1
 exact h
end
def PicL(S:ST):Prop:=∀i j,i<S.h->j<S.w->(S.pic i j).1.length= 1
def LsL(S:ST):Prop:=S.last=.none\/∃c:Str,S.last=.str c/\c.length= 1
structure One (S:ST):Prop where
 p:PicL S
 l:LsL S
section
variable {S':ST}{a b:PyData}{ns:List PyData}
theorem QO:(Str.ofString " ").length= 1:=by decide +kernel
theorem PicL.set{j:Nat}{z:Str}{k:Int}(h:PicL S)(hc:z.length= 1):PicL { S with pic:=setF S.pic i j (z,k) }:=by
 intro x y hx hy;show(setF S.pic i j (z,k) x y).1.length= 1;unfold setF;split
 .exact hc
 .exact h x y hx hy
theorem PicL.mv{t b l r dn ac:Int}(h:PicL S)(h0:0<=t)(hb:b<S.h)(hl:0<=l)(hr:r<S.w):PicL (mvS t b l r dn ac S):=by
 intro x y hx hy;show(mvP S.pic S.ink t b l r dn ac x y).1.length= 1;unfold mvP;split
 .split
  .exact h _ _ (by simp only[mvS]at *;omega) (by simp only[mvS]at *;omega)
  .exact QO
 .exact h x y hx hy
theorem PicL.wip{a b:Int}(h:PicL S):PicL { S with pic:=wipP S.pic S.ink S.w a b }:=by
 intro i j hi hj;show(wipP S.pic S.ink S.w a b i j).1.length= 1;unfold wipP;split
 .exact QO
 .exact h i j hi hj
theorem One.to(h:One S)(e1:S'.pic=S.pic)(e2:S'.w=S.w)(e3:S'.h=S.h)(e4:S'.last=S.last):One S':=
 ⟨λi j hi hj=>by rw[e1];exact h.p i j (by rw[<-e3];exact hi) (by rw[<-e2];exact hj),by unfold LsL;rw[e4];exact h.l⟩
theorem One.sm(h:One S)(e:Smo S S'):One S':=h.to e.p e.w e.h e.l
theorem One.eff{l:Lt}{m:PyData}(h:One S)(hB:Bds S):One (effS l m S):=by
 have e:=qN hB;refine⟨?_,h.l⟩;show PicL { S with pic:=effP l m S };cases l<;>simp only[effP]
 .exact PicL.mv h.p hB.t0 hB.b1 hB.l0 hB.rr
 .exact PicL.mv h.p hB.t0 hB.b1 hB.l0 hB.rr
 .split
  .exact PicL.mv h.p hB.r0 hB.b1 hB.l0 hB.rr
  .exact h.p
 .split
  .exact PicL.mv h.p hB.r0 hB.b1 hB.l0 hB.rr
  .exact h.p
 .exact PicL.mv h.p hB.r0 hB.r1 hB.c0 e.2
 .exact PicL.mv h.p hB.r0 hB.r1 hB.c0 e.2
 .exact PicL.wip h.p
 .exact PicL.wip h.p
theorem One.lineE(h:One S)(hB:Bds S):One (lineE S):=by
 have h1:One (leftS S):=h.to rfl rfl rfl rfl;have hB1:=hB.left;unfold L2.lineE;dsimp only;split
 .exact⟨PicL.mv h1.p hB1.t0 hB1.b1 hB1.l0 hB1.rr,h1.l⟩
 .split
  .exact h1.to rfl rfl rfl rfl
  .exact h1.to rfl rfl rfl rfl
theorem One.put{z:Str}(h:One S)(hB:Bds S)(hz:z.length= 1):One (putS0 z S):=by
 rw[vq];have h1:One (pA S):=by
  unfold pA;split
  .exact h.lineE hB
  .exact h
 have h2:One (pB (pA S)):=h1.to rfl rfl rfl rfl;have hB2:=hB.pA.pB
 generalize pB (pA S)=S2 at *
 have h3:One (pC S2):=by
  unfold pC;split
  .exact⟨PicL.mv h2.p hB2.r0 hB2.r1 hB2.c0 (qN hB2).2,h2.l⟩
  .exact h2
 generalize pC S2=S3 at *
 have h4:One (pE z (pD z S3)):=⟨PicL.set h3.p hz,.inr ⟨z,rfl,hz⟩⟩
 generalize pE z (pD z S3)=S4 at *
 unfold pF;split
 .exact h4.to rfl rfl rfl rfl
 .exact h4.to rfl rfl rfl rfl
theorem One.it{z:Str}(h:One S)(hB:Bds S)(hz:z.length= 1):∀m,One (itS z m S)
 |0=>h
 |m+1=>(h.it hB hz m).put (QH hB m) hz
theorem yl{q:Prop}[Decidable q]{A B:ST}(h1:One A)(h2:One B):One (if q then A else B):=by
 split
 .exact h1
 .exact h2
theorem One.act(h:One S)(hb:Bds S):One (actS c a b ns S):=by
 unfold actS;refine yl (h.to rfl rfl rfl rfl) ?_;refine yl (h.to rfl rfl rfl rfl) ?_;refine yl (h.to rfl rfl rfl rfl) ?_;refine yl (h.to rfl rfl rfl rfl) ?_;refine yl (h.to rfl rfl rfl rfl) ?_;refine yl ?_ ?_
 .unfold backS;split;exact h.to rfl rfl rfl rfl;exact h
 refine yl ?_ ?_
 .exact⟨PicL.wip (S:=st0 S.w S.h S.pic) h.p,.inl rfl⟩
 refine yl (h.sm zaW) ?_;refine yl (h.to rfl rfl rfl rfl) ?_;refine yl (h.to rfl rfl rfl rfl) ?_;refine yl ?_ ?_
 .unfold agS
  split
  .rename_i z hz
   rcases h.l with e|⟨z',e,hz'⟩
   .rw[e]at hz;cases hz
   .rw[e]at hz;cases hz;exact h.it hb hz' _
  .exact h
 refine yl (h.eff (l:=.R) (m:=a) hb) ?_;refine yl (h.eff (l:=.D) (m:=a) hb) ?_;refine yl (by rw[zaU];exact h.eff hb) ?_;refine yl (by rw[zaV];exact h.eff hb) ?_;refine yl (h.eff (l:=.s) (m:=a) hb) ?_;refine yl (h.eff (l:=.x) (m:=a) hb) ?_;refine yl (h.eff (l:=.e) (m:=a) hb) ?_;refine yl (h.eff (l:=.w) (m:=a) hb) ?_;refine yl (h.sm Z8) ?_;refine yl (h.sm X8) ?_;refine yl (h.sm X9) ?_;refine yl (h.to rfl rfl rfl rfl) ?_;refine yl (h.sm (ua (ns:=ns) (on:=true) hb).1) ?_;refine yl (h.sm (ua (ns:=ns) (on:=false) hb).1) h
end
section
variable {S':ST}{a b:PyData}{ns:List PyData}{r:Rea}
structure Fit (S:ST):Prop where
 g:Good 24 S
 s:StOk S
 o:One S
theorem Fit.rd(h:Fit S)(hr:OkR r):Fit (rdS' r S):=by
 have g:=h.g.rd (by decide) hr;have s:StOk (rdS' r S):=by
  cases r with
  |sign c=>exact h.s.put
  |line=>exact h.s.sn YA
  |tab=>exact h.s.to rfl rfl
  |row c ns=>
   show StOk (if c= 113 then S else L2.opt lsAll c (actS c (nmA ns 0) (nmA ns 1) ns) S);refine yf h.s ?_;unfold L2.opt;exact yf (h.s.act h.g.b) h.s
 have o:One (rdS' r S):=by
  cases r with
  |sign c=>exact h.o.put h.g.b rfl
  |line=>exact h.o.lineE h.g.b
  |tab=>exact h.o.to rfl rfl rfl rfl
  |row c ns=>
   show One (if c= 113 then S else L2.opt lsAll c (actS c (nmA ns 0) (nmA ns 1) ns) S);refine yl h.o ?_;unfold L2.opt;exact yl (h.o.act h.g.b) h.o
 exact⟨g.in24 s,s,o⟩
theorem zls{wd hg:Nat}(w1:1<=wd)(w2:wd<=24)(h1:1<=hg)(h2:hg<=12):Fit (st0 wd hg λ_ _=>blank 0):=by
 have b0:Bds (st0 wd hg λ_ _=>blank 0):=by constructor<;>simp only[st0]<;>first|decide|omega
 have s0:StOk (st0 wd hg λ_ _=>blank 0):=⟨(Zs wd w2).1,(Zs wd w2).2⟩;have g0:Good 6 (st0 wd hg λ_ _=>blank 0):=⟨b0,⟨lO _,λk hk=>by cases hk⟩,⟨λi j _ _=>(by decide +kernel:PyData.strOk (blank 0).1 =true),rfl,rfl⟩,.inl rfl,Xj w2⟩;exact⟨g0.in24 s0,s0,λi j _ _=>QO,.inl rfl⟩
end
noncomputable def Zt(c:Nat):Rea:=if c= 10 then .line else if c= 9 then .tab else .sign c
noncomputable def zaY(b:List Nat)(c:Nat):List Rea:=match vk ⟨(b.drop 1).toArray⟩with
 |.tuple ns=>[.row c ns]
 |_=>[]
noncomputable def rsS(b:List Nat)(c:Nat):List Rea:=
 if b≠[]/\isLet c then zaY b c
 else if b≠[]/\(vm c\/c= 59)then[]
 else if c≠126\/b.length= 1 then[Zt c]else[]
noncomputable def rsF:List Nat->List Nat->List Rea
 |_,[]=>[]
 |b,c::cs=>rsS b c++rsF (rdS b c).1 cs
theorem ze8(c:Nat):uu c=rdD (Zt c):=by
 unfold uu Zt;split
 .rfl
 .split<;>rfl
theorem zj1:(rdS b c).2 =(rsS b c).map rdD:=by
 unfold rdS rsS;split
 .show rwD b c=(zaY b c).map rdD
  unfold rwD zaY;rcases Qm ⟨(b.drop 1).toArray⟩with e|⟨ds,e,_,_⟩
  .rw[e];rfl
  .rw[e];rfl
 .split
  .rfl
  .split
   .show[uu c]=[rdD (Zt c)]
    rw[ze8]
   .rfl
theorem Xm:∀{cs b:List Nat},(rdF b cs).2 =(rsF b cs).map rdD
 |[],_=>rfl
 |c::cs,b=>by
  show(rdS b c).2++(rdF (rdS b c).1 cs).2 =(rsS b c++rsF (rdS b c).1 cs).map rdD;rw[m9,zj1,Xm]
theorem Vc:∀(cs b ds:List Nat),rsF b (cs++ds)=rsF b cs++rsF (rdF b cs).1 ds
 |[],b,ds=>rfl
 |c::cs,b,ds=>by
  show rsS b c++rsF (rdS b c).1 (cs++ds)=(rsS b c++rsF (rdS b c).1 cs)++rsF (rdF (rdS b c).1 cs).1 ds;rw[Vc cs,mQ]
def okF(c:Nat):Prop:=c= 9\/c= 10\/(32<=c/\c<128)
theorem zc6:∀{A:List (List Nat)}{w:List Nat},w∈A->c∈w->c∈jnL A
 |[],_,h,_=>by cases h
 |[a],w,h,hc=>by cases lh.mp h;exact hc
 |a::b::r,w,h,hc=>by
  show c∈a++59::jnL (b::r);rcases lm.mp h with rfl|h
  .exact ma _ hc
  .exact lN _ (lj _ (zc6 h hc))
theorem zj2:∀{w:List Nat},w.length<=3->(∀c∈w,c<=57)->NumText.digitsVal w<=1000
 |[],_,_=>lO _
 |[a],_,h=>by
  have:=h a (by simp);show 0*10+(a-48)<=1000;omega
 |[a,b],_,h=>by
  have:=h a (by simp);have:=h b (by simp);show(0*10+(a-48))*10+(b-48)<=1000;omega
 |[a,b,c],_,h=>by
  have:=h a (by simp);have:=h b (by simp);have:=h c (by simp);show((0*10+(a-48))*10+(b-48))*10+(c-48)<=1000;omega
 |a::b::c::d::r,h,_=>by simp at h
theorem ze9{z:Str}{ns:List PyData}(h:vk z=.tuple ns)(hz:∀c∈z.cps.toList,c= 59\/(48<=c/\c<=57)):OkNs ns:=by
 unfold vk kd at h;split at h
 .cases h
 .rename_i hn
  injection h with h;rw[mz]at hn;obtain⟨hl,ha⟩:=hn;obtain⟨hj,hs⟩:=zcA z.cps.toList;subst h;refine⟨λm hm=>?_,by rw[l6];omega,by rw[l6,lI];show 1<=_+1;omega⟩;obtain⟨w,hw,rfl⟩:=lJ.mp hm;unfold uD;split
  .trivial
  .have hl3:w.length<=3:=by
    rw[Bool.not_eq_true,List.any_eq_false]at ha;have:=ha w hw;simp only[decide_eq_true_eq]at this;omega
   have hd:∀c∈w,c<=57:=λc hc=>by
    have h59:59∉w:=hs w hw;have:c∈z.cps.toList:=by
     rw[<-hj];exact zc6 hw hc
    rcases hz c this with e|e
    .exact absurd (e▸hc) h59
    .exact e.2
   exact⟨Int.natCast_nonneg _,by have:=zj2 hl3 hd;omega⟩
theorem zj3(hb:okG b)(hc:okF c):∀r∈rsS b c,OkR r:=λr hr=>by
 unfold rsS at hr;split at hr
 .rename_i hl
  unfold zaY at hr;split at hr
  .rename_i ns e
   cases lh.mp hr;exact⟨zc3 hl.2,ze9 e hb⟩
  .cases hr
 .split at hr
  .cases hr
  .split at hr
   .cases lh.mp hr
    unfold Zt;unfold okF at hc;split
    .trivial
    .split
     .trivial
     .rename_i h1 h2
      exact⟨by omega,by omega⟩
   .cases hr
theorem jG:∀{cs b:List Nat},okG b->(∀c∈cs,okF c)->∀r∈rsF b cs,OkR r
 |[],_,_,_,r,hr=>by cases hr
 |c::cs,b,hb,h,r,hr=>by
  rcases lz.mp (show r∈rsS b c++rsF (rdS b c).1 cs from hr)with z|z
  .exact zj3 hb (h c li) r z
  .exact jG (Qr hb c).1 (λd hd=>h d (lj _ hd)) r z
theorem Z9{cs:List Nat}(hb:okG b):(rsF b cs).length<=cs.length:=by
 have:=(jC cs hb).2.2;rw[Xm,l6]at this;exact this
noncomputable def runS(rs:List Rea)(S:ST):ST:=rs.foldl (λS r=>rdS' r S) S
noncomputable def runA:List Rea->ST->List Str
 |[],_=>[]
 |r::rs,S=>rdA r S++runA rs (rdS' r S)
theorem QP(rs ss:List Rea)(S:ST):runS (rs++ss) S=runS ss (runS rs S):=List.foldl_append
theorem YC:∀(rs ss:List Rea) (S:ST),runA (rs++ss) S=runA rs S++runA ss (runS rs S)
 |[],_,_=>rfl
 |r::rs,ss,S=>by
  show rdA r S++runA (rs++ss) (rdS' r S)=(rdA r S++runA rs (rdS' r S))++runA ss (runS rs (rdS' r S));rw[YC rs ss,mQ]
theorem QQ(rs:List Rea)(r:Rea)(S:ST):runS (rs++[r]) S=rdS' r (runS rs S):=QP rs [r] S
theorem QR(rs:List Rea)(r:Rea)(S:ST):runA (rs++[r]) S=runA rs S++rdA r (runS rs S):=by
 rw[YC];show _++(rdA r (runS rs S)++[])=_;rw[lV]
theorem Fit.run:∀{rs:List Rea}{S:ST},Fit S->(∀r∈rs,OkR r)->Fit (runS rs S)
 |[],_,h,_=>h
 |r::rs,S,h,hr=>Fit.run (rs:=rs) (h.rd (hr r li)) λx hx=>hr x (lj _ hx)
def zc7:List V->Hp->VK->Prop:=Up
theorem zfa(hc:X.calm=true):yw X (.builtin "sorted") zc7:=Ku hc
def zc8:List W->OM->WK->Prop:=λxs O R=>∃a kvs,∃ns:List Int,xs=[.own a]/\O a=some (.dK kvs)/\kvs.map (·.1)=ns.map (Sum.inl:Int->Key)/\ns.length<64/\∀p,O p=none->R (.own p) (updO O p (.lst (((srt ns).map .int).map .d)))
theorem QS:∀ns:List Int,relWs K Γ ((ns.map .int).map .d) (ns.map V.int)
 |[]=>.nil
 |n::ns=>.cons rfl (QS ns)
theorem zhD:RefC K zc7 zc8:=by
 rintro Γ O H xs vs S rs Q R ⟨a,kvs,ns,rfl,ho,hk,hl,h⟩ k;cases rs with
 |cons rx t=>
  cases t;obtain⟨_,us,q1,q2⟩:=S.o _ _ ho;refine⟨a,us,ns,by rw[show _=V.ref a from rx],q1,by rw[<-Xe q2];exact hk,hl,λp hp=>?_⟩;obtain⟨hO,S'⟩:=XS S (QS (srt ns)) hp;exact k _ _ _ _ _ (Le.refl _) S' xm (h p hO)
structure Scr (K:W.Frag) (C:Addr):Prop where
 cl:Cls K C
 n_state:NoAttr K C "state"
 n_reader:NoAttr K C "reader"
structure TxtS (K:W.Frag) (mg:Str->Option Value) (C:Addr):Prop where
 mgC:mg "Screen" =some (.ref C)
 st:Scr K C
structure Sn where
 x:Addr
 dx:Addr
 A:Sd
 rx:Addr
 rdx:Addr
 rp:Addr
noncomputable def Sn.l(N:Sn):List Addr:=N.x::(N.A.l++[N.rx,N.rp])
noncomputable def scF(a r:Addr):List (Str×W):=[("state",.own a),("reader",.own r)]
structure ScAt (O:OM) (cN C cQ:Addr) (N:Sn) (S:ST) (b:List Nat):Prop where
 x:O N.x=some (.ins cN N.dx (scF N.A.x N.rx))
 a:At O C N.A S
 r:RdAt cQ O N.rx N.rdx N.rp b
 k:N.rp≠N.A.kp
section
variable {O' O1:OM}{cN cQ:Addr}{N M:Sn}{T:ST}{b':List Nat}{l l':List Addr}
theorem xj{r:Addr}:(scF a r).lookup (Str.ofString "state")=some (.own a):=rfl
theorem VY{r:Addr}:(scF a r).lookup (Str.ofString "reader")=some (.own r):=rfl
theorem ScAt.nn(h:ScAt O cN C cQ N S b):∀a∈N.l,∃o,O a=some o:=λa ha=>by
 rcases lm.mp (show a∈N.x::(N.A.l++[N.rx,N.rp])from ha)with rfl|ha
 .exact⟨_,h.x⟩
 .rcases lz.mp ha with ha|ha
  .exact h.a.nn a ha
  .simp only[lm,lD,m6]at ha
   rcases ha with rfl|rfl
   .exact⟨_,h.r.x⟩
   .exact⟨_,h.r.p⟩
theorem ScAt.of(h:ScAt O cN C cQ N S b)(k:∀a∈N.l,∀o,O a=some o->O' a=some o):ScAt O' cN C cQ N S b:=
 ⟨k _ (by simp[Sn.l]) _ h.x,h.a.of λa ha o e=>k a (by simp[Sn.l,ha]) o e,⟨k _ (by simp[Sn.l]) _ h.r.x,k _ (by simp[Sn.l]) _ h.r.p⟩,h.k⟩
theorem ScAt.old(h:ScAt O cN C cQ N S b)(k:Old O O'):ScAt O' cN C cQ N S b:=h.of λa _ o e=>by rw[k a (by rw[e];simp)];exact e
theorem Fr.sc (f:Fr O O' l l') (h:ScAt O cN C cQ N S b) (d:Dj N.l l):ScAt O' cN C cQ N S b/\Dj N.l l':=⟨h.of fun a ha o e=>(f a o e (d a ha)).1,fun a ha=>by
 obtain⟨o,e⟩:=h.nn a ha;exact(f a o e (d a ha)).2⟩
theorem Fr.rd{x:Addr}(f:Fr O O' l l')(h:RdAt cQ O x dx p b)(d:Dj [x,p] l):RdAt cQ O' x dx p b/\Dj [x,p] l':=by
 obtain⟨a1,a2⟩:=f x _ h.x (d x (by simp));obtain⟨c1,c2⟩:=f p _ h.p (d p (by simp));refine⟨⟨a1,c1⟩,λa ha=>?_⟩;simp only[lm,lD,m6]at ha;rcases ha with rfl|rfl
 .exact a2
 .exact c2
theorem zgf{x p':Addr}(h:Ho O O' x p)(hp:p'=p\/O p'=none):Fr O O' [x,p] [x,p']:=λa o e ha=>by
 simp only[lm,lD,m6,mz]at ha ⊢;refine⟨by rw[h a (by rw[e];simp) ha.1 ha.2];exact e,ha.1,λz=>?_⟩;rcases hp with y|y
 .exact ha.2 (z.trans y)
 .rw[<-z,e]at y;cases y
theorem ScAt.dj(h:ScAt O cN C cQ N S b):N.x∉N.A.l/\Dj [N.rx,N.rp] N.A.l/\N.x∉[N.rx,N.rp]:=by
 refine⟨?_,λa ha=>?_,?_⟩
 .show N.x∉[N.A.x,N.A.p,N.A.st,N.A.kp]
  simp only[lm,lD,m6,mz];exact⟨zaX h.x h.a (by show 2≠17;decide),neW h.x h.a.p (by intro h;cases h),neW h.x h.a.st (by intro h;cases h),neW h.x h.a.kp (by intro h;cases h)⟩
 .show a∉[N.A.x,N.A.p,N.A.st,N.A.kp]
  simp only[lm,lD,m6,mz]at ha ⊢;rcases ha with rfl|rfl
  .exact⟨zaX h.r.x h.a (by show 1≠17;decide),neW h.r.x h.a.p (by intro h;cases h),neW h.r.x h.a.st (by intro h;cases h),neW h.r.x h.a.kp (by intro h;cases h)⟩
  .exact⟨neW h.r.p h.a.x (by intro h;cases h),neW h.r.p h.a.p (by intro h;cases h),neW h.r.p h.a.st (by intro h;cases h),h.k⟩
 .simp only[lm,lD,m6,mz]
  refine⟨neW h.x h.r.x ?_,neW h.x h.r.p (by intro h;cases h)⟩;intro e;injection e with _ _ e;exact absurd (mw List.length e) (by show ¬2=1;decide)
end
section
variable {ρ:WS}{cN cQ:Addr}{M:Sn}{fn:Str}{v:W}
theorem zaZ{R:WK}(hv:ρ[i]? =some (some (.own M.x)))(hM:ScAt O cN C cQ M S b)(N:Scr K cN)(hc:Cls K C)(hn:NoAttr K C fn)(hl:(fldW M.A.p M.A.st M.A.kp S).lookup fn=some v)(h:R v O):xi K (xi K (yk i) "state") fn ρ O R:=by
 show xi K (yk i) "state" ρ O _;exact xH hv hM.x N.cl N.n_state xj ⟨C,M.A.dx,_,hM.a.x,hc,hn,v,hl,h⟩
theorem xW{T:TAW}{R:List W->OM->Prop}(hv:ρ[i]? =some (some (.own M.x)))(hM:ScAt O cN C cQ M S b)(N:Scr K cN)(hc:Cls K C)(hn:NoAttr K C fn)(hl:(fldW M.A.p M.A.st M.A.kp S).lookup fn=some v)(h:T ρ O λws O1=>R (v::ws) O1):jZ (xi K (xi K (yk i) "state") fn) T ρ O R:=zaZ hv hM N hc hn hl h
end
theorem qq:∀{rs:List Rea}{S:ST},(∀r∈rs,∀S,(rdA r S).length<=6)->(runA rs S).length<=6*rs.length
 |[],_,_=>lO _
 |r::rs,S,h=>by
  have h1:=h r li S;have h2:=qq (rs:=rs) (S:=rdS' r S) λx hx=>h x (lj _ hx);show(rdA r S++runA rs (rdS' r S)).length<=_;rw[lI,lL];omega
inductive sInitN (cN C cQ:Addr) (ws:List W) (O:OM) (R:WK):Prop
 |mk:∀x dx,∀w h:Nat,ws=[.own x,.d (.int w),.d (.int h)]->O x=some (.ins cN dx [])->1<=w->w<=24->1<=h->h<=12->(∀N O',N.x=x->(∀a∈N.l,a=x\/O a=none)->ScAt O' cN C cQ N (st0 w h λ_ _=>blank 0) []->(∀b,b≠x->O b≠none->O' b=O b)->R (.d .none) O')->sInitN cN C cQ ws O R
inductive sFeed (cN C cQ:Addr) (ws:List W) (O:OM) (R:WK):Prop
 |mk:∀N S b z,ws=[.own N.x,.d (.str z)]->ScAt O cN C cQ N S b->Fit S->okG b->(∀c∈z.cps.toList,okF c)->b.length+z.length<=80000->(∀q N' O',N'.x=N.x->O q=none->O' q=some (.lst (((runA (rsF b z.cps.toList) S).map .str).map .d))->q∉N'.l->ScAt O' cN C cQ N' (runS (rsF b z.cps.toList) S) (rdF b z.cps.toList).1->Fr O O' N.l N'.l->R (.own q) O')->sFeed cN C cQ ws O R
inductive sTellN (cN C cQ:Addr) (f:ST->List Nat->PyData) (ws:List W) (O:OM) (R:WK):Prop
 |mk:∀N S b,ws=[.own N.x]->ScAt O cN C cQ N S b->Fit S->b.length<=90000->R (.d (f S b)) O->sTellN cN C cQ f ws O R
inductive sTellO (cN C cQ:Addr) (f:ST->OO) (ws:List W) (O:OM) (R:WK):Prop
 |mk:∀N S b,ws=[.own N.x]->ScAt O cN C cQ N S b->Fit S->(∀q,O q=none->R (.own q) (updO O q (f S)))->sTellO cN C cQ f ws O R
noncomputable def tPic(S:ST)(_:List Nat):PyData:=.list ((genG S.h S.w S.pic).map .list)
noncomputable def tCur(S:ST)(_:List Nat):PyData:=.tuple [.int S.row,.int S.col]
noncomputable def tLate(S:ST)(_:List Nat):PyData:=.bool S.late
noncomputable def tInk(S:ST)(_:List Nat):PyData:=.int S.ink
noncomputable def tMod(S:ST)(_:List Nat):PyData:=.tuple [.bool S.wrap,.bool S.putting,.bool S.home]
noncomputable def tWin(S:ST)(_:List Nat):PyData:=.tuple [.int S.top,.int S.bottom,.int S.left,.int S.right]
noncomputable def tStp(S:ST)(_:List Nat):PyData:=.list ((srt S.stops).map .int)
noncomputable def tKep(S:ST)(_:List Nat):PyData:=.int S.kept.length
noncomputable def tOpn(_:ST)(b:List Nat):PyData:=.str ⟨b.toArray⟩
noncomputable def rowTx(w:Nat)(g:Nat->Cel):Str:=Txt.join noS ((List.range w).map λj=>(g j).1)
noncomputable def linT(S:ST):List Str:=(List.range S.h).map λi=>rowTx S.w (S.pic i)
noncomputable def tLin(S:ST)(_:List Nat):PyData:=.list ((linT S).map .str)
noncomputable def allL(S:ST)(b:List Nat):List PyData:=[tPic S b,tCur S b,tLate S b,tInk S b,tMod S b,tWin S b,tStp S b,tKep S b,tOpn S b,tLin S b]
end L2
namespace Att
open PySem PySem.W PySem.Calls PyProof.Rows
theorem zfb{i:Int}(x:(WData.int i).layable=true):L2.Bt 1048576 i:=by
  have h:=(layableW_iff.mp x).2.2;simp only[WData.weight]at h;unfold L2.Bt;by_cases hi:i= 0
  · subst hi
    exact Nat.two_pow_pos _
  · have hn:i.natAbs≠0:=by omega
    simp only[beq_iff_eq,hi,if_false]at h;exact (Nat.log2_lt hn).mp (by
      have e:(2:Nat) ^ 20=1048576:=by decide
      omega)
theorem attB{l:OpenLaw}{q:Program}{loose:List Str}{XP:(Str->Option Value)->Heap->Prop}{YP:World->Heap->Prop}{d:DefRec}
    (hn:l.most=some n)(hdf:d.params.defaults=[])
    (call:∀ (w:World) (s₀ s₁:Shared) (mg mb:Str->Option Value) (fa a:Addr) (vs:List Value) (ns:List Int),Ground q loose [] XP w s₀ mg mb s₁.heap->YP w s₁.heap->mg d.name=some (.ref fa)->
      s₁.heap.get? a=some { cls:=.type "list",data:=.seq vs.toArray }->IntsAre vs ns->ns.length<=n->(∀i∈ns,L2.Bt 1048576 i)->s₁.gens= #[]->
      codeAny (model l.prog w) callerA (.call (.ref fa) ⟨[.ref a],[]⟩) (λr s'=>r=.ok (.ret (.bool true))/\OldK s₁.heap s'.heap/\s'.os=s₁.os/\AllBare s'.gens) s₁) :
    WalkO q loose XP YP l.row.toRowW d [] (λf vs=>PySem.call f vs):=by
  intro w s₀ s₁ mg mb G Y fa o pm cd doc dV kV ho hd hcd hD hm hg args vals as hp hy hr hw hl;cases Dflts.none hD hdf;cases Dflts.noKw hD;obtain⟨a,vs,ns,e1,e2,hb,hi,hk⟩:=zbP hn hp hw;subst e1;subst e2;have bits:∀i∈ns,L2.Bt 1048576 i:=λi h=>zfb (layableW_item (layableW_arg hy _ li) _ (lJ.2 ⟨i,h,rfl⟩));refine enter_call (codeAny_mono (call w s₀ s₁ mg mb fa a vs ns G Y hm hb hi hk bits hg) ?_);rintro r s' ⟨rfl,c2,c3,c4⟩;refine⟨.inl ⟨.bool true,.bool true,[],rfl,λ_=>rfl,.bool true,zbQ l _,λ_=>⟨List.Pairwise.nil,λ_ z=>?_⟩⟩,c2,c3,c4⟩;cases z
end Att
namespace L2
open PySem PySem.Spec PyProof.Rows
theorem walkW{l:PySem.W.OpenLaw}{k:Nat}{q:Program}{loose:List Str}{XP:(Str->Option Value)->Heap->Prop}{YP:World->Heap->Prop}{d:DefRec}{K:Params->W.Frag}{s:SpW}(hn:l.most=some n)(hn2:n<=1000)(hdf:d.params.defaults=[])(hr:Room k callerA)
    (hY:∀(w:World) (h:Heap),YP w h->(K w.params).In h)
    (F:∀ (w:World) (mg:Str->Option Value) (fa:Addr) (h:Heap),(K w.params).In h->h.Ns mainGlobals mg->mg d.name=some (.ref fa)->
      ∃fd:FuncData,(∀(s:Shared) (u:Value),BindsTo s fd ⟨[u],[]⟩ [(x,u)])/\∀base:Heap,(K w.params).In base->base.Ns mainGlobals mg->FnOk l.prog w (K w.params) mg base CX0 k fa fd [x] (za (K w.params) s))
    (hs:∀(ns:List Int) (O:OM) (R:WK),ns.length<=n->(∀i∈ns,Bt 1048576 i)->(∀O',R (.d (.bool true)) O')->s [.d (.list (ns.map .int))] O R) :
    PySem.W.WalkO q loose XP YP l.row.toRowW d [] (λf vs=>PySem.call f vs):=by
  refine Att.attB hn hdf λw s₀ s₁ mg mb fa a vs ns G Y hm hb hi hk bits hg=>?_;obtain⟨fd,e1,e2⟩:=F w mg fa _ (hY w _ Y) G.T.g hm;refine zdQ (hY w _ Y) G.T.g G.T.b G.T.builtins G.T.nolimit hg hb hi (lT hk (lT hn2 (by decide))) hr e2 e1 (λH hO hS=>?_) λ_ _ _ z=>z;refine⟨⟨H,λ_=>none,λ_=>none⟩,λ_=>none,[.d (.list (ns.map .int))],λw _=>w=.d (.bool true),?_,.cons ⟨a,_,rfl,hS,VJ ns⟩ .nil,hs ns _ _ hk bits λ_=>rfl,?_⟩
  · exact⟨Same.refl _,λ_ _ e=>(by cases e),λ_ _ e=>(by cases e),λ_ _ e=>(by cases e),λ_ _ e=>(by cases e),λ_ _ e=>(by cases e),λ_ _ e=>(by cases e),λ_ _ _ _ _ _ _ e=>(by cases e)⟩
  · rintro Γ' O' H' w v _ _ r rfl
    exact r
end L2
namespace K22
open PySem L2
set_option hygiene false
local macro_rules | `(tactic| walk_at "ref") => do
  let f (s : String) : Lean.MacroM (Lean.TSyntax `tactic) := do
    let a ← (s.splitOn " ").toArray.mapM fun n => `(tactic| apply $(Lean.mkIdent n.toName))
    `(tactic| with_reducible first $[| $a:tactic]*)
  `(tactic| repeat' (first | $(← f "zcr zgI zgJ ziG zgK ziH zkF zkG zkm zjg zhc zkp zjh zkr zks zkw zld zkN zkL zi7 ziI"):tactic | exact zlp (fun _=>rfl) | exact zkE (fun _ _=>rfl) | exact zlo (fun _ _=>rfl) | $(← f "zez zd5 zgO zd6 ziP Km zkH zgM ziN zgN zer zg8 Ke zhv zcX zhg zhl zg2 U2"):tactic | with_reducible exact zi4 rfl | $(← f "zjd zhm zgQ zgR zel zcl zcm zea zd9 zb5 zkJ zkK zjn zjb ziQ zlc zkv zjc zkI zjH zjG zkD zha zhh zg3 zaq zen zhk ziY zg4 zg5 Qi zcf zej RefPs.nil RefPs.cons ziZ zgZ zkP zhn zjm zjW zeH zhf zek zeZ zcU zhs zjQ zjR zes zgV zec zb6 zed Kf zgW zgX zee zeg zef zb7 zeh zg0 zhd zeA zgY zhr zeY zaH zb8 zeG zei zb9 zca zcb zcc zeL"):tactic))
local macro_rules | `(tactic| walk_at "wd") => do
  let f (s : String) : Lean.MacroM (Array (Lean.TSyntax ``Lean.Parser.Tactic.simpLemma)) := (s.splitOn " ").toArray.mapM fun n => `(Lean.Parser.Tactic.simpLemma| $(Lean.mkIdent n.toName):ident)
  let a ← f "yk List.getElem?_cons_zero List.getElem?_cons_succ wC wOp vI0 vI wUn vU vEq vNe zax Uv xz Qh zd3 wOr zd4 wIf Yv jZ wCs Y7 wCB vI2 xi Uw zcs Qj xY j0 Y9 zan zku uB XU um ofV Zd List.set List.map ve List.append List.nil_append List.cons_append"
  let b ← f "zjw zjV zcW zjq Ko zjs zcy zf4 zf5 zf6 zcz zjo zaD zjN zjO zcT Kx zjP wDf Qk zjA zf3 zeV zaI zgb zcG zjF zcL zgc yk wC wOp vI0 vI wUn vU vEq vNe ziJ zax Uv ziL zey Za ziM XY wIn zjB zfT Qh zal ziO zfF wIf xz zd3 wOr zd4 zd8 Yv jZ wCs Yw zam zfR Y7 zfG Z4 zcq zf2 wCB zeb zfH U4 U5 U6 vI2 zi5 Kg zfS xi zcs zce zfO Xb wBM zi0 XW xY j0 Y9 zan uB XU um ziT ziS zfI ziU zi3 Uw Qj ziX zfJ ziW zfK zfL zfM zfN wLc zi9 zja zem zfX Xa yD ve ofV vOf scD Ys ul zak yZ Zd XQ U1 tyD isI yE and_assoc wCR zem vG sI1 sI2 sI3 Yy XZ Qc Ut jA zas zF zf yL zV zeu"
  `(tactic| ((try dsimp only [$a,*]);try simp [$b,*]))
set_option hygiene true
noncomputable def top(i:Nat):Stmt:=PySem.Challenge.pw_signscreen_k22_whole_pieces_do.main.body.getD i (.Pass ⟨0,0,0,0⟩)
local macro_rules | `(tactic| walk_at "sc")=>`(tactic| exact⟨rfl,rfl,rfl,by decide +kernel,rfl,by decide +kernel,by decide +kernel⟩)
theorem JI:FnScope ["thing","least","most"] ["thing","least","most"] (defScope (top 8)):=by walk_at "sc"
theorem za0:FnScope ["ink"] ["ink"] (defScope (top 9)):=by walk_at "sc"
theorem za1:FnScope ["ink"] ["ink"] (defScope (top 10)):=by walk_at "sc"
theorem JJ:FnScope ["ink"] ["ink"] (defScope (top 11)):=by walk_at "sc"
theorem zc9:FnScope ["fore","back","marks"] ["fore","back","marks"] (defScope (top 12)):=by walk_at "sc"
theorem QT:FnScope ["ink","hue"] ["ink","hue"] (defScope (top 13)):=by walk_at "sc"
theorem QU:FnScope ["ink","hue"] ["ink","hue"] (defScope (top 14)):=by walk_at "sc"
theorem QV:FnScope ["ink","mark"] ["ink","mark"] (defScope (top 15)):=by walk_at "sc"
theorem Xn:FnScope ["ink","mark"] ["ink","mark"] (defScope (top 16)):=by walk_at "sc"
theorem Xo:FnScope ["ink"] ["ink"] (defScope (top 17)):=by walk_at "sc"
theorem Yl:FnScope ["ink","words","word","hue"] ["ink"] (defScope (top 18)):=by walk_at "sc"
theorem za2:FnScope ["wide","high"] ["wide","high"] (defScope (top 22)):=by walk_at "sc"
theorem QW:FnScope ["wide","ink"] ["wide","ink"] (defScope (top 23)):=by walk_at "sc"
theorem YD:FnScope ["wide","high","ink"] ["wide","high","ink"] (defScope (top 24)):=by walk_at "sc"
theorem Zx:FnScope ["picture"] ["picture"] (defScope (top 25)):=by walk_at "sc"
theorem Xp:FnScope ["row"] ["row"] (defScope (top 26)):=by walk_at "sc"
noncomputable abbrev vt:Stmt:=yp (top 29) 0
theorem Yc:FnScope ["self","wide","high"] ["self","wide","high"] (defScope vt):=by walk_at "sc"
noncomputable abbrev uE:Stmt:=yp (top 29) 1
theorem Vd:FnScope ["self"] ["self"] (defScope uE):=by walk_at "sc"
theorem Ve:FnScope ["wide"] ["wide"] (defScope (top 30)):=by walk_at "sc"
theorem QX:FnScope ["state","top","bottom","left","right"] ["state"] (defScope (top 31)):=by walk_at "sc"
theorem Xq:FnScope ["many"] ["many"] (defScope (top 32)):=by walk_at "sc"
theorem JK:FnScope ["state"] ["state"] (defScope (top 33)):=by walk_at "sc"
theorem zgg:FnScope ["state","letter","many","times","edge"] ["state","letter","many"] (defScope (top 35)):=by walk_at "sc"
theorem Xr:FnScope ["state"] ["state"] (defScope (top 36)):=by walk_at "sc"
theorem za3:FnScope ["number","first","last"] ["number","first","last"] (defScope (top 37)):=by walk_at "sc"
theorem JL:FnScope ["state","row","column"] ["state","row","column"] (defScope (top 38)):=by walk_at "sc"
theorem za4:FnScope ["state"] ["state"] (defScope (top 39)):=by walk_at "sc"
theorem VZ:FnScope ["state","many","right","step","ahead"] ["state","many"] (defScope (top 40)):=by walk_at "sc"
theorem Ym:FnScope ["state","many","left","step","behind"] ["state","many"] (defScope (top 41)):=by walk_at "sc"
theorem JM:FnScope ["state"] ["state"] (defScope (top 42)):=by walk_at "sc"
theorem QY:FnScope ["state"] ["state"] (defScope (top 43)):=by walk_at "sc"
theorem V9:FnScope ["state"] ["state"] (defScope (top 44)):=by walk_at "sc"
theorem kJ:FnScope ["state","step","right","line","old","column","source","inside"] ["state","step"] (defScope (top 46)):=by walk_at "sc"
theorem QZ:FnScope ["state","many"] ["state","many"] (defScope (top 47)):=by walk_at "sc"
theorem Q0:FnScope ["state","many"] ["state","many"] (defScope (top 48)):=by walk_at "sc"
theorem jH:FnScope ["state","first","behind","place"] ["state","first","behind"] (defScope (top 49)):=by walk_at "sc"
theorem kK:FnScope ["state","many","row_begin","behind"] ["state","many"] (defScope (top 50)):=by walk_at "sc"
theorem KF:FnScope ["state","way","row_begin","row_end","cursor","picture_end","spans","span"] ["state","way"] (defScope (top 51)):=by walk_at "sc"
theorem zhE:FnScope ["state"] ["state"] (defScope (top 54)):=by walk_at "sc"
theorem ZB:FnScope ["state","then"] ["state"] (defScope (top 55)):=by walk_at "sc"
theorem Ua:FnScope ["state"] ["state"] (defScope (top 56)):=by walk_at "sc"
theorem kL:FnScope ["state","row","column"] ["state"] (defScope (top 57)):=by walk_at "sc"
theorem ZC:FnScope ["state","wide","high"] ["state"] (defScope (top 58)):=by walk_at "sc"
theorem Q4:FnScope ["state","numbers","answers","number"] ["state","numbers"] (defScope (top 59)):=by walk_at "sc"
theorem ZD:FnScope ["state","first","step","old","row","source","inside","column"] ["state","first","step"] (defScope (top 61)):=by walk_at "sc"
theorem za5:FnScope ["state","first","times"] ["state","first","times"] (defScope (top 62)):=by walk_at "sc"
theorem Q5:FnScope ["state","first","times"] ["state","first","times"] (defScope (top 63)):=by walk_at "sc"
theorem zhF:FnScope ["state","letter","many"] ["state","letter","many"] (defScope (top 64)):=by walk_at "sc"
theorem Q7:FnScope ["state","many"] ["state","many"] (defScope (top 65)):=by walk_at "sc"
theorem Q8:FnScope ["state","many"] ["state","many"] (defScope (top 66)):=by walk_at "sc"
theorem KG:FnScope ["first","last","size","begin","end"] ["first","last","size"] (defScope (top 68)):=by walk_at "sc"
theorem Yn:FnScope ["state","first","last","rows"] ["state","first","last"] (defScope (top 69)):=by walk_at "sc"
theorem jI:FnScope ["state","first","last","columns"] ["state","first","last"] (defScope (top 70)):=by walk_at "sc"
theorem zhG:FnScope ["ink","number"] ["ink","number"] (defScope (top 71)):=by walk_at "sc"
theorem zda:FnScope ["state","numbers","number"] ["state","numbers"] (defScope (top 72)):=by walk_at "sc"
theorem kM:FnScope ["state","numbers","on","turned_on","number"] ["state","numbers","on"] (defScope (top 73)):=by walk_at "sc"
theorem JN:FnScope ["state"] ["state"] (defScope (top 75)):=by walk_at "sc"
theorem JO:FnScope ["state","sign"] ["state","sign"] (defScope (top 76)):=by walk_at "sc"
theorem Jb:FnScope ["state","many","turn"] ["state","many"] (defScope (top 77)):=by walk_at "sc"
theorem Jc:FnScope ["numbers","place"] ["numbers","place"] (defScope (top 79)):=by walk_at "sc"
theorem kA:FnScope ["state","letter"] ["state","letter"] (defScope (top 80)):=by walk_at "sc"
theorem Vi:FnScope ["state","letter","many"] ["state","letter","many"] (defScope (top 81)):=by walk_at "sc"
theorem Vj:FnScope ["state","letter","first","second"] ["state","letter","first","second"] (defScope (top 82)):=by walk_at "sc"
theorem Vk:FnScope ["state","letter","numbers"] ["state","letter","numbers"] (defScope (top 83)):=by walk_at "sc"
noncomputable abbrev vK:Stmt:=yp (top 85) 0
theorem YF:FnScope ["self","sign"] ["self","sign"] (defScope vK):=by walk_at "sc"
noncomputable abbrev ZF:Stmt:=yp (top 85) 1
theorem za7:FnScope ["self","state"] ["self","state"] (defScope ZF):=by walk_at "sc"
noncomputable abbrev ZG:Stmt:=yp (top 86) 0
theorem za8:FnScope ["self","state"] ["self","state"] (defScope ZG):=by walk_at "sc"
noncomputable abbrev YG:Stmt:=yp (top 87) 0
theorem zdb:FnScope ["self","state"] ["self","state"] (defScope YG):=by walk_at "sc"
noncomputable abbrev uf:Stmt:=yp (top 88) 0
theorem Xs:FnScope ["self","letter","numbers"] ["self","letter","numbers"] (defScope uf):=by walk_at "sc"
noncomputable abbrev YH:Stmt:=yp (top 88) 1
theorem V0:FnScope ["self","state","first"] ["self","state"] (defScope YH):=by walk_at "sc"
theorem za9:FnScope ["read"] ["read"] (defScope (top 89)):=by walk_at "sc"
theorem ZI:FnScope ["sign"] ["sign"] (defScope (top 94)):=by walk_at "sc"
theorem ZJ:FnScope ["sign"] ["sign"] (defScope (top 95)):=by walk_at "sc"
theorem V1:FnScope ["body","parts"] ["body"] (defScope (top 96)):=by walk_at "sc"
theorem kN:FnScope ["sign"] ["sign"] (defScope (top 97)):=by walk_at "sc"
noncomputable abbrev x4:Stmt:=yp (top 98) 0
theorem uv:FnScope ["self"] ["self"] (defScope x4):=by walk_at "sc"
noncomputable abbrev x5:Stmt:=yp (top 98) 1
theorem uw:FnScope ["self"] ["self"] (defScope x5):=by walk_at "sc"
noncomputable abbrev uL:Stmt:=yp (top 98) 2
theorem jJ:FnScope ["self","text","found","sign"] ["self","text"] (defScope uL):=by walk_at "sc"
noncomputable abbrev xO:Stmt:=yp (top 98) 3
theorem vP:FnScope ["self","sign","stood_alone"] ["self","sign"] (defScope xO):=by walk_at "sc"
noncomputable abbrev vv:Stmt:=yp (top 98) 4
theorem uQ:FnScope ["self","letter","numbers"] ["self","letter"] (defScope vv):=by walk_at "sc"
noncomputable abbrev x6:Stmt:=yp (top 100) 0
theorem ZK:FnScope ["self","wide","high"] ["self","wide","high"] (defScope x6):=by walk_at "sc"
noncomputable abbrev uM:Stmt:=yp (top 100) 1
theorem jK:FnScope ["self","text","answers","read"] ["self","text"] (defScope uM):=by walk_at "sc"
noncomputable abbrev yT:Stmt:=yp (top 100) 2
theorem vg:FnScope ["self"] ["self"] (defScope yT):=by walk_at "sc"
noncomputable abbrev vL:Stmt:=yp (top 100) 3
theorem YJ:FnScope ["self"] ["self"] (defScope vL):=by walk_at "sc"
noncomputable abbrev vw:Stmt:=yp (top 100) 4
theorem Yd:FnScope ["self"] ["self"] (defScope vw):=by walk_at "sc"
noncomputable abbrev x8:Stmt:=yp (top 100) 5
theorem ZL:FnScope ["self"] ["self"] (defScope x8):=by walk_at "sc"
noncomputable abbrev ug:Stmt:=yp (top 100) 6
theorem Xt:FnScope ["self"] ["self"] (defScope ug):=by walk_at "sc"
noncomputable abbrev vM:Stmt:=yp (top 100) 7
theorem YK:FnScope ["self"] ["self"] (defScope vM):=by walk_at "sc"
noncomputable abbrev xl:Stmt:=yp (top 100) 8
theorem vN:FnScope ["self"] ["self"] (defScope xl):=by walk_at "sc"
noncomputable abbrev xP:Stmt:=yp (top 100) 9
theorem kR:FnScope ["self"] ["self"] (defScope xP):=by walk_at "sc"
noncomputable abbrev x9:Stmt:=yp (top 100) 10
theorem ZM:FnScope ["self"] ["self"] (defScope x9):=by walk_at "sc"
noncomputable abbrev xX:Stmt:=yp (top 100) 11
theorem qQ:FnScope ["self"] ["self"] (defScope xX):=by walk_at "sc"
theorem zba:FnScope ["_law_script","_law_k"] ["_law_script","_law_k"] (defScope (top 102)):=by walk_at "sc"
theorem kO:FnScope ["_law_cell","_law_k","_law_mixed_here"] ["_law_cell","_law_k"] (defScope (top 103)):=by walk_at "sc"
theorem ZO:FnScope ["_law_cell","_law_wide"] ["_law_cell"] (defScope (top 104)):=by walk_at "sc"
theorem Vl:FnScope ["_law_cell"] ["_law_cell"] (defScope (top 105)):=by walk_at "sc"
theorem qR:FnScope ["_law_mixed_here","_law_many"] ["_law_mixed_here"] (defScope (top 106)):=by walk_at "sc"
theorem Yo:FnScope ["_law_mixed_here","_law_letter","_law_more","_law_numbers_here","_law_tens"] ["_law_mixed_here"] (defScope (top 107)):=by walk_at "sc"
theorem kP:FnScope ["_law_letter","_law_numbers_here","_law_words"] ["_law_letter","_law_numbers_here"] (defScope (top 108)):=by walk_at "sc"
theorem Yp:FnScope ["_law_screen","_law_found"] ["_law_screen"] (defScope (top 109)):=by walk_at "sc"
theorem ZP:FnScope ["_law_mixed_here","_law_way","_law_odd","_law_letter","_law_numbers_here"] ["_law_mixed_here"] (defScope (top 110)):=by walk_at "sc"
theorem ZQ:FnScope ["_law_script","_law_first","_law_cells"] ["_law_script","_law_first"] (defScope (top 111)):=by walk_at "sc"
theorem jL:FnScope ["_law_text_here","_law_cell","_law_places"] ["_law_text_here","_law_cell"] (defScope (top 112)):=by walk_at "sc"
theorem Yq:FnScope ["_law_screen","_law_pieces_here","_law_found","_law_piece","_law_told"] ["_law_screen","_law_pieces_here"] (defScope (top 113)):=by walk_at "sc"
theorem qD:FnScope ["_law_reader","_law_state","_law_text_here","_law_found","_law_read"] ["_law_reader","_law_state","_law_text_here"] (defScope (top 114)):=by walk_at "sc"
theorem kQ:FnScope ["_law_screen","_law_reader","_law_state"] ["_law_screen","_law_reader","_law_state"] (defScope (top 115)):=by walk_at "sc"
theorem jM:FnScope ["_law_screen","_law_picture"] ["_law_screen"] (defScope (top 116)):=by walk_at "sc"
theorem zdc:FnScope ["_law_script","_law_wide","_law_high","_law_one","_law_other","_law_reader","_law_state","_law_first","_law_text_here","_law_pieces_here","_law_found"] ["_law_script"] (defScope (top 117)):=by walk_at "sc"
structure Txt (P:Program) (w:World) (K:W.Frag) (mg:Str->Option Value) (C bw:Addr):Prop where
 n_len:mg "len" =none
 n_range:mg "range" =none
 n_int:mg "int" =none
 n_bool:mg "bool" =none
 n_str:mg "str" =none
 n_dict:mg "dict" =none
 n_list:mg "list" =none
 n_tuple:mg "tuple" =none
 n_isinstance:mg "isinstance" =none
 n_sorted:mg "sorted" =none
 n_min:mg "min" =none
 n_max:mg "max" =none
 n_zip:mg "zip" =none
 n_repr:mg "repr" =none
 n_enumerate:mg "enumerate" =none
 n_all:mg "all" =none
 g_WIDEST:∃t,mg "WIDEST" =some (.int 24 t)
 g_HIGHEST:∃t,mg "HIGHEST" =some (.int 12 t)
 g_TAB_STEP:∃t,mg "TAB_STEP" =some (.int 4 t)
 g_ALL_MARKS:∃t,mg "ALL_MARKS" =some (.int 448 t)
 g_MOST_KEPT:∃t,mg "MOST_KEPT" =some (.int 8 t)
 g_BITS_BY_MARK:∃a,mg "BITS_BY_MARK" =some (.ref a)/\DK K a [(0,64),(1,128),(2,256)]
 g_BITS_BY_WORD:mg "BITS_BY_WORD" =some (.ref bw)
 d_bw:DS P w K bw bitsD
 mgC:mg "State" =some (.ref C)
 st:Sta K C
local macro_rules | `(tactic| walk_at "ln")=>do
 let r:=Lean.mkIdent `rfl
 `(tactic| first | (rintro _ _ _ ⟨$r:ident,_⟩;rfl) | (rintro _ _ _ ⟨_,$r:ident,_⟩;rfl) | (rintro _ _ _ ⟨_,_,$r:ident,_⟩;rfl) | (rintro _ _ _ ⟨_,_,_,$r:ident,_⟩;rfl) | (rintro _ _ _ ⟨_,_,_,_,$r:ident,_⟩;rfl) | (rintro _ _ _ ⟨_,_,_,_,_,$r:ident,_⟩;rfl) | (rintro _ _ _ ⟨_,_,_,_,_,_,$r:ident,_⟩;rfl) | (rintro _ _ _ ⟨_,_,_,_,_,_,_,$r:ident,_⟩;rfl) | (rintro _ _ _ ⟨_,_,_,_,_,_,_,_,$r:ident,_⟩;rfl) | (rintro _ _ _ ⟨_,_,_,_,_,_,_,_,_,$r:ident,_⟩;rfl) | (rintro _ _ _ ⟨_,_,_,_,_,_,_,_,_,_,$r:ident,_⟩;rfl) | (rintro _ _ _ ⟨_,_,_,_,_,_,_,_,_,_,_,$r:ident,_⟩;rfl) | (rintro _ _ _ ⟨_,_,_,_,_,_,_,_,_,_,_,_,$r:ident,_⟩;rfl) | (rintro _ _ _ ⟨_,_,_,_,_,_,_,_,_,_,_,_,_,$r:ident,_⟩;rfl))
section
variable {bw:Addr}
theorem Xu(F:Fun K "at_least_one" "at_least_one" (top 32) f fd)(T:Txt P w K mg C bw):FnOk P w K mg base CX0 1 f fd ["many"] (za K vG):=by
 apply F.okU Xq (by walk_at "ln") (λhr=>(zb (zB (yH (zU u8 (pv 0) yG) zd (yd (k6 rfl) (by rfl) T.n_max (by rfl) (QA.pa (qc zd (qc (pv 0) qn))))))))
 .walk_at "ref"
 rintro _ O R ⟨n,rfl,hn,h⟩;rcases hn.cs with rfl|⟨i,rfl,h0,h1⟩
 .walk_at "wd"
  exact .inl h
 .walk_at "wd"
  exact .inl h
theorem zbc(F:Fun K "counted" "counted" (top 37) f fd)(T:Txt P w K mg C bw)(ub:Cal P w K mg base 1 "at_least_one" [] (za K vG)):FnOk P w K mg base CX0 2 f fd ["number","first","last"] (za K Yy):=by
 apply F.okU za3 (by walk_at "ln") (λhr=>(zb (zB (yd (uo rfl) (by rfl) T.n_min (by rfl) (QA.pa (qc (zt yO (zt yc (pv 1) (zo ub hr (qc (pv 0) qn))) zd) (qc (pv 2) qn)))))))
 .walk_at "ref"
 rintro _ O R ⟨n,a,b,rfl,hn,h⟩;walk_at "wd";exact⟨hn,.inl h⟩
theorem JP(F:Fun K "is_whole" "is_whole" (top 8) f fd)(T:Txt P w K mg C bw):FnOk P w K mg base CX0 1 f fd ["thing","least","most"] (za K Qc):=by
 apply F.okU JI (by walk_at "ln") (λhr=>(zb (zB (kX (yd (ur (K:=K) rfl) (by rfl) T.n_isinstance (by rfl) (QA.pa (qc (pv 0) (qc (vQ (v:=.ty "int") (u:=.type "int") rfl T.n_int rfl rfl) qn)))) (kX (zh4 (yd (ur (K:=K) rfl) (by rfl) T.n_isinstance (by rfl) (QA.pa (qc (pv 0) (qc (vQ (v:=.ty "bool") (u:=.type "bool") rfl T.n_bool rfl rfl) qn))))) (kW (vS yR yR (pv 1) (pv 0) (pv 2))))))))
 .walk_at "ref"
 rintro _ O R ⟨n,lo,hi,rfl,h⟩;walk_at "wd";split
 .rename_i h1;simp[h1]at h;exact .inl h
 .rename_i h1;simp[h1]at h;exact .inl h
theorem zbd(F:Fun K "is_size" "is_size" (top 22) f fd)(T:Txt P w K mg C bw)(ab:Cal P w K mg base 1 "is_whole" [] (za K Qc)):FnOk P w K mg base CX0 2 f fd ["wide","high"] (za K zfY):=by
 apply F.okU za2 (by walk_at "ln") (λhr=>(zb (zB (kX (zo ab hr (qc (pv 0) (qc zd (qc (qL rfl T.g_WIDEST) qn)))) (kW (zo ab hr (qc (pv 1) (qc zd (qc (qL rfl T.g_HIGHEST) qn)))))))))
 .walk_at "ref"
 rintro _ O R ⟨a,b,rfl,a1,a2,b1,b2,h⟩;walk_at "wd";have e1:(1:Int)<=a/\(a:Int)<=24:=by omega
 have e2:(1:Int)<=b/\(b:Int)<=12:=by omega
 simp[e1,e2];exact .inl h
theorem zhH(F:Fun K "span" "span" (top 68) f fd)(T:Txt P w K mg C bw)(ub:Cal P w K mg base 1 "at_least_one" [] (za K vG)):FnOk P w K mg base CX0 2 f fd ["first","last","size"] (za K Ut):=by
 have nd:=KG.nd;apply F.okU KG (by walk_at "ln") (λhr=>(zc (zY 3 nd (zo ub hr (qc (pv 0) qn))) (zc (zY 4 nd (yH (xL (K:=K) rfl (pv 1) (λ_=>rfl)) (yd (uo rfl) (by rfl) T.n_min (by rfl) (QA.pa (qc (pv 1) (qc (pv 2) qn)))) (pv 2))) (zb (zB (yH (zU YU (pv 3) (pv 4)) yG (yb (qc (zt yO (pv 3) zd) (qc (zt yO (pv 4) zd) qn)))))))))
 .walk_at "ref"
 rintro _ O R ⟨n,m,s,rfl,hn,hm,h⟩;simp only[Us]at h;have fin:∀E:Int,xM m s=E->if E<oneD n then Clo R (.d .none) O else Clo R (.d (.tuple [.int (oneD n-1),.int (E-1)])) O:=by
  rintro E rfl;split
  .rename_i e;rw[lg e]at h;exact .inl h
  .rename_i e;rw[l8 e]at h;exact .inl h
 rcases hm.cs with rfl|⟨i,rfl,h0,h1⟩
 .walk_at "wd"
  exact⟨hn,fin s rfl⟩
 .walk_at "wd"
  refine⟨hn,?_⟩;by_cases hi:i= 0
  .first|exact .inl ⟨hi,fin s (by simp[xM,hi])⟩|(rw[lg hi];exact fin s (by simp[xM,hi]))
  .first|exact .inr ⟨hi,fin _ (by simp[xM,hi])⟩|(rw[l8 hi];exact fin _ (by simp[xM,hi]))
theorem zbe(F:Fun K "fore_of" "fore_of" (top 9) f fd)(T:Txt P w K mg C bw):FnOk P w K mg base CX0 1 f fd ["ink"] (za K (sI1 (λ_=>True) λi=>Builtin.bitAnd i 7)):=by
 apply F.okU za0 (by walk_at "ln") (λhr=>(zb (zB (zt k4 (pv 0) zd))))
 .walk_at "ref"
 rintro _ O R ⟨n,rfl,_,h⟩;walk_at "wd";exact .inl h
theorem zbf(F:Fun K "back_of" "back_of" (top 10) f fd)(T:Txt P w K mg C bw):FnOk P w K mg base CX0 1 f fd ["ink"] (za K (sI1 (λ_=>True) λi=>Builtin.bitAnd (i / 8) 7)):=by
 apply F.okU za1 (by walk_at "ln") (λhr=>(zb (zB (zt k4 (zt zbz (pv 0) zd) zd))))
 .walk_at "ref"
 rintro _ O R ⟨n,rfl,_,h⟩;walk_at "wd";exact .inl h
theorem JQ(F:Fun K "marks_of" "marks_of" (top 11) f fd)(T:Txt P w K mg C bw):FnOk P w K mg base CX0 1 f fd ["ink"] (za K (sI1 (λ_=>True) λi=>Builtin.bitAnd (i / 64) 7)):=by
 apply F.okU JJ (by walk_at "ln") (λhr=>(zb (zB (zt k4 (zt zbz (pv 0) zd) zd))))
 .walk_at "ref"
 rintro _ O R ⟨n,rfl,_,h⟩;walk_at "wd";exact .inl h
theorem V2{d:Value}(F:FunD K "ink_of" "ink_of" (top 12) [d] f fd)(T:Txt P w K mg C bw):FnOk P w K mg base CX0 1 f fd ["fore","back","marks"] (za K jA):=by
 apply F.okU zc9 (by walk_at "ln") (λhr=>(zb (zB (zt yc (zt yc (pv 0) (zt xt zd (pv 1))) (zt xt zd (pv 2))))))
 .walk_at "ref"
 rintro _ O R ⟨a,b,c,rfl,⟨b1,b2,c1,c2⟩,h⟩;walk_at "wd";exact⟨mulL (by omega) (by omega),mulL (by omega) (by omega),.inl h⟩
theorem Xv(F:Fun K "turned_marks" "turned_marks" (top 17) f fd)(T:Txt P w K mg C bw):FnOk P w K mg base CX0 1 f fd ["ink"] (za K (sI1 (λ_=>True) λi=>Builtin.bitXor i 448)):=by
 apply F.okU Xo (by walk_at "ln") (λhr=>(zb (zB (zt zih (pv 0) (qL rfl T.g_ALL_MARKS)))))
 .walk_at "ref"
 rintro _ O R ⟨n,rfl,_,h⟩;walk_at "wd";exact .inl h
theorem Jd(F:Fun K "with_mark" "with_mark" (top 15) f fd)(T:Txt P w K mg C bw):FnOk P w K mg base CX0 1 f fd ["ink","mark"] (za K (sI2 (λ_ _=>True) λi m=>Builtin.bitOr i ((xG [(0,64),(1,128),(2,256)] m).getD 0))):=by
 obtain⟨aB,hB,dB⟩:=T.g_BITS_BY_MARK;apply F.okU QV (by walk_at "ln") (λhr=>(zb (zB (zt zkd (pv 0) (U9 (K:=K) rfl (jt (v:=.ref aB) (u:=.ref aB) rfl hB rfl) (QA.pa (qc (pv 1) (qc zd qn))))))))
 .walk_at "ref"
 rintro _ O R ⟨n,m,rfl,_,h⟩;walk_at "wd";exact⟨_,dB,.inl h⟩
theorem Xw(F:Fun K "without_mark" "without_mark" (top 16) f fd)(T:Txt P w K mg C bw):FnOk P w K mg base CX0 1 f fd ["ink","mark"] (za K (sI2 (λ_ _=>True) λi m=>Builtin.bitAnd i (Builtin.bitNot ((xG [(0,64),(1,128),(2,256)] m).getD 0)))):=by
 obtain⟨aB,hB,dB⟩:=T.g_BITS_BY_MARK;apply F.okU Xn (by walk_at "ln") (λhr=>(zb (zB (zt k4 (pv 0) (KW zii (U9 (K:=K) rfl (jt (v:=.ref aB) (u:=.ref aB) rfl hB rfl) (QA.pa (qc (pv 1) (qc zd qn)))))))))
 .walk_at "ref"
 rintro _ O R ⟨n,m,rfl,_,h⟩;walk_at "wd";exact⟨_,dB,.inl h⟩
theorem Je(F:Fun K "with_fore" "with_fore" (top 13) f fd)(T:Txt P w K mg C bw)(zmq:Cal P w K mg base 1 "ink_of" [] (za K jA))(w9:Cal P w K mg base 1 "back_of" [] (za K (sI1 (λ_=>True) λi=>Builtin.bitAnd (i / 8) 7)))(wc:Cal P w K mg base 1 "marks_of" [] (za K (sI1 (λ_=>True) λi=>Builtin.bitAnd (i / 64) 7))) :
  FnOk P w K mg base CX0 2 f fd ["ink","hue"] (za K (sI2 (λi _=>Ink i) λi h=>h+8*Builtin.bitAnd (i / 8) 7+64*Builtin.bitAnd (i / 64) 7)):=by
 apply F.okU QT (by walk_at "ln") (λhr=>(zb (zB (zo zmq hr (qc (pv 1) (qc (zo w9 hr (qc (pv 0) qn)) (qc (zo wc hr (qc (pv 0) qn)) qn)))))))
 .walk_at "ref"
 rintro _ O R ⟨n,m,rfl,hi,h⟩;have a1:=zev hi;have a2:=VO hi;walk_at "wd";exact⟨by omega,by omega,by omega,by omega,.inl h⟩
theorem Jf(F:Fun K "with_back" "with_back" (top 14) f fd)(T:Txt P w K mg C bw)(zmq:Cal P w K mg base 1 "ink_of" [] (za K jA))(wa:Cal P w K mg base 1 "fore_of" [] (za K (sI1 (λ_=>True) λi=>Builtin.bitAnd i 7)))(wc:Cal P w K mg base 1 "marks_of" [] (za K (sI1 (λ_=>True) λi=>Builtin.bitAnd (i / 64) 7))) :
  FnOk P w K mg base CX0 2 f fd ["ink","hue"] (za K (sI2 (λi h=>Ink i/\0<=h/\h<=10) λi h=>Builtin.bitAnd i 7+8*h+64*Builtin.bitAnd (i / 64) 7)):=by
 apply F.okU QU (by walk_at "ln") (λhr=>(zb (zB (zo zmq hr (qc (zo wa hr (qc (pv 0) qn)) (qc (pv 1) (qc (zo wc hr (qc (pv 0) qn)) qn)))))))
 .walk_at "ref"
 rintro _ O R ⟨n,m,rfl,⟨hi,m1,m2⟩,h⟩;have a2:=VO hi;walk_at "wd";exact⟨by omega,by omega,by omega,by omega,.inl h⟩
theorem zhI(F:Fun K "dyed" "dyed" (top 71) f fd)(T:Txt P w K mg C bw)(aj:Cal P w K mg base 1 "with_mark" [] (za K (sI2 (λ_ _=>True) λi m=>Builtin.bitOr i ((xG [(0,64),(1,128),(2,256)] m).getD 0))))
  (ak:Cal P w K mg base 1 "without_mark" [] (za K (sI2 (λ_ _=>True) λi m=>Builtin.bitAnd i (Builtin.bitNot ((xG [(0,64),(1,128),(2,256)] m).getD 0)))))(am:Cal P w K mg base 1 "turned_marks" [] (za K (sI1 (λ_=>True) λi=>Builtin.bitXor i 448)))
  (ao:Cal P w K mg base 2 "with_fore" [] (za K (sI2 (λi _=>Ink i) λi h=>h+8*Builtin.bitAnd (i / 8) 7+64*Builtin.bitAnd (i / 64) 7)))(ap:Cal P w K mg base 2 "with_back" [] (za K (sI2 (λi h=>Ink i/\0<=h/\h<=10) λi h=>Builtin.bitAnd i 7+8*h+64*Builtin.bitAnd (i / 64) 7))) :
  FnOk P w K mg base CX0 3 f fd ["ink","number"] (za K zas):=by
 apply F.okU zhG (by walk_at "ln") (λhr=>(zc (zT (PW.pt (vh (zU u8 (pv 1) yG) (vc (zU z7 (pv 1) zd)))) (zb (zB zd)) zX) (zc (zT (xI yR yR zd (pv 1) zd) (zb (zB (zo aj hr (qc (pv 0) (qc (zt yO (pv 1) zd) qn))))) zX) (zc (zT (xI yR yR zd (pv 1) zd) (zb (zB (zo ak hr (qc (pv 0) (qc (zt yO (pv 1) zd) qn))))) zX) (zc (zT (zU z7 (pv 1) zd) (zb (zB (zo am hr (qc (pv 0) qn)))) zX) (zc (zT (xI yR yR zd (pv 1) zd) (zb (zB (zo ao hr (qc (pv 0) (qc (zt yO (pv 1) zd) qn))))) zX) (zc (zT (xI yR yR zd (pv 1) zd) (zb (zB (zo ap hr (qc (pv 0) (qc (zt yO (pv 1) zd) qn))))) zX) (zb (zB (pv 0))))))))))
 .walk_at "ref"
 rintro _ O R ⟨ink,n,rfl,hi,hn,h⟩;rcases hn.cs with rfl|⟨i,rfl,h0,h1⟩
 .walk_at "wd"
  exact .inl h
 .have key:∀v,dyeI ink (.int i)=v->Clo R (.d (.int v)) O:=λv e=>by rw[e]at h;exact .inl h
  walk_at "wd"
  repeat' split
  all_goals first
   |exact key _ (by simp only[dyeI];repeat' (first|rw[lg (by omega)]|rw[l8 (by omega)]))
   |exact⟨hi,key _ (by simp only[dyeI];repeat' (first|rw[lg (by omega)]|rw[l8 (by omega)]))⟩
   |exact⟨hi,by omega,by omega,key _ (by simp only[dyeI];repeat' (first|rw[lg (by omega)]|rw[l8 (by omega)]))⟩
theorem zfd(F:Fun K "edges" "edges" (top 31) f fd)(T:Txt P w K mg C bw):FnOk P w K mg base CX0 1 f fd ["state"] (za K (sEdges C)):=by
 have nd:=QX.nd;apply F.okU QX (by walk_at "ln") (λhr=>(zc (zY 1 nd (yH (zU zfv (fl K (pv 0)) (fl K (pv 0))) (fl K (pv 0)) zd)) (zc (zY 2 nd (yH (zU yR (fl K (pv 0)) (fl K (pv 0))) (fl K (pv 0)) (zt yO (fl K (pv 0)) zd))) (zc (zY 3 nd (yH (zU zfv (fl K (pv 0)) (fl K (pv 0))) (fl K (pv 0)) zd)) (zc (zY 4 nd (yH (zU yR (fl K (pv 0)) (fl K (pv 0))) (fl K (pv 0)) (zt yO (fl K (pv 0)) zd))) (zb (zB (yb (qc (pv 1) (qc (pv 2) (qc (pv 3) (qc (pv 4) qn))))))))))))
 .walk_at "ref"
 rintro _ O R ⟨x,dx,p,st,kp,S,rfl,hs,h⟩;have hx:=hs.x;refine ye (λρ' O'=>ρ'=[some (.own x),some (.d (.int (eT S))),none,none,none]/\O=O') (λR1 hR1=>?_) ?_
 .walk_at "wd"
  walk_at "!hx";split
  .rename_i e;exact hR1 _ _ ⟨by rw[eT,lg e],rfl⟩
  .rename_i e;exact hR1 _ _ ⟨by rw[eT,l8 e],rfl⟩
 rintro _ _ ⟨rfl,rfl⟩;refine ye (λρ' O'=>ρ'=[some (.own x),some (.d (.int (eT S))),some (.d (.int (eB S))),none,none]/\O=O') (λR1 hR1=>?_) ?_
 .walk_at "wd"
  walk_at "!hx";split
  .rename_i e;exact hR1 _ _ ⟨by rw[eB,lg e],rfl⟩
  .rename_i e;exact hR1 _ _ ⟨by rw[eB,l8 e],rfl⟩
 rintro _ _ ⟨rfl,rfl⟩;refine ye (λρ' O'=>ρ'=[some (.own x),some (.d (.int (eT S))),some (.d (.int (eB S))),some (.d (.int (eL S))),none]/\O=O') (λR1 hR1=>?_) ?_
 .walk_at "wd"
  walk_at "!hx";split
  .rename_i e;exact hR1 _ _ ⟨by rw[eL,lg e],rfl⟩
  .rename_i e;exact hR1 _ _ ⟨by rw[eL,l8 e],rfl⟩
 rintro _ _ ⟨rfl,rfl⟩;refine ye (λρ' O'=>ρ'=[some (.own x),some (.d (.int (eT S))),some (.d (.int (eB S))),some (.d (.int (eL S))),some (.d (.int (eR S)))]/\O=O') (λR1 hR1=>?_) ?_
 .walk_at "wd"
  walk_at "!hx";split
  .rename_i e;exact hR1 _ _ ⟨by rw[eR,lg e],rfl⟩
  .rename_i e;exact hR1 _ _ ⟨by rw[eR,l8 e],rfl⟩
 rintro _ _ ⟨rfl,rfl⟩;walk_at "wd";exact .inl h
theorem JR(F:Fun K "blank_of" "blank_of" (top 33) f fd)(T:Txt P w K mg C bw):FnOk P w K mg base CX0 1 f fd ["state"] (za K (sBlankOf C)):=by
 apply F.okU JK (by walk_at "ln") (λhr=>(zb (zB (yb (qc zS (qc (fl K (pv 0)) qn))))))
 .walk_at "ref"
 rintro _ O R ⟨x,dx,p,st,kp,S,rfl,hs,h⟩;have hx:=hs.x;walk_at "wd";walk_at "!hx yE";exact .inl h
theorem JS(F:Fun K "to_place" "to_place" (top 38) f fd)(T:Txt P w K mg C bw)(we:Cal P w K mg base 2 "counted" [] (za K Yy)):FnOk P w K mg base CX0 3 f fd ["state","row","column"] (za K (sPlace C)):=by
 apply F.okU JL (by walk_at "ln") (λhr=>(zc (zT (yV (fl K (pv 0))) (zc (fs K (pv 0) (zo we hr (qc (pv 1) (qc (fl K (pv 0)) (qc (fl K (pv 0)) qn))))) (zb (fs K (pv 0) (zo we hr (qc (pv 2) (qc (fl K (pv 0)) (qc (fl K (pv 0)) qn))))))) (zc (fs K (pv 0) (zo we hr (qc (pv 1) (qc zd (qc (zt yO (fl K (pv 0)) zd) qn))))) (zb (fs K (pv 0) (zo we hr (qc (pv 2) (qc zd (qc (zt yO (fl K (pv 0)) zd) qn)))))))) (zb (fs K (pv 0) yC))))
 .walk_at "ref"
 rintro _ O R ⟨r,c,hr,hc,x,dx,p,st,kp,S,rfl,hs,_,h⟩;have hx:=hs.x;simp only[plS]at h;walk_at "wd";walk_at "!hx hr hc zV";cases hh:S.home with
 |true=>
  simp[hh]at h ⊢;exact .inl (h _ (hs.fld rfl rfl rfl) But.ux)
 |false=>
  simp[hh]at h ⊢;exact .inl (h _ (hs.fld rfl rfl rfl) But.ux)
theorem zbg(F:Fun K "to_home" "to_home" (top 39) f fd)(T:Txt P w K mg C bw)(wf:Cal P w K mg base 3 "to_place" [] (za K (sPlace C))):FnOk P w K mg base CX0 4 f fd ["state"] (za K (sHome C)):=by
 apply F.okU za4 (by walk_at "ln") (λhr=>(zb (zQ (zo wf hr (qc (pv 0) (qc yG (qc yG qn)))))))
 .walk_at "ref"
 rintro _ O R ⟨x,dx,p,st,kp,S,rfl,hs,_,h⟩;walk_at "wd";exact⟨.none,.none,trivial,trivial,x,dx,p,st,kp,S,rfl,hs,trivial,λO' h1 h2=>.inl (h O' h1 h2)⟩
theorem JT(F:Fun K "set_rows" "set_rows" (top 69) f fd)(T:Txt P w K mg C bw)(wg:Cal P w K mg base 2 "span" [] (za K Ut))(uh:Cal P w K mg base 4 "to_home" [] (za K (sHome C))):FnOk P w K mg base CX0 5 f fd ["state","first","last"] (za K (sRows C)):=by
 have nd:=Yn.nd;apply F.okU Yn (by walk_at "ln") (λhr=>(zc (zY 3 nd (zo wg hr (qc (pv 1) (qc (pv 2) (qc (fl K (pv 0)) qn))))) (zb (zT (zU XH (pv 3) yG) (zc (fs K (pv 0) (z9 (yn (K:=K) rfl) (pv 3) zd)) (zc (fs K (pv 0) (z9 (yn (K:=K) rfl) (pv 3) zd)) (zb (zQ (zo uh hr (qc (pv 0) qn)))))) zX))))
 .walk_at "ref"
 rintro _ O R ⟨a,b,ha,hb,x,dx,p,st,kp,S,rfl,hs,_,h⟩;have hx:=hs.x;simp only[rowsS]at h;walk_at "wd";walk_at "!hx ha hb zV Us";by_cases e:xM b S.h<oneD a
 .rw[lg e]at h
  simp[e,ul];exact .inl (h _ hs But.refl)
 .rw[l8 e]at h
  walk_at "!e ul atI ixN yZ hx zV";refine⟨x,dx,p,st,kp,_,rfl,hs.fld (S':={ S with top:=oneD a-1,bottom:=xM b S.h-1 }) rfl rfl rfl,trivial,λO' h1 h2=>.inl (h O' h1 (But.ux.trans h2))⟩
theorem Vm(F:Fun K "set_columns" "set_columns" (top 70) f fd)(T:Txt P w K mg C bw)(wg:Cal P w K mg base 2 "span" [] (za K Ut))(uh:Cal P w K mg base 4 "to_home" [] (za K (sHome C))):FnOk P w K mg base CX0 5 f fd ["state","first","last"] (za K (sCols C)):=by
 have nd:=jI.nd;apply F.okU jI (by walk_at "ln") (λhr=>(zc (zY 3 nd (zo wg hr (qc (pv 1) (qc (pv 2) (qc (fl K (pv 0)) qn))))) (zb (zT (zU XH (pv 3) yG) (zc (fs K (pv 0) (z9 (yn (K:=K) rfl) (pv 3) zd)) (zc (fs K (pv 0) (z9 (yn (K:=K) rfl) (pv 3) zd)) (zb (zQ (zo uh hr (qc (pv 0) qn)))))) zX))))
 .walk_at "ref"
 rintro _ O R ⟨a,b,ha,hb,x,dx,p,st,kp,S,rfl,hs,_,h⟩;have hx:=hs.x;simp only[colsS]at h;walk_at "wd";walk_at "!hx ha hb zV Us";by_cases e:xM b S.w<oneD a
 .rw[lg e]at h
  simp[e,ul];exact .inl (h _ hs But.refl)
 .rw[l8 e]at h
  walk_at "!e ul atI ixN yZ hx zV";refine⟨x,dx,p,st,kp,_,rfl,hs.fld (S':={ S with left:=oneD a-1,right:=xM b S.w-1 }) rfl rfl rfl,trivial,λO' h1 h2=>.inl (h O' h1 (But.ux.trans h2))⟩
theorem Xx(F:Fun K "to_left_edge" "to_left_edge" (top 36) f fd)(T:Txt P w K mg C bw)(uc:Cal P w K mg base 1 "edges" [] (za K (sEdges C))):FnOk P w K mg base CX0 2 f fd ["state"] (za K (sLeft C)):=by
 apply F.okU Xr (by walk_at "ln") (λhr=>(zc (fs K (pv 0) (z9 (yn (K:=K) rfl) (zo uc hr (qc (pv 0) qn)) zd)) (zb (fs K (pv 0) yC))))
 .walk_at "ref"
 rintro _ O R ⟨x,dx,p,st,kp,S,rfl,hs,_,h⟩;have hx:=hs.x;walk_at "wd";refine⟨x,dx,p,st,kp,S,rfl,hs,?_⟩;walk_at "!hx zV atI ixN";exact .inl (h _ (hs.fld rfl rfl rfl) But.ux)
theorem zj4(F:Fun K "dye" "dye" (top 72) f fd)(T:Txt P w K mg C bw)(aq:Cal P w K mg base 3 "dyed" [] (za K zas)):FnOk P w K mg base CX0 4 f fd ["state","numbers"] (za K (sDye C)):=by
 have nd:=zda.nd;apply F.okU zda (by walk_at "ln") (λhr=>(zb (yW lZ rfl (vZ (K:=K) rfl (pv 1)) (zZ (i:=2) nd rfl (Or.inl rfl)) (zb (fs K (pv 0) (zo aq hr (qc (fl K (pv 0)) (qc (pv 2) qn))))))))
 .walk_at "ref"
 rintro _ O R ⟨ns,hns,x,dx,p,st,kp,S,rfl,hs,hi,h⟩;walk_at "wd";refine yM.by (λi ρ O'=>∃v,ρ=[some (.own x),some (.d (.tuple ns)),v]/\StAt O' C x dx p st kp (dyeS (ns.take i) S)/\Ink (dyeS (ns.take i) S).ink/\But O O' x p) ⟨_,rfl,hs,hi,But.refl⟩ (λ_ _ _ _=>trivial) ?_ ?_
 .rintro i wv _ O1 hw ⟨v,rfl,hs1,hi1,hb1⟩ R1 hR1
  rw[lw]at hw;cases hni:ns[i]? with
  |none=>rw[hni]at hw;cases hw
  |some n=>
   rw[hni]at hw;cases hw;have hx1:=hs1.x;have hn:=hns n (lK hni);walk_at "wd";walk_at "!hx1 hi1 hn zV";have et:ns.take (i+1)=ns.take i++[n]:=by
    rw[List.take_add_one,hni];rfl
   refine hR1 _ _ ⟨_,rfl,?_,?_,hb1.trans But.ux⟩
   .have:=hs1.fld (S':={ dyeS (ns.take i) S with ink:=dyeI (dyeS (ns.take i) S).ink n }) rfl rfl rfl
    rw[et];simpa[dyeS,List.foldl_append]using this
   .rw[et]
    simp only[dyeS,List.foldl_append,List.foldl_cons,List.foldl_nil];exact Qd hi1
 .rintro ρ O1 ⟨v,rfl,hs1,_,hb1⟩
  simp at hs1;exact .inl (h _ hs1 hb1)
theorem zdd(F:Fun K "copied" "copied" (top 25) f fd)(T:Txt P w K mg C bw):FnOk P w K mg base CX0 1 f fd ["picture"] (za K sCopied):=by
 apply F.okU Zx (by walk_at "ln") (λhr=>(zb (zB (vE (xf (N:=["row"]) (n:=1) (js:=[])) rfl (yP (K:=K) rfl (pv 0)) (λ_ _ _ _=>(zZ (i:=0) (show List.Nodup (["row"]:List Str)by decide +kernel) rfl (Or.inl rfl))) (λ_ _ _ _=>yy) (λ_ _ _ _=>(yQ (zab (K:=K) rfl) (by rfl) T.n_list rfl (QA.pa (qc (pv 0) qn))))))))
 .walk_at "ref"
 rintro _ O R ⟨p,h,w,g,rfl,hp,hh,q⟩;walk_at "wd";have e1:=ut hp;rw[qm]at e1;refine⟨_,e1,by simp;omega,λv=>match v with|.row _ i=>some (PyData.list ((List.range w).map λj=>celD (g i j)))|_=>none,?_,.inl ?_⟩
 .intro a ha us hus
  obtain⟨i,hi,rfl⟩:=lJ.mp ha;have hi:i<h:=by simpa using hi
  match us,hus with
  |[u],_=>
   have e2:=Qb hp hi;have e3:yE ((List.range w).map λj=>W.d (celD (g i j)))=some ((List.range w).map λj=>celD (g i j)):=by
    have:=ym ((List.range w).map λj=>celD (g i j));rw[lM]at this;exact this
   simp[vn,yZ,e2,e3]
 .have e4:List.filterMap (λv=>match v with|W.row _ i=>some (PyData.list ((List.range w).map λj=>celD (g i j)))|_=>none) ((List.range h).map (W.row p))=(genG h w g).map .list:=by
   unfold genG;rw[List.filterMap_map,lM];exact congrFun (List.filterMap_eq_map (f:=λi=>PyData.list ((List.range w).map λj=>celD (g i j)))) (List.range h)
  rw[e4];exact q
theorem Jg(F:Fun K "roll_rows" "roll_rows" (top 61) f fd)(T:Txt P w K mg C bw)(wb:Cal P w K mg base 1 "copied" [] (za K sCopied))(vf:Cal P w K mg base 1 "blank_of" [] (za K (sBlankOf C))):FnOk P w K mg base CX0 2 f fd ["state","first","step"] (za K (sRoll C)):=by
 have nd:=ZD.nd;apply F.okU ZD (by walk_at "ln") (λhr=>(zc (zY 3 nd (zo wb hr (qc (fl K (pv 0)) qn))) (zb (yW lZ rfl (qJ rfl T.n_range (QA.pa (qc (pv 1) (qc (zt yc (fl K (pv 0)) zd) qn)))) (zZ (i:=4) nd rfl (Or.inl rfl)) (zc (zY 5 nd (zt yc (pv 4) (pv 2))) (zc (zY 6 nd (vS yR yR (pv 1) (pv 5) (fl K (pv 0)))) (zb (yW lZ rfl (qJ rfl T.n_range (QA.pa (qc (fl K (pv 0)) (qc (zt yc (fl K (pv 0)) zd) qn)))) (zZ (i:=7) nd rfl (Or.inl rfl)) (zb (u7 (yH (yV (pv 6)) (z9 (yY (K:=K) rfl) (z9 (yY (K:=K) rfl) (pv 3) (pv 5)) (pv 7)) (zo vf hr (qc (pv 0) qn))) (kY (z9 (yY (K:=K) rfl) (fl K (pv 0)) (pv 4)) (pv 7) qd)))))))))))
 .walk_at "ref"
 rintro _ O R ⟨a,s,s1,s2,x,dx,p,st,kp,S,rfl,hs,⟨hB,a0,a1⟩,h⟩;have hx:=hs.x;have:=hB.h2;have:=hB.w2;refine y6 [some (.own x),some (.d (.int a)),some (.d (.int s)),some (.d (.list ((genG S.h S.w S.pic).map .list))),none,none,none,none] (λR1 hR1=>?_) ?_
 .walk_at "wd"
  walk_at "!hx";exact⟨p,S.h,S.w,S.pic,rfl,hs.p,hB.h2,hR1⟩
 have:=hB.b1;have:=hB.l0;have:=hB.lr;have:=hB.rr;walk_at "wd";walk_at "!hx";refine⟨by omega,by omega,by omega,by omega,?_⟩
 generalize hN:mvP S.pic S.ink a S.bottom S.left S.right s 0 =N
 refine yM.rng (λi ρ O'=>∃v4 v5 v6 v7,ρ=[some (.own x),some (.d (.int a)),some (.d (.int s)),some (.d (.list ((genG S.h S.w S.pic).map .list))),v4,v5,v6,v7]/\But O O' x p/\StAt O' C x dx p st kp { S with pic:=goP N S.pic a S.left i 0 }) ⟨_,_,_,_,rfl,But.refl,?_⟩ ?_ ?_
 .rw[Qf (λa' b' hab=>by rw[<-hN];exact vA (by omega))]
  exact hs
 .rintro i _ O1 hi ⟨v4,v5,v6,v7,rfl,hb1,hs1⟩ R1 hR1
  have hx1:=hs1.x;refine y6 [some (.own x),some (.d (.int a)),some (.d (.int s)),some (.d (.list ((genG S.h S.w S.pic).map .list))),some (.d (.int (a+i))),some (.d (.int (a+i+s))),v6,v7] (λR2 hR2=>?_) ?_
  .walk_at "wd"
   exact hR2
  refine ye (λρ' O'=>ρ'=[some (.own x),some (.d (.int a)),some (.d (.int s)),some (.d (.list ((genG S.h S.w S.pic).map .list))),some (.d (.int (a+i))),some (.d (.int (a+i+s))),some (.d (.bool (decide (a<=a+i+s/\a+i+s<=S.bottom)))),v7]/\O1=O') (λR2 hR2=>?_) ?_
  .walk_at "wd"
   walk_at "!hx1";split
   .rename_i e;exact hR2 _ _ ⟨by simp[e],rfl⟩
   .rename_i e;exact hR2 _ _ ⟨by simp[e],rfl⟩
  rintro _ _ ⟨rfl,rfl⟩
  generalize hin:decide (a<=a+i+s/\a+i+s<=S.bottom)=ins
  walk_at "wd";walk_at "!hx1";refine⟨by omega,by omega,by omega,by omega,?_⟩;refine yM.rng (λj ρ O'=>∃v7,ρ=[some (.own x),some (.d (.int a)),some (.d (.int s)),some (.d (.list ((genG S.h S.w S.pic).map .list))),some (.d (.int (a+i))),some (.d (.int (a+i+s))),some (.d (.bool ins)),v7]/\But O O' x p/\StAt O' C x dx p st kp { S with pic:=goP N S.pic a S.left i j }) ⟨_,rfl,hb1,hs1⟩ ?_ ?_
  .rintro j _ O2 hj ⟨v7,rfl,hb2,hs2⟩ R2 hR2
   have hx2:=hs2.x;have e1:=ut hs2.p;rw[qm]at e1;have e2:atI ((List.range S.h).map (W.row p)) (a+(i:Int))=some (W.row p (a+(i:Int)).toNat):=vz (by omega) (by omega);have e3:∀c,N (a+(i:Int)).toNat (S.left+(j:Int)).toNat=c->j4 O2 (.row p (a+(i:Int)).toNat) (S.left+j) (.d (celD c))=some (updO O2 p (.grid (genG S.h S.w (goP N S.pic a S.left i (j+1))))):=by
    rintro _ rfl;rw[j7 hs2.p (by simp only;omega) (by omega) (by simp only;omega),Qg (by omega) (by omega)]
   have nx:∀v,R2 [some (.own x),some (.d (.int a)),some (.d (.int s)),some (.d (.list ((genG S.h S.w S.pic).map .list))),some (.d (.int (a+i))),some (.d (.int (a+i+s))),some (.d (.bool ins)),v] (updO O2 p (.grid (genG S.h S.w (goP N S.pic a S.left i (j+1))))):=λv=>
    hR2 _ _ ⟨v,rfl,hb2.trans But.up,hs2.pic (f:=goP N S.pic a S.left i (j+1))⟩
   cases ins with
   |true=>
    have hin:=mf hin;have eN:N (a+(i:Int)).toNat (S.left+(j:Int)).toNat=S.pic (a+i+s).toNat (S.left+(j:Int)).toNat:=by
     rw[<-hN];unfold mvP;rw[lg (by omega),lg (by omega)];unfold atF
     congr 1<;>first|omega|(congr 1;omega)
    walk_at "wd";simp[hx2,e1,e2,e3 _ eN,zcn,zew (show 0<=a+i+s by omega) (show a+i+s<S.h by omega),Qe (show 0<=S.left+j by omega) (show S.left+j<S.w by omega),-List.map_map,and_assoc,zF,T.st.cl,T.st.n_picture,T.st.n_wide,T.st.n_high,T.st.n_row,T.st.n_column,T.st.n_late,T.st.n_ink,T.st.n_wrap,T.st.n_putting,T.st.n_home,T.st.n_top,T.st.n_bottom,T.st.n_left,T.st.n_right,T.st.n_stops,T.st.n_kept,T.st.n_last,zg,zG,zH,zL,zj,zv,zK,zw,zh,zx,zO,zm,zC,zq,zp,zy,zI,zM,zk,zz,zN,zA,zi,zD,zP,zn,zE,zr,zJ];exact nx _
   |false=>
    have hin:=of_decide_eq_false hin;have eN:N (a+(i:Int)).toNat (S.left+(j:Int)).toNat=blank S.ink:=by
     rw[<-hN];unfold mvP;rw[lg (by omega),l8 (by omega)]
    walk_at "wd";refine⟨x,dx,p,st,kp,_,rfl,hs2,?_⟩;simp[hx2,e1,e2,e3 _ eN,and_assoc,zF,T.st.cl,T.st.n_picture,T.st.n_wide,T.st.n_high,T.st.n_row,T.st.n_column,T.st.n_late,T.st.n_ink,T.st.n_wrap,T.st.n_putting,T.st.n_home,T.st.n_top,T.st.n_bottom,T.st.n_left,T.st.n_right,T.st.n_stops,T.st.n_kept,T.st.n_last,zg,zG,zH,zL,zj,zv,zK,zw,zh,zx,zO,zm,zC,zq,zp,zy,zI,zM,zk,zz,zN,zA,zi,zD,zP,zn,zE,zr,zJ];exact nx _
  .rintro ρ O2 ⟨v7,rfl,hb2,hs2⟩
   refine hR1 _ _ ⟨_,_,_,_,rfl,hb2,?_⟩;rw[Kk (λa' b' h1 h2=>by rw[<-hN];exact vA (by omega)) (λa' b' h1 h2=>by rw[<-hN];exact vA (by omega))]at hs2;exact hs2
 .rintro ρ O1 ⟨v4,v5,v6,v7,rfl,hb1,hs1⟩
  rw[Kl (λa' b' h1=>by rw[<-hN];exact vA (by omega)),<-hN]at hs1;exact .inl (h _ hs1 hb1)
theorem zbh(F:Fun K "roll_up" "roll_up" (top 62) f fd)(T:Txt P w K mg C bw)(wj:Cal P w K mg base 2 "roll_rows" [] (za K (sRoll C))):FnOk P w K mg base CX0 3 f fd ["state","first","times"] (za K (sRoll C)):=by
 apply F.okU za5 (by walk_at "ln") (λhr=>(zb (zQ (zo wj hr (qc (pv 0) (qc (pv 1) (qc (pv 2) qn)))))))
 .walk_at "ref"
 rintro _ O R ⟨a,s,s1,s2,x,dx,p,st,kp,S,rfl,hs,hp,h⟩;walk_at "wd";exact⟨a,s,s1,s2,x,dx,p,st,kp,S,rfl,hs,hp,λO' h1 h2=>.inl (h O' h1 h2)⟩
theorem Ub(F:Fun K "move_cells" "move_cells" (top 46) f fd)(T:Txt P w K mg C bw)(uc:Cal P w K mg base 1 "edges" [] (za K (sEdges C)))(vf:Cal P w K mg base 1 "blank_of" [] (za K (sBlankOf C))):FnOk P w K mg base CX0 2 f fd ["state","step"] (za K (sMvC C)):=by
 have nd:=kJ.nd;apply F.okU kJ (by walk_at "ln") (λhr=>(zc (zY 2 nd (z9 (yn (K:=K) rfl) (zo uc hr (qc (pv 0) qn)) zd)) (zc (zY 3 nd (z9 (yY (K:=K) rfl) (fl K (pv 0)) (fl K (pv 0)))) (zc (zY 4 nd (yQ (zab (K:=K) rfl) (by rfl) T.n_list rfl (QA.pa (qc (pv 3) qn)))) (zc (yW lZ rfl (qJ rfl T.n_range (QA.pa (qc (fl K (pv 0)) (qc (zt yc (pv 2) zd) qn)))) (zZ (i:=5) nd rfl (Or.inl rfl)) (zc (zY 6 nd (zt yc (pv 5) (pv 1))) (zc (zY 7 nd (vS yR yR (fl K (pv 0)) (pv 6) (pv 2))) (zb (u7 (yH (yV (pv 7)) (z9 (yY (K:=K) rfl) (pv 4) (pv 6)) (zo vf hr (qc (pv 0) qn))) (kY (pv 3) (pv 5) qd)))))) (zb (fs K (pv 0) yC)))))))
 .walk_at "ref"
 rintro _ O R ⟨s,s1,s2,x,dx,p,st,kp,S,rfl,hs,hB,h⟩;have hx:=hs.x;have:=hB.h2;have:=hB.w2;have:=hB.r0;have:=hB.r1;have:=hB.c0;have eR1:=qN hB;have e0:=ut hs.p;rw[qm]at e0;have e0b:atI ((List.range S.h).map (W.row p)) S.row=some (W.row p S.row.toNat):=vz hB.r0 hB.r1;have e0c:=Qb hs.p (i:=S.row.toNat) (by omega);have e0d:yE ((List.range S.w).map λj=>W.d (celD (S.pic S.row.toNat j)))=some ((List.range S.w).map λj=>celD (S.pic S.row.toNat j)):=by
  have:=ym ((List.range S.w).map λj=>celD (S.pic S.row.toNat j));rw[lM]at this;exact this
 refine zkx (λρ' O'=>ρ'=[some (.own x),some (.d (.int s)),some (.d (.int (eR S))),some (.row p S.row.toNat),some (.d (.list ((List.range S.w).map λj=>celD (S.pic S.row.toNat j)))),none,none,none]/\O=O') (λR1 hR1=>?_) ?_
 .walk_at "wd"
  refine⟨x,dx,p,st,kp,S,rfl,hs,?_⟩;walk_at "!hx e0 e0b e0c e0d vn yZ zjf";exact hR1 _ _ ⟨rfl,rfl⟩
 rintro _ _ ⟨rfl,rfl⟩
 generalize hN:mvP S.pic S.ink S.row S.row S.col (eR S) 0 s=N
 refine ye (λρ' O'=>∃v5 v6 v7,ρ'=[some (.own x),some (.d (.int s)),some (.d (.int (eR S))),some (.row p S.row.toNat),some (.d (.list ((List.range S.w).map λj=>celD (S.pic S.row.toNat j)))),v5,v6,v7]/\But O O' x p/\StAt O' C x dx p st kp { S with pic:=N }) (λR1 hR1=>?_) ?_
 .walk_at "wd"
  walk_at "!hx";refine⟨by omega,by omega,by omega,by omega,?_⟩;refine yM.rng (λj ρ O'=>∃v5 v6 v7,ρ=[some (.own x),some (.d (.int s)),some (.d (.int (eR S))),some (.row p S.row.toNat),some (.d (.list ((List.range S.w).map λj=>celD (S.pic S.row.toNat j)))),v5,v6,v7]/\But O O' x p/\StAt O' C x dx p st kp { S with pic:=goP N S.pic S.row S.col 0 j }) ⟨_,_,_,rfl,But.refl,?_⟩ ?_ ?_
  .rw[Qf (λa' b' hab=>by rw[<-hN];exact vA (by omega))]
   exact hs
  .rintro j _ O1 hj ⟨v5,v6,v7,rfl,hb1,hs1⟩ R2 hR2
   have hx1:=hs1.x;refine y6 [some (.own x),some (.d (.int s)),some (.d (.int (eR S))),some (.row p S.row.toNat),some (.d (.list ((List.range S.w).map λj=>celD (S.pic S.row.toNat j)))),some (.d (.int (S.col+j))),some (.d (.int (S.col+j+s))),v7] (λR3 hR3=>?_) ?_
   .walk_at "wd"
    exact hR3
   refine ye (λρ' O'=>ρ'=[some (.own x),some (.d (.int s)),some (.d (.int (eR S))),some (.row p S.row.toNat),some (.d (.list ((List.range S.w).map λj=>celD (S.pic S.row.toNat j)))),some (.d (.int (S.col+j))),some (.d (.int (S.col+j+s))),some (.d (.bool (decide (S.col<=S.col+j+s/\S.col+j+s<=eR S))))]/\O1=O') (λR3 hR3=>?_) ?_
   .walk_at "wd"
    walk_at "!hx1";split
    .rename_i e;exact hR3 _ _ ⟨by simp[e],rfl⟩
    .rename_i e;exact hR3 _ _ ⟨by simp[e],rfl⟩
   rintro _ _ ⟨rfl,rfl⟩
   generalize hin:decide (S.col<=S.col+j+s/\S.col+j+s<=eR S)=ins
   have e3:∀c,N S.row.toNat (S.col+(j:Int)).toNat=c->j4 O1 (.row p S.row.toNat) (S.col+j) (.d (celD c))=some (updO O1 p (.grid (genG S.h S.w (goP N S.pic S.row S.col 0 (j+1))))):=by
    rintro _ rfl;rw[j7 hs1.p (by simp only;omega) (by omega) (by simp only;omega),Qg (by omega) (by omega)]
   have nx:∀v5 v6 v7,R2 [some (.own x),some (.d (.int s)),some (.d (.int (eR S))),some (.row p S.row.toNat),some (.d (.list ((List.range S.w).map λj=>celD (S.pic S.row.toNat j)))),v5,v6,v7] (updO O1 p (.grid (genG S.h S.w (goP N S.pic S.row S.col 0 (j+1))))):=λv5 v6 v7=>
    hR2 _ _ ⟨v5,v6,v7,rfl,hb1.trans But.up,hs1.pic (f:=goP N S.pic S.row S.col 0 (j+1))⟩
   cases ins with
   |true=>
    have hin:=mf hin;have eN:N S.row.toNat (S.col+(j:Int)).toNat=S.pic S.row.toNat (S.col+j+s).toNat:=by
     rw[<-hN];unfold mvP;rw[lg (by omega),lg (by omega)];unfold atF
     congr 1<;>first|omega|(congr 1;omega)
    walk_at "wd";simp[hx1,e3 _ eN,zcn,Qe (show 0<=S.col+j+s by omega) (show S.col+j+s<S.w by omega),-List.map_map,and_assoc,zF,T.st.cl,T.st.n_picture,T.st.n_wide,T.st.n_high,T.st.n_row,T.st.n_column,T.st.n_late,T.st.n_ink,T.st.n_wrap,T.st.n_putting,T.st.n_home,T.st.n_top,T.st.n_bottom,T.st.n_left,T.st.n_right,T.st.n_stops,T.st.n_kept,T.st.n_last,zg,zG,zH,zL,zj,zv,zK,zw,zh,zx,zO,zm,zC,zq,zp,zy,zI,zM,zk,zz,zN,zA,zi,zD,zP,zn,zE,zr,zJ];exact nx _ _ _
   |false=>
    have hin:=of_decide_eq_false hin;have eN:N S.row.toNat (S.col+(j:Int)).toNat=blank S.ink:=by
     rw[<-hN];unfold mvP;rw[lg (by omega),l8 (by omega)]
    walk_at "wd";refine⟨x,dx,p,st,kp,_,rfl,hs1,?_⟩;simp[hx1,e3 _ eN,and_assoc,zF,T.st.cl,T.st.n_picture,T.st.n_wide,T.st.n_high,T.st.n_row,T.st.n_column,T.st.n_late,T.st.n_ink,T.st.n_wrap,T.st.n_putting,T.st.n_home,T.st.n_top,T.st.n_bottom,T.st.n_left,T.st.n_right,T.st.n_stops,T.st.n_kept,T.st.n_last,zg,zG,zH,zL,zj,zv,zK,zw,zh,zx,zO,zm,zC,zq,zp,zy,zI,zM,zk,zz,zN,zA,zi,zD,zP,zn,zE,zr,zJ];exact nx _ _ _
  .rintro ρ O2 ⟨v5,v6,v7,rfl,hb2,hs2⟩
   rw[Kk (λa' b' h1 h2=>by rw[<-hN];exact vA (by omega)) (λa' b' h1 h2=>by rw[<-hN];exact vA (by omega)),Kl (λa' b' h1=>by rw[<-hN];exact vA (by omega))]at hs2;exact hR1 _ _ ⟨_,_,_,rfl,hb2,hs2⟩
 rintro _ O1 ⟨v5,v6,v7,rfl,hb1,hs1⟩;have hx1:=hs1.x;walk_at "wd";walk_at "!hx1 zV";refine .inl (h _ ?_ (hb1.trans But.ux));have:=hs1.fld (S':={ S with pic:=N,late:=false }) rfl rfl rfl;rw[<-hN]at this ⊢;exact this
theorem Jh(F:Fun K "put_cells" "put_cells" (top 47) f fd)(T:Txt P w K mg C bw)(ub:Cal P w K mg base 1 "at_least_one" [] (za K vG))(wk:Cal P w K mg base 2 "move_cells" [] (za K (sMvC C))):FnOk P w K mg base CX0 3 f fd ["state","many"] (za K (sPutC C)):=by
 apply F.okU QZ (by walk_at "ln") (λhr=>(zb (zQ (zo wk hr (qc (pv 0) (qc (KW zbA (zo ub hr (qc (pv 1) qn))) qn))))))
 .walk_at "ref"
 rintro _ O R ⟨n,hn,x,dx,p,st,kp,S,rfl,hs,hB,h⟩;have o1:=@xa n;have o2:=xU hn;walk_at "wd";exact⟨hn,_,by omega,by omega,x,dx,p,st,kp,S,rfl,hs,hB,λO' h1 h2=>.inl (h O' h1 h2)⟩
theorem JU(F:Fun K "line_end" "line_end" (top 75) f fd)(T:Txt P w K mg C bw)(wm:Cal P w K mg base 2 "to_left_edge" [] (za K (sLeft C)))(w8:Cal P w K mg base 3 "roll_up" [] (za K (sRoll C))):FnOk P w K mg base CX0 4 f fd ["state"] (za K (sLineE C)):=by
 apply F.okU JN (by walk_at "ln") (λhr=>(zc (zQ (zo wm hr (qc (pv 0) qn))) (zb (zT (zU z7 (fl K (pv 0)) (fl K (pv 0))) (zb (zQ (zo w8 hr (qc (pv 0) (qc (fl K (pv 0)) (qc zd qn)))))) (zb (zT (zU uS (fl K (pv 0)) (zt yO (fl K (pv 0)) zd)) (zb (fs K (pv 0) (zt yc (fl K (pv 0)) zd))) zX))))))
 .walk_at "ref"
 rintro _ O R ⟨x,dx,p,st,kp,S,rfl,hs,hB,h⟩;have hB1:=hB.left;have:=hB1.tb;walk_at "wd";refine⟨x,dx,p,st,kp,S,rfl,hs,trivial,λO1 hs1 hb1=>?_⟩;have hx1:=hs1.x;simp only[lineE]at h;walk_at "!hx1 zV";split
 .rename_i e
  rw[lg e]at h;exact⟨_,1,by decide,by decide,x,dx,p,st,kp,_,rfl,hs1,⟨hB1,hB1.t0,by omega⟩,λO' h1 h2=>.inl (h O' h1 (hb1.trans h2))⟩
 .rename_i e
  rw[l8 e]at h;split
  .rename_i e2
   rw[lg e2]at h;exact .inl (h _ (hs1.fld rfl rfl rfl) (hb1.trans But.ux))
  .rename_i e2
   rw[l8 e2]at h;exact .inl (h _ hs1 hb1)
theorem JV(F:Fun K "put_sign" "put_sign" (top 76) f fd)(T:Txt P w K mg C bw)(wn:Cal P w K mg base 4 "line_end" [] (za K (sLineE C)))(wo:Cal P w K mg base 3 "put_cells" [] (za K (sPutC C)))(uc:Cal P w K mg base 1 "edges" [] (za K (sEdges C))):FnOk P w K mg base CX0 5 f fd ["state","sign"] (za K (sPutSign C)):=by
 apply F.okU JO (by walk_at "ln") (λhr=>(zc (zT (PW.pt (YT (yV (fl K (pv 0))) (ZV (yV (fl K (pv 0)))))) (zb (zQ (zo wn hr (qc (pv 0) qn)))) zX) (zc (fs K (pv 0) yC) (zc (zT (yV (fl K (pv 0))) (zb (zQ (zo wo hr (qc (pv 0) (qc zd qn))))) zX) (zc (u7 (yb (qc (pv 1) (qc (fl K (pv 0)) qn))) (kY (z9 (yY (K:=K) rfl) (fl K (pv 0)) (fl K (pv 0))) (fl K (pv 0)) qd)) (zc (fs K (pv 0) (pv 1)) (zb (zT (zU uS (fl K (pv 0)) (z9 (yn (K:=K) rfl) (zo uc hr (qc (pv 0) qn)) zd)) (zb (fs K (pv 0) (zt yc (fl K (pv 0)) zd))) (zb (fs K (pv 0) (fl K (pv 0))))))))))))
 .walk_at "ref"
 rintro _ O R ⟨c,x,dx,p,st,kp,S,rfl,hs,hB,h⟩;have hx:=hs.x;rw[vq]at h;refine ye (λρ' O'=>ρ'=[some (.own x),some (.d (.str c))]/\But O O' x p/\StAt O' C x dx p st kp (pA S)) (λR1 hR1=>?_) ?_
 .walk_at "wd"
  walk_at "!hx zV";by_cases e:S.late=true/\S.wrap=true
  .rw[pA,lg e]at hR1
   simp[e.1,e.2];exact⟨x,dx,p,st,kp,S,rfl,hs,hB,λO' h1 h2=>hR1 _ _ ⟨rfl,h2,h1⟩⟩
  .rw[pA,l8 e]at hR1
   have:=hR1 _ _ ⟨rfl,But.refl,hs⟩;cases hl:S.late<;>cases hw:S.wrap<;>simp[hl,hw]at e ⊢<;>exact this
 rintro _ O1 ⟨rfl,hb1,hs1⟩;have hB1:Bds (pA S):=hB.pA;refine ye (λρ' O'=>ρ'=[some (.own x),some (.d (.str c))]/\But O O' x p/\StAt O' C x dx p st kp (pB (pA S))) (λR1 hR1=>?_) ?_
 .have hx1:=hs1.x
  walk_at "wd";walk_at "!hx1 zV";exact hR1 _ _ ⟨rfl,hb1.trans But.ux,hs1.fld (S':=pB (pA S)) rfl rfl rfl⟩
 rintro _ O2 ⟨rfl,hb2,hs2⟩;have hB2:=hB1.pB
 generalize pB (pA S)=S2 at *
 refine ye (λρ' O'=>ρ'=[some (.own x),some (.d (.str c))]/\But O O' x p/\StAt O' C x dx p st kp (pC S2)) (λR1 hR1=>?_) ?_
 .have hx2:=hs2.x
  walk_at "wd";walk_at "!hx2 zV";cases hl:S2.putting
  .rw[pC,hl]at hR1
   simp;exact hR1 _ _ ⟨rfl,hb2,hs2⟩
  .rw[pC,hl,lg rfl]at hR1
   simp;exact⟨.int 1,⟨by decide,by decide⟩,x,dx,p,st,kp,S2,rfl,hs2,hB2,λO' h1 h2=>hR1 _ _ ⟨rfl,hb2.trans h2,h1⟩⟩
 rintro _ O3 ⟨rfl,hb3,hs3⟩;have hB3:=hB2.pC
 generalize pC S2=S3 at *
 refine ye (λρ' O'=>ρ'=[some (.own x),some (.d (.str c))]/\But O O' x p/\StAt O' C x dx p st kp (pD c S3)) (λR1 hR1=>?_) ?_
 .have hx3:=hs3.x
  have:=hB3.r0;have:=hB3.r1;have e1:=ut hs3.p;rw[qm]at e1;have e2:atI ((List.range S3.h).map (W.row p)) S3.row=some (W.row p S3.row.toNat):=vz hB3.r0 hB3.r1;have e3:j4 O3 (.row p S3.row.toNat) S3.col (.d (.tuple [.str c,.int S3.ink]))=_:=j7 (c:=(c,S3.ink)) hs3.p (by omega) hB3.c0 hB3.c1;walk_at "wd";walk_at "!hx3 e1 e2 e3 yE";exact hR1 _ _ ⟨rfl,hb3.trans But.up,hs3.pic⟩
 rintro _ O4 ⟨rfl,hb4,hs4⟩;have hB4:Bds (pD c S3):=hB3.pD
 generalize pD c S3=S4 at *
 have hx4:=hs4.x;refine ye (λρ' O'=>ρ'=[some (.own x),some (.d (.str c))]/\But O O' x p/\StAt O' C x dx p st kp (pE c S4)) (λR1 hR1=>?_) ?_
 .walk_at "wd"
  walk_at "!hx4 zV";exact hR1 _ _ ⟨rfl,hb4.trans But.ux,hs4.fld (S':=pE c S4) rfl rfl rfl⟩
 rintro _ O5 ⟨rfl,hb5,hs5⟩
 generalize pE c S4=S5 at *
 have hx5:=hs5.x;simp only[pF]at h;walk_at "wd";walk_at "!hx5 zV";refine⟨x,dx,p,st,kp,S5,rfl,hs5,?_⟩;walk_at "!hx5 zjf zV";split
 .rename_i e
  rw[lg e]at h;exact .inl (h _ (hs5.fld rfl rfl rfl) (hb5.trans But.ux))
 .rename_i e
  rw[l8 e]at h;exact .inl (h _ (hs5.fld rfl rfl rfl) (hb5.trans But.ux))
end
def Ji(C:Addr):SpW:=λws O R=>∃m x dx p st kp S,ws=[.own x,.d m]/\NumD m/\StAt O C x dx p st kp S/\Bds S/\LsOk S/\∀S' O',(S.last=.none->S'=S)->(∀c,S.last=.str c->S'=itS c (oneD m).toNat S)->StAt O' C x dx p st kp S'->But O O' x p->R (.d .none) O'
section
variable {bw:Addr}
theorem zfe(F:Fun K "again" "again" (top 77) f fd)(T:Txt P w K mg C bw)(ub:Cal P w K mg base 1 "at_least_one" [] (za K vG))(wq:Cal P w K mg base 5 "put_sign" [] (za K (sPutSign C))):FnOk P w K mg base CX0 6 f fd ["state","many"] (za K (Ji C)):=by
 have nd:=Jb.nd;apply F.okU Jb (by walk_at "ln") (λhr=>(zb (zT (zU XH (fl K (pv 0)) yG) (zb (yW lZ rfl (xw rfl T.n_range (QA.pa (qc (zo ub hr (qc (pv 1) qn)) qn))) (zZ (i:=2) nd rfl (Or.inl rfl)) (zb (zQ (zo wq hr (qc (pv 0) (qc (fl K (pv 0)) qn))))))) zX)))
 .walk_at "ref"
 rintro _ O R ⟨m,x,dx,p,st,kp,S,rfl,hm,hs,hB,hL,h⟩;have hx:=hs.x;walk_at "wd";rcases hL with e|⟨c,e,hc⟩
 .walk_at "!hx e zV"
  exact .inl (h S O (λ_=>rfl) (λc' e'=>by rw[e]at e';cases e') hs But.refl)
 .have m1:=xa (n:=m)
  have m2:=xU hm;walk_at "!hx e zV";refine⟨hm,by omega,by omega,?_⟩;refine yM.rng (f:=λi=>(i:Int)) (λi ρ O'=>∃v2,ρ=[some (.own x),some (.d m),v2]/\StAt O' C x dx p st kp (itS c i S)/\But O O' x p) ⟨_,rfl,hs,But.refl⟩ ?_ ?_
  .rintro i _ O2 hi ⟨v2,rfl,hs2,b2⟩ R1 hR1
   have hx2:=hs2.x;have e2:=ze3 e i;walk_at "wd";walk_at "!hx2 e2 zV";exact⟨c,x,dx,p,st,kp,_,rfl,hs2,QH hB i,λO' k1 k2=>hR1 _ _ ⟨_,rfl,k1,b2.trans k2⟩⟩
  .rintro _ O2 ⟨v2,rfl,hs2,b2⟩
   exact .inl (h _ O2 (λe'=>by rw[e]at e';cases e') (λc' e'=>by rw[e]at e';cases e';rfl) hs2 b2)
end
theorem zkZ{a b c:Prop}[Decidable a][Decidable b][Decidable c]{p q r s:Prop}(h1:a->p)(h2:¬a->b->q)(h3:¬a->¬b->c->r)(h4:¬a->¬b->¬c->s):if a then p else if b then q else if c then r else s:=by
 split
 .exact h1 ‹_›
 .split
  .exact h2 ‹_› ‹_›
  .split
   .exact h3 ‹_› ‹_› ‹_›
   .exact h4 ‹_› ‹_› ‹_›
theorem zgh:∀{ns:List PyData},(∀n∈ns,NumD n)->inV (V.int 3) (ns.map vOf)=ns.any is3
 |[],_=>rfl
 |n::ns,h=>by
  have q:=h n (li ..);have ih:=zgh (ns:=ns) λm hm=>h m (lj _ hm);cases n with
  |none=>simpa[inV,eqV,is3,vOf]using ih
  |int k=>
   simp only[mF,is3,<-ih];rfl
  |_=>exact q.elim
section
variable {bw:Addr}
seal PE PS PSs PT PA in
theorem Uc(F:Fun K "turn_modes" "turn_modes" (top 73) f fd)(T:Txt P w K mg C bw)(uh:Cal P w K mg base 4 "to_home" [] (za K (sHome C))):FnOk P w K mg base CX0 5 f fd ["state","numbers","on"] (za K (sModesN C)):=by
 have nd:=kM.nd;apply F.okU kM (by walk_at "ln") (λhr=>(zc (zY 3 nd (Xi ziy (pv 2) yC)) (zc (yW lZ rfl (vZ (K:=K) rfl (pv 1)) (zZ (i:=4) nd rfl (Or.inl rfl)) (zb (zT (zU z7 (pv 4) zd) (zb (fs K (pv 0) (pv 3))) (zb (zT (zU z7 (pv 4) zd) (zb (fs K (pv 0) (pv 3))) (zb (zT (zU z7 (pv 4) zd) (zb (fs K (pv 0) (pv 3))) zX))))))) (zb (zT (vR (zar (K:=K) rfl) zd (pv 1) (by with_unfolding_all rfl)) (zb (zQ (zo uh hr (qc (pv 0) qn)))) zX)))))
 .walk_at "ref"
 rintro _ O R ⟨ns,on,hn,x,dx,p,st,kp,S,rfl,hs,_,h⟩;refine y6 [some (.own x),some (.d (.tuple ns)),some (.d (.bool on)),some (.d (.bool on)),none] (λR1 hR1=>?_) ?_
 .walk_at "wd"
  exact hR1
 refine ye (λρ' O'=>∃v,ρ'=[some (.own x),some (.d (.tuple ns)),some (.d (.bool on)),some (.d (.bool on)),v]/\But O O' x p/\StAt O' C x dx p st kp (ns.foldl (modeP on) S)) (λR1 hR1=>?_) ?_
 .walk_at "wd"
  refine yM.by (λi ρ O'=>∃v,ρ=[some (.own x),some (.d (.tuple ns)),some (.d (.bool on)),some (.d (.bool on)),v]/\But O O' x p/\StAt O' C x dx p st kp ((ns.take i).foldl (modeP on) S)) ⟨_,rfl,But.refl,hs⟩ (λ_ _ _ _=>trivial) ?_ ?_
  .rintro i wv _ O1 hw ⟨v,rfl,hb1,hs1⟩ R2 hR2
   rw[lw]at hw;obtain⟨n,hn1,rfl⟩:=Option.map_eq_some_iff.mp hw;have et:ns.take (i+1)=ns.take i++[n]:=by rw[List.take_add_one,hn1];rfl
   have hR3:=λρ O'=>hR2 ρ O';rw[et,List.foldl_append]at hR3;have hx1:=hs1.x
   generalize(ns.take i).foldl (modeP on) S=S1 at hs1 hx1 hR3
   have hnn:=hn n (lK hn1);cases n with
   |none=>
    walk_at "wd";exact hR3 _ _ ⟨_,rfl,hb1,hs1⟩
   |int k=>
    walk_at "wd";walk_at "!hx1 zV";refine zkZ (λe=>?_) (λe1 e=>?_) (λe1 e2 e=>?_) (λe1 e2 e3=>?_)
    .subst e;exact hR3 _ _ ⟨_,rfl,hb1.trans But.ux,hs1.fld (S':={ S1 with wrap:=on }) rfl rfl rfl⟩
    .subst e;exact hR3 _ _ ⟨_,rfl,hb1.trans But.ux,hs1.fld (S':={ S1 with putting:=on }) rfl rfl rfl⟩
    .subst e;exact hR3 _ _ ⟨_,rfl,hb1.trans But.ux,hs1.fld (S':={ S1 with home:=on }) rfl rfl rfl⟩
    .exact hR3 _ _ ⟨_,rfl,hb1,by simpa[modeP,e1,e2,e3]using hs1⟩
   |_=>exact hnn.elim
  .rintro ρ O1 ⟨v,rfl,hb1,hs1⟩
   rw[l6,mU]at hs1;exact hR1 _ _ ⟨v,rfl,hb1,hs1⟩
 rintro _ O1 ⟨v,rfl,hb1,hs1⟩;walk_at "wd";refine⟨ns,rfl,λn hm=>?_,?_⟩
 .have q:=hn n hm
  cases n<;>first|rfl|exact q.elim
 rw[zgh hn];unfold modesS at h;by_cases e:ns.any is3=true
 .rw[lg e]at h ⊢
  exact⟨x,dx,p,st,kp,_,rfl,hs1,trivial,λO' h1 h2=>.inl (h O' h1 (hb1.trans h2))⟩
 .rw[l8 e]at h ⊢
  exact .inl (h _ hs1 hb1)
theorem Jj(F:Fun K "take_stop" "take_stop" (top 43) f fd)(T:Txt P w K mg C bw):FnOk P w K mg base CX0 1 f fd ["state"] (za K (sStop C cutS)):=by
 apply F.okU QY (by walk_at "ln") (λhr=>(zb (zQ (zdX (fl K (pv 0)) (fl K (pv 0)) yG ⟨rfl,rfl,rfl,rfl⟩))))
 .walk_at "ref"
 rintro _ O R ⟨x,dx,p,st,kp,S,rfl,hs,h⟩;have hx:=hs.x;have hst:=hs.st;walk_at "wd";walk_at "!hx hst zV";refine⟨S.stops,rfl,λhc=>.inl (h _ ⟨by rw[ze hs.xs];exact hs.x,by rw[ze hs.ps];exact hs.p,by rw[zf];simp[cutS],by rw[ze (neW hs.kp hs.st (by intro h;cases h))];exact hs.kp⟩ (ButO.upd (by simp))),λhc=>.inl (h _ ?_ ButO.refl)⟩;have e:cutS S=S:=by unfold cutS;rw[zcS hc]
 rw[e];exact hs
theorem Ud(F:Fun K "take_stops" "take_stops" (top 44) f fd)(T:Txt P w K mg C bw):FnOk P w K mg base CX0 1 f fd ["state"] (za K (sStop C clrS)):=by
 apply F.okU V9 (by walk_at "ln") (λhr=>(zb (zQ (Kj (K:=K) rfl PySem.F.plainAttrs_dict PySem.F.slot_dict_clear PySem.F.type_dict_clear zb0 (fl K (pv 0))))))
 .walk_at "ref"
 rintro _ O R ⟨x,dx,p,st,kp,S,rfl,hs,h⟩;have hx:=hs.x;have hst:=hs.st;walk_at "wd";walk_at "!hx hst zV";exact⟨.inr (.inr ⟨rfl,st,_,rfl,hst⟩),.inl (h _ ⟨by rw[ze hs.xs];exact hs.x,by rw[ze hs.ps];exact hs.p,by rw[zf];rfl,by rw[ze (neW hs.kp hs.st (by intro h;cases h))];exact hs.kp⟩ (ButO.upd (by simp)))⟩
seal PE PS PSs PT PA in
theorem zde(F:Fun K "on_tab" "on_tab" (top 40) f fd)(T:Txt P w K mg C bw)(uc:Cal P w K mg base 1 "edges" [] (za K (sEdges C)))(ub:Cal P w K mg base 1 "at_least_one" [] (za K vG)):FnOk P w K mg base CX0 2 f fd ["state","many"] (za K (Yz C tabS)):=by
 have nd:=VZ.nd;apply F.okU VZ (by walk_at "ln") (λhr=>(zc (zY 2 nd (z9 (yn (K:=K) rfl) (zo uc hr (qc (pv 0) qn)) zd)) (zc (yW lZ rfl (xw rfl T.n_range (QA.pa (qc (zo ub hr (qc (pv 1) qn)) qn))) (zZ (i:=3) nd rfl (Or.inl rfl)) (zc (zcO (qf (i:=4) nd rfl rfl (xf (N:=["column","right","state"]) (n:=1) (js:=[2,0])) rfl (Kw (fl K (pv 0))) (λ_ _ _ _=>(zZ (i:=0) (show List.Nodup (["column","right","state"]:List Str)by decide +kernel) rfl (Or.inl rfl))) (λ_ _ _ _=>(XM (xI uS uS (fl K (pv 2)) (pv 0) (pv 1)))) (λ_ _ _ _=>(pv 0)))) (zb (fs K (pv 0) (VI (ks:=["default"]) (ze0 (K:=K) rfl rfl) (by rfl) T.n_min (by rfl) (QA.pa (qc (pv 4) qn)) (J6 (pv 2) zbI)))))) (zb (fs K (pv 0) yC)))))
 .walk_at "ref"
 rintro _ O R ⟨n,hn,x,dx,p,st,kp,S,rfl,hs,⟨hB,hl⟩,h⟩;have m1:=xa (n:=n);have m2:=xU hn
 generalize hee:eR S=ee at *
 refine y6 [some (.own x),some (.d n),some (.d (.int ee)),none,none] (λR1 hR1=>?_) ?_
 .walk_at "wd"
  exact⟨x,dx,p,st,kp,S,rfl,hs,_,rfl,_,rfl,by rw[hee];exact hR1⟩
 refine ye (λρ' O'=>∃v3 v4,ρ'=[some (.own x),some (.d n),some (.d (.int ee)),v3,v4]/\But O O' x p/\StAt O' C x dx p st kp (X7 S (itF (fwd S.stops ee) (oneD n).toNat S.col))) (λR1 hR1=>?_) ?_
 .walk_at "wd"
  refine⟨hn,by omega,by omega,?_⟩;refine yM.rng (f:=λi=>(i:Int)) (λi ρ O'=>∃v3 v4,ρ=[some (.own x),some (.d n),some (.d (.int ee)),v3,v4]/\But O O' x p/\StAt O' C x dx p st kp (X7 S (itF (fwd S.stops ee) i S.col))) ⟨_,_,rfl,But.refl,hs⟩ ?_ ?_
  .rintro i _ O2 hi ⟨v3,v4,rfl,b2,hs2⟩ R2 hR2
   have hR3:∀ρ' O',(∃v3 v4,ρ'=[some (.own x),some (.d n),some (.d (.int ee)),v3,v4]/\But O O' x p/\StAt O' C x dx p st kp (X7 S (fwd S.stops ee (itF (fwd S.stops ee) i S.col))))->R2 ρ' O':=hR2
   generalize itF (fwd S.stops ee) i S.col=c at hs2 hR3
   have hx2:=hs2.x;have hst2:O2 st=some (.dK (stK S.stops)):=hs2.st;refine y6 [some (.own x),some (.d n),some (.d (.int ee)),some (.d (.int i)),some (.d (.list ((zaT c ee S.stops).map .int)))] (λR4 hR4=>?_) ?_
   .walk_at "wd"
    refine⟨st,S.stops,hst2,C,dx,_,hx2,T.st.cl,T.st.n_stops,_,zp,st,rfl,S.stops,hst2,λo=>⟨hl,Zp c ee,λz hz us hu=>?_,?_⟩⟩
    .match us,hu with
     |[u],_=>
      have hx3:updO O2 st (.raw (X6 S.stops o)) x=_:=(ze hs2.xs).trans hx2;walk_at "!hx3";exact Ky
    .rw[Zq,yL,<-jE hst2]
     exact⟨⟨o,zf⟩,hR4⟩
   walk_at "wd";walk_at "!hx2 zV";refine⟨_,QF _,?_⟩;exact hR3 _ _ ⟨_,_,rfl,b2.trans But.ux,hs2.fld rfl rfl rfl⟩
  .rintro _ O2 ⟨v3,v4,rfl,b2,hs2⟩
   exact hR1 _ _ ⟨_,_,rfl,b2,hs2⟩
 rintro _ O2 ⟨v3,v4,rfl,b2,hs2⟩;have hx2:=hs2.x;walk_at "wd";walk_at "!hx2 zV";subst hee;exact .inl (h _ (hs2.fld rfl rfl rfl) (b2.trans But.ux))
seal PE PS PSs PT PA in
theorem JW(F:Fun K "back_tab" "back_tab" (top 41) f fd)(T:Txt P w K mg C bw)(uc:Cal P w K mg base 1 "edges" [] (za K (sEdges C)))(ub:Cal P w K mg base 1 "at_least_one" [] (za K vG)):FnOk P w K mg base CX0 2 f fd ["state","many"] (za K (Yz C bakS)):=by
 have nd:=Ym.nd;apply F.okU Ym (by walk_at "ln") (λhr=>(zc (zY 2 nd (z9 (yn (K:=K) rfl) (zo uc hr (qc (pv 0) qn)) zd)) (zc (yW lZ rfl (xw rfl T.n_range (QA.pa (qc (zo ub hr (qc (pv 1) qn)) qn))) (zZ (i:=3) nd rfl (Or.inl rfl)) (zc (zcO (qf (i:=4) nd rfl rfl (xf (N:=["column","left","state"]) (n:=1) (js:=[2,0])) rfl (Kw (fl K (pv 0))) (λ_ _ _ _=>(zZ (i:=0) (show List.Nodup (["column","left","state"]:List Str)by decide +kernel) rfl (Or.inl rfl))) (λ_ _ _ _=>(XM (xI uS uS (pv 1) (pv 0) (fl K (pv 2))))) (λ_ _ _ _=>(pv 0)))) (zb (fs K (pv 0) (VI (ks:=["default"]) (ze1 (K:=K) rfl rfl) (by rfl) T.n_max (by rfl) (QA.pa (qc (pv 4) qn)) (J6 (pv 2) zbI)))))) (zb (fs K (pv 0) yC)))))
 .walk_at "ref"
 rintro _ O R ⟨n,hn,x,dx,p,st,kp,S,rfl,hs,⟨hB,hl⟩,h⟩;have m1:=xa (n:=n);have m2:=xU hn
 generalize hee:eL S=ee at *
 refine y6 [some (.own x),some (.d n),some (.d (.int ee)),none,none] (λR1 hR1=>?_) ?_
 .walk_at "wd"
  exact⟨x,dx,p,st,kp,S,rfl,hs,_,rfl,_,rfl,by rw[hee];exact hR1⟩
 refine ye (λρ' O'=>∃v3 v4,ρ'=[some (.own x),some (.d n),some (.d (.int ee)),v3,v4]/\But O O' x p/\StAt O' C x dx p st kp (X7 S (itF (bwd S.stops ee) (oneD n).toNat S.col))) (λR1 hR1=>?_) ?_
 .walk_at "wd"
  refine⟨hn,by omega,by omega,?_⟩;refine yM.rng (f:=λi=>(i:Int)) (λi ρ O'=>∃v3 v4,ρ=[some (.own x),some (.d n),some (.d (.int ee)),v3,v4]/\But O O' x p/\StAt O' C x dx p st kp (X7 S (itF (bwd S.stops ee) i S.col))) ⟨_,_,rfl,But.refl,hs⟩ ?_ ?_
  .rintro i _ O2 hi ⟨v3,v4,rfl,b2,hs2⟩ R2 hR2
   have hR3:∀ρ' O',(∃v3 v4,ρ'=[some (.own x),some (.d n),some (.d (.int ee)),v3,v4]/\But O O' x p/\StAt O' C x dx p st kp (X7 S (bwd S.stops ee (itF (bwd S.stops ee) i S.col))))->R2 ρ' O':=hR2
   generalize itF (bwd S.stops ee) i S.col=c at hs2 hR3
   have hx2:=hs2.x;have hst2:O2 st=some (.dK (stK S.stops)):=hs2.st;refine y6 [some (.own x),some (.d n),some (.d (.int ee)),some (.d (.int i)),some (.d (.list ((zaT ee c S.stops).map .int)))] (λR4 hR4=>?_) ?_
   .walk_at "wd"
    refine⟨st,S.stops,hst2,C,dx,_,hx2,T.st.cl,T.st.n_stops,_,zp,st,rfl,S.stops,hst2,λo=>⟨hl,Zp ee c,λz hz us hu=>?_,?_⟩⟩
    .match us,hu with
     |[u],_=>
      have hx3:updO O2 st (.raw (X6 S.stops o)) x=_:=(ze hs2.xs).trans hx2;walk_at "!hx3";exact Ky
    .rw[Zq,yL,<-jE hst2]
     exact⟨⟨o,zf⟩,hR4⟩
   walk_at "wd";walk_at "!hx2 zV";refine⟨_,QF _,?_⟩;exact hR3 _ _ ⟨_,_,rfl,b2.trans But.ux,hs2.fld rfl rfl rfl⟩
  .rintro _ O2 ⟨v3,v4,rfl,b2,hs2⟩
   exact hR1 _ _ ⟨_,_,rfl,b2,hs2⟩
 rintro _ O2 ⟨v3,v4,rfl,b2,hs2⟩;have hx2:=hs2.x;walk_at "wd";walk_at "!hx2 zV";subst hee;exact .inl (h _ (hs2.fld rfl rfl rfl) (b2.trans But.ux))
end
section
variable {R:WK}{x st kp:Addr}{a b:PyData}{ns:List PyData}(hn:n<=90)(ha:NumD a)(hb:NumD b)(hns:∀m∈ns,NumD m)(hs:StAt O C x dx p st kp S)(hG:Good n S)
include hn ha hb hns hs hG
theorem zlt(h':∀st' kp' O',Nxt O O' C x dx p st kp st' kp' (leftS S)->R (.d .none) O'):sLeft C [.own x] O (λ_ O1=>Clo R (.d .none) O1):=⟨x,dx,p,st,kp,S,rfl,hs,trivial,λO' q1 q2=>.inl (h' _ _ O' (.xp q1 q2))⟩
theorem zlu(h':∀st' kp' O',Nxt O O' C x dx p st kp st' kp' (stopS S)->R (.d .none) O'):sSetStop C [.own x] O (λ_ O1=>Clo R (.d .none) O1):=⟨x,dx,p,st,kp,S,rfl,hs,by have:=hG.s;omega,λO' q1 q2=>.inl (h' _ _ O' (.of q1 q2 (by simp)))⟩
theorem zlv(h':∀st' kp' O',Nxt O O' C x dx p st kp st' kp' (cutS S)->R (.d .none) O'):sStop C cutS [.own x] O (λ_ O1=>Clo R (.d .none) O1):=⟨x,dx,p,st,kp,S,rfl,hs,λO' q1 q2=>.inl (h' _ _ O' (.of q1 q2 (by simp)))⟩
theorem zlw(h':∀st' kp' O',Nxt O O' C x dx p st kp st' kp' (clrS S)->R (.d .none) O'):sStop C clrS [.own x] O (λ_ O1=>Clo R (.d .none) O1):=⟨x,dx,p,st,kp,S,rfl,hs,λO' q1 q2=>.inl (h' _ _ O' (.of q1 q2 (by simp)))⟩
theorem zlx(h':∀st' kp' O',Nxt O O' C x dx p st kp st' kp' (keepS S)->R (.d .none) O'):sKeep C keepS [.own x] O (λ_ O1=>Clo R (.d .none) O1):=⟨x,dx,p,st,kp,S,rfl,hs,hG.k.1,λO' q1 q2=>.inl (h' _ _ O' (.of q1 q2 (by simp)))⟩
theorem zly(h':∀st' kp' O',Nxt O O' C x dx p st kp st' kp' (backS S)->R (.d .none) O'):sKeep C backS [.own x] O (λ_ O1=>Clo R (.d .none) O1):=⟨x,dx,p,st,kp,S,rfl,hs,hG.k.1,λO' q1 q2=>.inl (h' _ _ O' (.of q1 q2 (by simp)))⟩
theorem zlz(h':∀st' kp' O',Nxt O O' C x dx p st kp st' kp' (newS S)->R (.d .none) O'):sAnew C [.own x] O (λ_ O1=>Clo R (.d .none) O1):=⟨x,dx,p,st,kp,S,rfl,hs,hG.b,λst' kp' O' q1 q2 q3 q4=>.inl (h' _ _ O' (.anew hs q3 q4 q1 q2))⟩
theorem zlA(h':∀st' kp' O',Nxt O O' C x dx p st kp st' kp' (tabS (oneD a).toNat S)->R (.d .none) O'):Yz C tabS [.own x,.d a] O (λ_ O1=>Clo R (.d .none) O1):=⟨a,ha,x,dx,p,st,kp,S,rfl,hs,⟨hG.b,by have:=hG.s;omega⟩,λO' q1 q2=>.inl (h' _ _ O' (.xp q1 q2))⟩
theorem zlB(h':∀st' kp' O',Nxt O O' C x dx p st kp st' kp' (bakS (oneD a).toNat S)->R (.d .none) O'):Yz C bakS [.own x,.d a] O (λ_ O1=>Clo R (.d .none) O1):=⟨a,ha,x,dx,p,st,kp,S,rfl,hs,⟨hG.b,by have:=hG.s;omega⟩,λO' q1 q2=>.inl (h' _ _ O' (.xp q1 q2))⟩
theorem zlC(h':∀st' kp' O',Nxt O O' C x dx p st kp st' kp' (agS a S)->R (.d .none) O'):Ji C [.own x,.d a] O (λ_ O1=>Clo R (.d .none) O1):=⟨a,x,dx,p,st,kp,S,rfl,ha,hs,hG.b,hG.l,λS' O' k1 k2 q1 q2=>.inl (h' _ _ O' (.xp (zkT hG.l k1 k2▸q1) q2))⟩
theorem zlD(h':∀st' kp' O',Nxt O O' C x dx p st kp st' kp' (lineS (-(oneD a)) S)->R (.d .none) O'):sPutL C [.own x,.d a] O (λ_ O1=>Clo R (.d .none) O1):=⟨a,ha,x,dx,p,st,kp,S,rfl,hs,hG.b,λO' q1 q2=>.inl (h' _ _ O' (.xp q1 q2))⟩
theorem zlE(h':∀st' kp' O',Nxt O O' C x dx p st kp st' kp' (lineS (oneD a) S)->R (.d .none) O'):sCutL C [.own x,.d a] O (λ_ O1=>Clo R (.d .none) O1):=⟨a,ha,x,dx,p,st,kp,S,rfl,hs,hG.b,λO' q1 q2=>.inl (h' _ _ O' (.xp q1 q2))⟩
theorem zlF(h':∀st' kp' O',Nxt O O' C x dx p st kp st' kp' (cellsS (-(oneD a)) S)->R (.d .none) O'):sPutC C [.own x,.d a] O (λ_ O1=>Clo R (.d .none) O1):=⟨a,ha,x,dx,p,st,kp,S,rfl,hs,hG.b,λO' q1 q2=>.inl (h' _ _ O' (.xp q1 q2))⟩
theorem zlG(h':∀st' kp' O',Nxt O O' C x dx p st kp st' kp' (cellsS (oneD a) S)->R (.d .none) O'):zaN C [.own x,.d a] O (λ_ O1=>Clo R (.d .none) O1):=⟨a,ha,x,dx,p,st,kp,S,rfl,hs,hG.b,λO' q1 q2=>.inl (h' _ _ O' (.xp q1 q2))⟩
theorem zlH(h':∀st' kp' O',Nxt O O' C x dx p st kp st' kp' (wicS a S)->R (.d .none) O'):zaP C [.own x,.d a] O (λ_ O1=>Clo R (.d .none) O1):=⟨a,ha,x,dx,p,st,kp,S,rfl,hs,hG.b,λO' q1 q2=>.inl (h' _ _ O' (.xp q1 q2))⟩
theorem zlI(h':∀st' kp' O',Nxt O O' C x dx p st kp st' kp' (wiwS a S)->R (.d .none) O'):Uy C [.own x,.d a] O (λ_ O1=>Clo R (.d .none) O1):=⟨x,dx,p,st,kp,S,a,rfl,ha,hs,hG.b,λO' q1 q2=>.inl (h' _ _ O' (.xp' q1 q2))⟩
theorem zlJ(h':∀st' kp' O',Nxt O O' C x dx p st kp st' kp' (plS a b S)->R (.d .none) O'):sPlace C [.own x,.d a,.d b] O (λ_ O1=>Clo R (.d .none) O1):=⟨a,b,ha,hb,x,dx,p,st,kp,S,rfl,hs,trivial,λO' q1 q2=>.inl (h' _ _ O' (.xp q1 q2))⟩
theorem zlK(h':∀st' kp' O',Nxt O O' C x dx p st kp st' kp' (rowsS a b S)->R (.d .none) O'):sRows C [.own x,.d a,.d b] O (λ_ O1=>Clo R (.d .none) O1):=⟨a,b,ha,hb,x,dx,p,st,kp,S,rfl,hs,trivial,λO' q1 q2=>.inl (h' _ _ O' (.xp q1 q2))⟩
theorem zlL(h':∀st' kp' O',Nxt O O' C x dx p st kp st' kp' (colsS a b S)->R (.d .none) O'):sCols C [.own x,.d a,.d b] O (λ_ O1=>Clo R (.d .none) O1):=⟨a,b,ha,hb,x,dx,p,st,kp,S,rfl,hs,trivial,λO' q1 q2=>.inl (h' _ _ O' (.xp q1 q2))⟩
theorem zlM(h':∀st' kp' O',Nxt O O' C x dx p st kp st' kp' (dyeS ns S)->R (.d .none) O'):sDye C [.own x,.d (.tuple ns)] O (λ_ O1=>Clo R (.d .none) O1):=⟨ns,hns,x,dx,p,st,kp,S,rfl,hs,⟨hG.b.i0,hG.b.i1⟩,λO' q1 q2=>.inl (h' _ _ O' (.xp q1 q2))⟩
theorem zlN(h':∀st' kp' O',Nxt O O' C x dx p st kp st' kp' (modesS ns true S)->R (.d .none) O'):sModesN C [.own x,.d (.tuple ns),.d (.bool true)] O (λ_ O1=>Clo R (.d .none) O1):=⟨ns,true,hns,x,dx,p,st,kp,S,rfl,hs,trivial,λO' q1 q2=>.inl (h' _ _ O' (.xp q1 q2))⟩
theorem zlO(h':∀st' kp' O',Nxt O O' C x dx p st kp st' kp' (modesS ns false S)->R (.d .none) O'):sModesN C [.own x,.d (.tuple ns),.d (.bool false)] O (λ_ O1=>Clo R (.d .none) O1):=⟨ns,false,hns,x,dx,p,st,kp,S,rfl,hs,trivial,λO' q1 q2=>.inl (h' _ _ O' (.xp q1 q2))⟩
end
section
variable {bw:Addr}
theorem kE(F:Fun K "do_without_number" "do_without_number" (top 80) f fd)(T:Txt P w K mg C bw)(wm:Cal P w K mg base 2 "to_left_edge" [] (za K (sLeft C)))(ar:Cal P w K mg base 1 "set_stop" [] (za K (sSetStop C)))(au:Cal P w K mg base 1 "take_stop" [] (za K (sStop C cutS)))(aw:Cal P w K mg base 1 "take_stops" [] (za K (sStop C clrS)))(ax:Cal P w K mg base 1 "keep" [] (za K (sKeep C keepS)))(ay:Cal P w K mg base 1 "take_back" [] (za K (sKeep C backS)))(az:Cal P w K mg base 4 "begin_anew" [] (za K (sAnew C))):FnOk P w K mg base CX0 5 f fd ["state","letter"] (za K (sDo C lsA λa b ns=>[])):=by
 apply F.okU kA (by walk_at "ln") (λhr=>(zb (zT (zU z7 (pv 1) zS) (zb (zQ (zo wm hr (qc (pv 0) qn)))) (zb (zT (zU z7 (pv 1) zS) (zb (zQ (zo ar hr (qc (pv 0) qn)))) (zb (zT (zU z7 (pv 1) zS) (zb (zQ (zo au hr (qc (pv 0) qn)))) (zb (zT (zU z7 (pv 1) zS) (zb (zQ (zo aw hr (qc (pv 0) qn)))) (zb (zT (zU z7 (pv 1) zS) (zb (zQ (zo ax hr (qc (pv 0) qn)))) (zb (zT (zU z7 (pv 1) zS) (zb (zQ (zo ay hr (qc (pv 0) qn)))) (zb (zT (zU z7 (pv 1) zS) (zb (zQ (zo az hr (qc (pv 0) qn)))) zX)))))))))))))))
 .walk_at "ref"
 rintro _ O R ⟨n,c,a,b,ns,x,dx,p,st,kp,S,rfl,hn,hc,ha,hb,hns,hs,hG,h⟩;refine yN (k:=104) (by decide +kernel) rfl (λe=>?_) (λn104=>?_)
 .subst e
  exact zlt hn ha hb hns hs hG h
 refine yN (k:=116) (by decide +kernel) rfl (λe=>?_) (λn116=>?_)
 .subst e
  exact zlu hn ha hb hns hs hG h
 refine yN (k:=84) (by decide +kernel) rfl (λe=>?_) (λn84=>?_)
 .subst e
  exact zlv hn ha hb hns hs hG h
 refine yN (k:=85) (by decide +kernel) rfl (λe=>?_) (λn85=>?_)
 .subst e
  exact zlw hn ha hb hns hs hG h
 refine yN (k:=118) (by decide +kernel) rfl (λe=>?_) (λn118=>?_)
 .subst e
  exact zlx hn ha hb hns hs hG h
 refine yN (k:=122) (by decide +kernel) rfl (λe=>?_) (λn122=>?_)
 .subst e
  exact zly hn ha hb hns hs hG h
 refine yN (k:=90) (by decide +kernel) rfl (λe=>?_) (λn90=>?_)
 .subst e
  exact zlz hn ha hb hns hs hG h
 have q:=@List.not_mem_cons_of_ne_of_not_mem Nat;have e:opt lsA c (actS c a b ns) S=S:=l8 (q n104 (q n116 (q n84 (q n85 (q n118 (q n122 (q n90 lD)))))));rw[e]at h;exact .inl (h _ _ O (.refl hs))
theorem Vn(F:Fun K "do_with_one" "do_with_one" (top 81) f fd)(T:Txt P w K mg C bw)(ba:Cal P w K mg base 2 "go" [] (za K (zeW C)))(wt:Cal P w K mg base 2 "on_tab" [] (za K (Yz C tabS)))(bd:Cal P w K mg base 2 "back_tab" [] (za K (Yz C bakS)))(be:Cal P w K mg base 6 "again" [] (za K (Ji C)))(bf:Cal P w K mg base 4 "roll" [] (za K (Qz C)))(bg:Cal P w K mg base 4 "put_lines" [] (za K (sPutL C)))(bh:Cal P w K mg base 4 "cut_lines" [] (za K (sCutL C)))(wo:Cal P w K mg base 3 "put_cells" [] (za K (sPutC C)))(bi:Cal P w K mg base 3 "cut_cells" [] (za K (zaN C)))(bj:Cal P w K mg base 3 "wipe_cells" [] (za K (zaP C)))(wu:Cal P w K mg base 3 "wipe" [] (za K (Uy C))):FnOk P w K mg base CX0 7 f fd ["state","letter","many"] (za K (sDo C lsB λa b ns=>[.d a])):=by
 apply F.okU Vi (by walk_at "ln") (λhr=>(zb (zT (vR (zar (K:=K) rfl) (pv 1) (yb (qc zS (qc zS (qc zS (qc zS qn))))) (by with_unfolding_all rfl)) (zb (zQ (zo ba hr (qc (pv 0) (qc (pv 1) (qc (pv 2) qn)))))) (zb (zT (zU z7 (pv 1) zS) (zb (zQ (zo wt hr (qc (pv 0) (qc (pv 2) qn))))) (zb (zT (zU z7 (pv 1) zS) (zb (zQ (zo bd hr (qc (pv 0) (qc (pv 2) qn))))) (zb (zT (zU z7 (pv 1) zS) (zb (zQ (zo be hr (qc (pv 0) (qc (pv 2) qn))))) (zb (zT (vR (zar (K:=K) rfl) (pv 1) (yb (qc zS (qc zS qn))) (by with_unfolding_all rfl)) (zb (zQ (zo bf hr (qc (pv 0) (qc (pv 1) (qc (pv 2) qn)))))) (zb (zT (zU z7 (pv 1) zS) (zb (zQ (zo bg hr (qc (pv 0) (qc (pv 2) qn))))) (zb (zT (zU z7 (pv 1) zS) (zb (zQ (zo bh hr (qc (pv 0) (qc (pv 2) qn))))) (zb (zT (zU z7 (pv 1) zS) (zb (zQ (zo wo hr (qc (pv 0) (qc (pv 2) qn))))) (zb (zT (zU z7 (pv 1) zS) (zb (zQ (zo bi hr (qc (pv 0) (qc (pv 2) qn))))) (zb (zT (zU z7 (pv 1) zS) (zb (zQ (zo bj hr (qc (pv 0) (qc (pv 2) qn))))) (zb (zT (zU z7 (pv 1) zS) (zb (zQ (zo wu hr (qc (pv 0) (qc (pv 2) qn))))) zX)))))))))))))))))))))))
 .walk_at "ref"
 rintro _ O R ⟨n,c,a,b,ns,x,dx,p,st,kp,S,rfl,hn,hc,ha,hb,hns,hs,hG,h⟩;refine xv (c= 117\/c= 100\/c= 108\/c= 114) (λR4 hR4=>?_) (λe=>?_) (λn_udlr=>?_)
 .walk_at "wd"
  exact zc0 [117,100,108,114] (by rfl) (by simp) hR4
 .have h':∀st' kp' O',Nxt O O' C x dx p st kp st' kp' (offS (goS c (oneD a) S))->R (.d .none) O':=λst' kp' O' q=>h st' kp' O' (by rcases e with rfl|rfl|rfl|rfl<;>exact q)
  show zeW C [.own x,.d (.str ⟨#[c]⟩),.d a] O _;exact⟨c,a,e,ha,x,dx,p,st,kp,S,rfl,hs,trivial,λO' q1 q2=>.inl (h' _ _ O' (.xp q1 q2))⟩
 refine yN (k:=121) (by decide +kernel) rfl (λe=>?_) (λn121=>?_)
 .subst e
  exact zlA hn ha hb hns hs hG h
 refine yN (k:=89) (by decide +kernel) rfl (λe=>?_) (λn89=>?_)
 .subst e
  exact zlB hn ha hb hns hs hG h
 refine yN (k:=112) (by decide +kernel) rfl (λe=>?_) (λn112=>?_)
 .subst e
  exact zlC hn ha hb hns hs hG h
 refine xv (c= 82\/c= 68) (λR4 hR4=>?_) (λe=>?_) (λn_RD=>?_)
 .walk_at "wd"
  exact zc0 [82,68] (by rfl) (by simp) hR4
 .have e':∃up:Bool,(⟨#[c]⟩:Str)=zaQ up/\opt lsB c (actS c a b ns) S=rollT up a S:=by
   rcases e with rfl|rfl
   .exact⟨true,by decide +kernel,rfl⟩
   .exact⟨false,by decide +kernel,rfl⟩
  obtain⟨up,e1,e2⟩:=e';rw[e2]at h;show Qz C [.own x,.d (.str ⟨#[c]⟩),.d a] O _;rw[e1];exact⟨up,a,ha,x,dx,p,st,kp,S,rfl,hs,hG.b,λO' q1 q2=>.inl (h _ _ O' (.xp q1 q2))⟩
 refine yN (k:=105) (by decide +kernel) rfl (λe=>?_) (λn105=>?_)
 .subst e
  exact zlD hn ha hb hns hs hG h
 refine yN (k:=107) (by decide +kernel) rfl (λe=>?_) (λn107=>?_)
 .subst e
  exact zlE hn ha hb hns hs hG h
 refine yN (k:=115) (by decide +kernel) rfl (λe=>?_) (λn115=>?_)
 .subst e
  exact zlF hn ha hb hns hs hG h
 refine yN (k:=120) (by decide +kernel) rfl (λe=>?_) (λn120=>?_)
 .subst e
  exact zlG hn ha hb hns hs hG h
 refine yN (k:=101) (by decide +kernel) rfl (λe=>?_) (λn101=>?_)
 .subst e
  exact zlH hn ha hb hns hs hG h
 refine yN (k:=119) (by decide +kernel) rfl (λe=>?_) (λn119=>?_)
 .subst e
  exact zlI hn ha hb hns hs hG h
 rw[not_or,not_or,not_or]at n_udlr;rw[not_or]at n_RD;have q:=@List.not_mem_cons_of_ne_of_not_mem Nat;have e:opt lsB c (actS c a b ns) S=S:=l8 (q n_udlr.1 (q n_udlr.2.1 (q n_udlr.2.2.1 (q n_udlr.2.2.2 (q n121 (q n89 (q n112 (q n_RD.1 (q n_RD.2 (q n105 (q n107 (q n115 (q n120 (q n101 (q n119 lD)))))))))))))));rw[e]at h;exact .inl (h _ _ O (.refl hs))
theorem Vo(F:Fun K "do_with_two" "do_with_two" (top 82) f fd)(T:Txt P w K mg C bw)(wf:Cal P w K mg base 3 "to_place" [] (za K (sPlace C)))(bm:Cal P w K mg base 5 "set_rows" [] (za K (sRows C)))(bn:Cal P w K mg base 5 "set_columns" [] (za K (sCols C))):FnOk P w K mg base CX0 6 f fd ["state","letter","first","second"] (za K (sDo C lsC λa b ns=>[.d a,.d b])):=by
 apply F.okU Vj (by walk_at "ln") (λhr=>(zb (zT (zU z7 (pv 1) zS) (zb (zQ (zo wf hr (qc (pv 0) (qc (pv 2) (qc (pv 3) qn)))))) (zb (zT (zU z7 (pv 1) zS) (zb (zQ (zo bm hr (qc (pv 0) (qc (pv 2) (qc (pv 3) qn)))))) (zb (zT (zU z7 (pv 1) zS) (zb (zQ (zo bn hr (qc (pv 0) (qc (pv 2) (qc (pv 3) qn)))))) zX)))))))
 .walk_at "ref"
 rintro _ O R ⟨n,c,a,b,ns,x,dx,p,st,kp,S,rfl,hn,hc,ha,hb,hns,hs,hG,h⟩;refine yN (k:=103) (by decide +kernel) rfl (λe=>?_) (λn103=>?_)
 .subst e
  exact zlJ hn ha hb hns hs hG h
 refine yN (k:=109) (by decide +kernel) rfl (λe=>?_) (λn109=>?_)
 .subst e
  exact zlK hn ha hb hns hs hG h
 refine yN (k:=77) (by decide +kernel) rfl (λe=>?_) (λn77=>?_)
 .subst e
  exact zlL hn ha hb hns hs hG h
 have e:opt lsC c (actS c a b ns) S=S:=l8 (by simp only[lm,lD,m6];omega);rw[e]at h;exact .inl (h _ _ O (.refl hs))
theorem Vp(F:Fun K "do_with_all" "do_with_all" (top 83) f fd)(T:Txt P w K mg C bw)(bo:Cal P w K mg base 4 "dye" [] (za K (sDye C)))(ad:Cal P w K mg base 5 "turn_modes" [] (za K (sModesN C))):FnOk P w K mg base CX0 6 f fd ["state","letter","numbers"] (za K (sDo C lsD λa b ns=>[.d (.tuple ns)])):=by
 apply F.okU Vk (by walk_at "ln") (λhr=>(zb (zT (zU z7 (pv 1) zS) (zb (zQ (zo bo hr (qc (pv 0) (qc (pv 2) qn))))) (zb (zT (zU z7 (pv 1) zS) (zb (zQ (zo ad hr (qc (pv 0) (qc (pv 2) (qc yC qn)))))) (zb (zT (zU z7 (pv 1) zS) (zb (zQ (zo ad hr (qc (pv 0) (qc (pv 2) (qc yC qn)))))) zX)))))))
 .walk_at "ref"
 rintro _ O R ⟨n,c,a,b,ns,x,dx,p,st,kp,S,rfl,hn,hc,ha,hb,hns,hs,hG,h⟩;refine yN (k:=99) (by decide +kernel) rfl (λe=>?_) (λn99=>?_)
 .subst e
  exact zlM hn ha hb hns hs hG h
 refine yN (k:=111) (by decide +kernel) rfl (λe=>?_) (λn111=>?_)
 .subst e
  exact zlN hn ha hb hns hs hG h
 refine yN (k:=102) (by decide +kernel) rfl (λe=>?_) (λn102=>?_)
 .subst e
  exact zlO hn ha hb hns hs hG h
 have e:opt lsD c (actS c a b ns) S=S:=l8 (by simp only[lm,lD,m6];omega);rw[e]at h;exact .inl (h _ _ O (.refl hs))
end
noncomputable def xB(n:Nat):List Str:=(if n / 64%2=1 then[zaJ]else[])++(if n / 128%2=1 then[zaK]else[])++(if n / 256%2=1 then[zaL]else[])
noncomputable def xQ(n:Nat):List Str:=xB n++(if n%8=0 then[]else[X5++sp1++fig (n%8)])++(if n / 8%8=0 then[]else[zaM++sp1++fig (n / 8%8)])
theorem zhJ(w:Str):Str.join sp1 [w]=w:=rfl
theorem zhK(w v:Str):Str.join sp1 [w,v]=w++sp1++v:=rfl
theorem Xy(n:Nat):xQ n=(bun n).map (Str.join sp1):=by
 unfold xQ xB bun;simp only[List.map_append,apply_ite (List.map (Str.join sp1)),List.map_cons,List.map_nil,zhJ,zhK]
theorem len1(c:Prop)[Decidable c](z:Str):(if c then[z]else[]).length<=1:=by split<;>simp
theorem len2(c:Prop)[Decidable c](z:Str):(if c then[]else[z]).length<=1:=by split<;>simp
theorem len3(n):(xB n).length<=3:=by
 unfold xB;simp only[List.length_append];have:=len1 (n/64%2=1) zaJ;have:=len1 (n/128%2=1) zaK;have:=len1 (n/256%2=1) zaL;omega
theorem zbi(h:n<512):(xQ n).isEmpty=decide (n= 0):=by
 rw[Xy];by_cases h0:n= 0
 .subst h0;rfl
 .rw[m5 h0]
  cases hb:bun n with
  |nil=>
   have:=zkO h0 h;unfold wl at this;rw[hb]at this;exact absurd rfl this
  |cons a l=>rfl
theorem zdf:inkT n=if n= 0 then Str.ofString "plain" else Str.join sp1 (xQ n):=by
 unfold inkT;rw[Xy]
theorem YL:∀n:_root_.Fin 512,(n.val &&& 64=0↔¬n.val / 64%2=1)/\(n.val &&& 128=0↔¬n.val / 128%2=1)/\(n.val &&& 256=0↔¬n.val / 256%2=1)/\n.val &&& 7 =n.val%8/\(n.val / 8) &&& 7 =n.val / 8%8:=by decide +kernel
theorem zhL:∀k:_root_.Fin 8,Str.ofString ((k.val:Int).repr)=fig k.val:=by decide +kernel
theorem zdg(a:Str):Str.empty++a=a:=by
 apply X0;rw[xn];rfl
def zj5:SpW:=λws O R=>∃n:Nat,ws=[.d (.int n)]/\n<512/\∀O',Old O O'->R (.d (.str (inkT n))) O'
def zgi:SpW:=λws O R=>∃n:Nat,ws=[.d (.int n)]/\n<512/\R (.d (.str (inkT n))) O
section
variable {bw:Addr}
theorem Jk(F:Fun K "ink_text" "ink_text" (top 18) f fd)(T:Txt P w K mg C bw)(wa:Cal P w K mg base 1 "fore_of" [] (za K (sI1 (λ_=>True) λi=>Builtin.bitAnd i 7)))(w9:Cal P w K mg base 1 "back_of" [] (za K (sI1 (λ_=>True) λi=>Builtin.bitAnd (i / 8) 7))):FnOk P w K mg base CX0 2 f fd ["ink"] (za K zj5):=by
 have nd:=Yl.nd;apply F.okU Yl (by walk_at "ln") (λhr=>(zc (zck (i:=1) nd rfl rfl (xf (N:=["word","bit","ink"]) (n:=2) (js:=[0])) rfl (zcK (K:=K) (P:=P) (w:=w) rfl rfl rfl (jt (v:=.ref bw) (u:=.ref bw) rfl T.g_BITS_BY_WORD rfl)) (λ_ _ _ _=>(uZ (K:=K) (n:=2) rfl rfl (yU (zZ (i:=0) (show List.Nodup (["word","bit","ink"]:List Str)by decide +kernel) rfl (Or.inl rfl)) (yU (zZ (i:=1) (show List.Nodup (["word","bit","ink"]:List Str)by decide +kernel) rfl (Or.inl rfl)) uW)))) (λ_ _ _ _=>(XM (xL (K:=K) rfl (zt k4 (pv 2) (pv 1)) (λ_=>rfl)))) (λ_ _ _ _=>(pv 0))) (zc (yW lZ rfl (vZ (K:=K) rfl (yb (qc (yb (qc zS (qc (zo wa hr (qc (pv 0) qn)) qn))) (qc (yb (qc zS (qc (zo w9 hr (qc (pv 0) qn)) qn))) qn)))) (uZ (K:=K) (n:=2) rfl rfl (yU (zZ (i:=2) nd rfl (Or.inl rfl)) (yU (zZ (i:=3) nd rfl (Or.inl rfl)) uW))) (zb (zT (zU K0 (pv 3) zd) (zb (zQ (yJ (K:=K) rfl lR lX lY y7 (pv 1) (QA.pa (qc (Qx (pv 2) (pv 3) (by decide)) qn))))) zX))) (zb (zB (yH (xL (K:=K) rfl (pv 1) (λ_=>rfl)) (yJ (K:=K) rfl mB PySem.F.slot_str_join PySem.F.type_str_join (jB (K:=K) rfl) zS (QA.pa (qc (pv 1) qn))) zS))))))
 .walk_at "ref"
 rintro _ O R ⟨n,rfl,hn,h⟩;obtain⟨a1,a2,a3,_,_⟩:=YL ⟨n,hn⟩;have e7:Builtin.bitAnd (n:Int) 7 =((n%8:Nat):Int):=by
  rw[<-(YL ⟨n,hn⟩).2.2.2.1];exact qo n 7
 have e8:Builtin.bitAnd ((n:Int) / 8) 7 =((n / 8%8:Nat):Int):=by
  rw[<-(YL ⟨n,hn⟩).2.2.2.2];exact qo (n / 8) 7
 refine ye (λρ' O'=>∃p,ρ'=[some (.d (.int n)),some (.own p),none,none]/\O' p=some (.lst ((xB n).map qV))/\O p=none/\Old O O') (λR1 hR1=>?_) ?_
 .walk_at "wd"
  refine⟨bitsD,T.d_bw,by decide,λv=>match v with|.d (.tuple [.str z,.int b])=>if Builtin.bitAnd (n:Int) b= 0 then none else some (.str z)|_=>none,?_,λp hp=>?_⟩
  .rintro _ z b hz rfl us hu
   obtain⟨u1,u2,rfl⟩:∃a b,us=[a,b]:=by
    match us,hu with
    |[a,b],_=>exact⟨a,b,rfl⟩
   refine⟨_,rfl,rfl,_,_,rfl,_,_,rfl,rfl,rfl,rfl,?_⟩;show if Builtin.bitAnd (n:Int) b= 0 then _ else _
   split
   .rename_i q
    show none=Option.map W.d (if Builtin.bitAnd (n:Int) b= 0 then none else some (.str z));rw[lg q];rfl
   .rename_i q
    show some (W.d (.str z))=Option.map W.d (if Builtin.bitAnd (n:Int) b= 0 then none else some (.str z));rw[l8 q];rfl
  .refine hR1 _ _ ⟨p,rfl,?_,hp,Old.upd Old.refl hp⟩
   rw[zf];have b1:(Builtin.bitAnd (n:Int) 64=0)= ¬n / 64%2=1:=by
    rw[show(64:Int)=((64:Nat):Int)from rfl,qo];exact propext ⟨λz=>a1.1 (by exact_mod_cast z),λz=>by exact_mod_cast a1.2 z⟩
   have b2:(Builtin.bitAnd (n:Int) 128=0)= ¬n / 128%2=1:=by
    rw[show(128:Int)=((128:Nat):Int)from rfl,qo];exact propext ⟨λz=>a2.1 (by exact_mod_cast z),λz=>by exact_mod_cast a2.2 z⟩
   have b3:(Builtin.bitAnd (n:Int) 256=0)= ¬n / 256%2=1:=by
    rw[show(256:Int)=((256:Nat):Int)from rfl,qo];exact propext ⟨λz=>a3.1 (by exact_mod_cast z),λz=>by exact_mod_cast a3.2 z⟩
   unfold bitsD xB;by_cases c1:n / 64%2=1<;>by_cases c2:n / 128%2=1<;>by_cases c3:n / 256%2=1<;>simp[b1,b2,b3,c1,c2,c3,qV,zaJ,zaK,zaL]
 rintro _ O1 ⟨p,rfl,hp,hpn,ho1⟩;refine ye (λρ' O'=>∃v1 v2,ρ'=[some (.d (.int n)),some (.own p),v1,v2]/\O' p=some (.lst ((xQ n).map qV))/\Old O O') (λR1 hR1=>?_) ?_
 .walk_at "wd"
  rw[e7,e8];have ml:=len3 n
  have step:∀(wd:Str) (k:Nat) (v1 v2:Option W) (O2:OM) (L:List Str) (R2:WS->OM->Prop),wd.length<=10->k<8->L.length<=10->O2 p=some (.lst (L.map qV))->Old O O2->(∀O3 v1 v2,Old O O3->O3 p=some (.lst ((L++(if k= 0 then[]else[wd++sp1++fig k])).map qV))->R2 [some (.d (.int n)),some (.own p),v1,v2] O3)->
    uB (xz (wOp vNe (yk 3) (wC (PyData.int 0)))) (Y9 (wBM "list" XW (yk 1) (jZ (zeV (yk 2) (Str.ofString " ") (yk 3)) Yv))) j0 { nx:=R2,rt:=Clo R,bk:=R1,ct:=R2 } [some (.d (.int n)),some (.own p),some (.d (.str wd)),some (.d (.int k))] O2:=by
   intro wd k v1 v2 O2 L R2 hwd hk hL hO ho2 hR2;walk_at "wd";split
   .rename_i q
    refine hR2 _ _ _ ho2 ?_;rw[lg q,lV];exact hO
   .rename_i q
    have ef:=zhL ⟨k,hk⟩;simp only at ef;rw[ef,zdg];refine⟨.inl ⟨rfl,by simp[z6,hO]⟩,by omega,by omega,(by show(1:Nat)<=1000;decide),updO O2 p (.lst ((L++[wd++sp1++fig k]).map qV)),?_,hR2 _ _ _ (ho2.upd hpn) ?_⟩
    .simp only[j6,hO]
     rw[lg (by rw[l6];omega),m9];rfl
    .rw[zf,l8 q]
  refine yM.by (λi ρ O'=>∃v1 v2,ρ=[some (.d (.int n)),some (.own p),v1,v2]/\O' p=some (.lst ((match i with|0=>xB n|1=>xB n++(if n%8=0 then[]else[X5++sp1++fig (n%8)])|_=>xQ n).map qV))/\Old O O') ⟨_,_,rfl,hp,ho1⟩ (λ_ _ _ _=>trivial) ?_ ?_
  .rintro i x _ O2 hx ⟨v1,v2,rfl,hO,ho2⟩ R2 hR2
   match i,hx,hO,hR2 with
   |0,hx,hO,hR2=>
    cases hx;refine⟨_,rfl,rfl,_,_,rfl,_,_,rfl,rfl,?_⟩;exact step X5 (n%8) v1 v2 O2 (xB n) R2 (by decide +kernel) (by omega) (by omega) hO ho2 λO3 v1 v2 ho3 h3=>hR2 _ _ ⟨_,_,rfl,h3,ho3⟩
   |1,hx,hO,hR2=>
    cases hx;refine⟨_,rfl,rfl,_,_,rfl,_,_,rfl,rfl,?_⟩;exact step zaM (n / 8%8) v1 v2 O2 (xB n++(if n%8=0 then[]else[X5++sp1++fig (n%8)])) R2 (by decide +kernel) (by omega) (by rw[lI];split<;>simp<;>omega) hO ho2 λO3 v1 v2 ho3 h3=>hR2 _ _ ⟨_,_,rfl,h3,ho3⟩
   |i+2,hx,hO,hR2=>cases hx
  .rintro _ O2 ⟨v1,v2,rfl,hO,ho2⟩
   exact hR1 _ _ ⟨v1,v2,rfl,hO,ho2⟩
 rintro _ O2 ⟨v1,v2,rfl,hp2,ho2⟩;walk_at "wd";simp only[hp2,List.isEmpty_map,zbi hn];by_cases h0:n= 0
 .refine .inl ⟨by simp[h0],.inl ?_⟩
  have:=h O2 ho2;rw[zdf,lg h0]at this;exact this
 .refine .inr ⟨by simp[h0],.inr (.inl ⟨rfl,_,rfl⟩),xQ n,by simp only[z6,hp2],by decide +kernel,?_,.inl ?_⟩
  .have pl:(xQ n).length<=5:=by
    unfold xQ;simp only[lI];have:=len3 n;have:=len2 (n%8=0) (X5++sp1++fig (n%8));have:=len2 (n/8%8=0) (zaM++sp1++fig (n/8%8));omega
   have pw:∀q∈xQ n,q.length<=20:=by
    have w1:zaJ.length<=20/\zaK.length<=20/\zaL.length<=20/\X5.length<=10/\zaM.length<=10/\sp1.length<=1:=by decide +kernel
    obtain⟨w1,w2,w3,w4,w5,w6⟩:=w1;have lf:∀k,(fig k).length= 1:=λk=>rfl;intro q hq;unfold xQ xB at hq;simp only[lz]at hq;rcases hq with(((hq|hq)|hq)|hq)|hq<;>split at hq<;>simp at hq<;>subst hq
    .exact w1
    .exact w2
    .exact w3
    .rw[strLen_append,strLen_append,lf];omega
    .rw[strLen_append,strLen_append,lf];omega
   have:∀L:List Str,(∀q∈L,q.length<=20)->(L.map (·.length)).sum<=20*L.length:=by
    intro L
    induction L with
    |nil=>simp
    |cons a L ih=>
     intro hL;have:=ih λq hq=>hL q (lj _ hq);have:=hL a li;simp only[lG,List.sum_cons,lL];omega
   have:=this _ pw;omega
  .have:=h O2 ho2
   rw[zdf,l8 h0]at this;rw[u5];exact this
theorem JX(F:Fun K "ink_text" "ink_text" (top 18) f fd)(T:Txt P w K mg C bw)(wa:Cal P w K mg base 1 "fore_of" [] (za K (sI1 (λ_=>True) λi=>Builtin.bitAnd i 7)))(w9:Cal P w K mg base 1 "back_of" [] (za K (sI1 (λ_=>True) λi=>Builtin.bitAnd (i / 8) 7))):FnOk P w K mg base CX0 2 f fd ["ink"] (za K zgi):=by
 exact(Jk F T wa w9).forget λws O R ⟨n,e,hn,h⟩=>⟨n,e,hn,λO' ho=>⟨ho,h⟩⟩
end
theorem kG(a:Str):Str.empty++a=a:=by
 apply X0;rw[xn];rfl
theorem uk{i:Int}(h:Sh i):(Str.ofString i.repr).length<=1000:=by
 obtain⟨h1,h2⟩:=h;have q:(toString i).length<=7+1:=int_text_length_le10 (by decide) (show i.natAbs<10 ^ 7 by omega);rw[PySem.ofString_length];have:i.repr.length=(toString i).length:=rfl;omega
theorem _root_.L2.StAt.keptTo{x st kp:Addr}(s:StAt O C x dx p st kp S)(ks:List KP):StAt (updO O kp (.lst ((ks.map kpT).map .d))) C x dx p st kp { S with kept:=ks }:=
 ⟨by rw[ze s.xk];exact s.x,by rw[ze s.pk];exact s.p,by rw[ze (neW s.st s.kp (by intro h;cases h))];exact s.st,zf⟩
theorem zlP:((⟨#[c]⟩:Str)=Str.ofString "u")=(c= 117):=by rw[show Str.ofString "u" =⟨#[117]⟩by decide +kernel];simp
theorem zlQ:((⟨#[c]⟩:Str)=Str.ofString "d")=(c= 100):=by rw[show Str.ofString "d" =⟨#[100]⟩by decide +kernel];simp
theorem zlR:((⟨#[c]⟩:Str)=Str.ofString "l")=(c= 108):=by rw[show Str.ofString "l" =⟨#[108]⟩by decide +kernel];simp
theorem zlS:((⟨#[c]⟩:Str)=Str.ofString "r")=(c= 114):=by rw[show Str.ofString "r" =⟨#[114]⟩by decide +kernel];simp
section
variable {bw:Addr}
theorem zk0(F:Fun K "go" "go" (top 35) f fd)(T:Txt P w K mg C bw)(ub:Cal P w K mg base 1 "at_least_one" [] (za K vG))(uc:Cal P w K mg base 1 "edges" [] (za K (sEdges C))):FnOk P w K mg base CX0 2 f fd ["state","letter","many"] (za K (zeW C)):=by
 have nd:=zgg.nd;apply F.okU zgg (by walk_at "ln") (λhr=>(zc (zY 3 nd (zo ub hr (qc (pv 2) qn))) (zc (zY 4 nd (zo uc hr (qc (pv 0) qn))) (zc (zT (zU z7 (pv 1) zS) (zb (fs K (pv 0) (yd (k6 rfl) (by rfl) T.n_max (by rfl) (QA.pa (qc (zt yO (fl K (pv 0)) (pv 3)) (qc (z9 (yn (K:=K) rfl) (pv 4) zd) qn)))))) (zb (zT (zU z7 (pv 1) zS) (zb (fs K (pv 0) (yd (uo rfl) (by rfl) T.n_min (by rfl) (QA.pa (qc (zt yc (fl K (pv 0)) (pv 3)) (qc (z9 (yn (K:=K) rfl) (pv 4) zd) qn)))))) (zb (zT (zU z7 (pv 1) zS) (zb (fs K (pv 0) (yd (k6 rfl) (by rfl) T.n_max (by rfl) (QA.pa (qc (zt yO (fl K (pv 0)) (pv 3)) (qc (z9 (yn (K:=K) rfl) (pv 4) zd) qn)))))) (zb (zT (zU z7 (pv 1) zS) (zb (fs K (pv 0) (yd (uo rfl) (by rfl) T.n_min (by rfl) (QA.pa (qc (zt yc (fl K (pv 0)) (pv 3)) (qc (z9 (yn (K:=K) rfl) (pv 4) zd) qn)))))) zX))))))) (zb (fs K (pv 0) yC))))))
 .walk_at "ref"
 rintro _ O R ⟨c,n,hc,hn,x,dx,p,st,kp,S,rfl,hs,_,h⟩;have hx:=hs.x;refine y6 [some (.own x),some (.d (.str ⟨#[c]⟩)),some (.d n),some (.d (.int (oneD n))),none] (λR1 hR1=>?_) ?_
 .walk_at "wd"
  exact⟨hn,hR1⟩
 refine y6 [some (.own x),some (.d (.str ⟨#[c]⟩)),some (.d n),some (.d (.int (oneD n))),some (.d (.tuple [.int (eT S),.int (eB S),.int (eL S),.int (eR S)]))] (λR1 hR1=>?_) ?_
 .walk_at "wd"
  exact⟨x,dx,p,st,kp,S,rfl,hs,hR1⟩
 refine ye (λρ' O'=>ρ'=[some (.own x),some (.d (.str ⟨#[c]⟩)),some (.d n),some (.d (.int (oneD n))),some (.d (.tuple [.int (eT S),.int (eB S),.int (eL S),.int (eR S)]))]/\StAt O' C x dx p st kp (goS c (oneD n) S)/\But O O' x p) (λR1 hR1=>?_) ?_
 .refine xv (c= 117) (λR4 hR4=>?_) (λe=>?_) (λe117=>?_)
  .walk_at "wd"
   simp[zlP];exact hR4
  .subst e
   walk_at "wd";walk_at "!hx zV";exact⟨_,rfl,hR1 _ _ ⟨rfl,hs.fld (S':=goS 117 (oneD n) S) rfl rfl rfl,But.ux⟩⟩
  refine xv (c= 100) (λR4 hR4=>?_) (λe=>?_) (λe100=>?_)
  .walk_at "wd"
   simp[zlQ];exact hR4
  .subst e
   walk_at "wd";walk_at "!hx zV";exact⟨_,rfl,hR1 _ _ ⟨rfl,hs.fld (S':=goS 100 (oneD n) S) rfl rfl rfl,But.ux⟩⟩
  refine xv (c= 108) (λR4 hR4=>?_) (λe=>?_) (λe108=>?_)
  .walk_at "wd"
   simp[zlR];exact hR4
  .subst e
   walk_at "wd";walk_at "!hx zV";exact⟨_,rfl,hR1 _ _ ⟨rfl,hs.fld (S':=goS 108 (oneD n) S) rfl rfl rfl,But.ux⟩⟩
  refine xv (c= 114) (λR4 hR4=>?_) (λe=>?_) (λe114=>?_)
  .walk_at "wd"
   simp[zlS];exact hR4
  .subst e
   walk_at "wd";walk_at "!hx zV";exact⟨_,rfl,hR1 _ _ ⟨rfl,hs.fld (S':=goS 114 (oneD n) S) rfl rfl rfl,But.ux⟩⟩
  rcases hc with h|h|h|h
  .exact absurd h e117
  .exact absurd h e100
  .exact absurd h e108
  .exact absurd h e114
 rintro _ O1 ⟨rfl,hs1,hb1⟩;have hx1:=hs1.x;walk_at "wd";walk_at "!hx1 zV";exact .inl (h _ (hs1.fld (S':=offS (goS c (oneD n) S)) rfl rfl rfl) (hb1.trans But.ux))
theorem zhM(F:Fun K "keep" "keep" (top 54) f fd)(T:Txt P w K mg C bw):FnOk P w K mg base CX0 1 f fd ["state"] (za K (sKeep C keepS)):=by
 apply F.okU zhE (by walk_at "ln") (λhr=>(zc (zQ (yJ (K:=K) rfl lR lX lY y7 (fl K (pv 0)) (QA.pa (qc (yb (qc (fl K (pv 0)) (qc (fl K (pv 0)) (qc (fl K (pv 0)) (qc (fl K (pv 0)) (qc (fl K (pv 0)) (qc (fl K (pv 0)) (qc (fl K (pv 0)) qn)))))))) qn)))) (zb (zT (zU YU (yd (jz (K:=K) rfl) (by rfl) T.n_len (by rfl) (QA.pa (qc (fl K (pv 0)) qn))) (qL rfl T.g_MOST_KEPT)) (zb (zQ (yJ (K:=K) rfl lR PySem.F.slot_list_pop PySem.F.type_list_pop zdP (fl K (pv 0)) (QA.pa (qc zd qn))))) zX))))
 .walk_at "ref"
 rintro _ O R ⟨x,dx,p,st,kp,S,rfl,hs,hk,h⟩;have hx:=hs.x;have hkp:=hs.kp;have hx2:∀o,updO O kp o x=some (.ins C dx (fldW p st kp S)):=λo=>by rw[ze hs.xk];exact hx
 refine ye (λρ' O'=>ρ'=[some (.own x)]/\O'=updO O kp (.lst (((S.kept++[qW S]).map kpT).map .d))) (λR1 hR1=>?_) ?_
 .walk_at "wd"
  walk_at "!hx zV";refine⟨.inl ⟨rfl,by simp[z6,hkp]⟩,_,rfl,by show 7<=1000;omega,_,?_,hR1 _ _ ⟨rfl,rfl⟩⟩;simp only[j6,hkp];rw[lg (by simp;omega)];simp[qW,kpT]
 rintro _ O1 ⟨rfl,hO1⟩;have hx1:O1 x=some (.ins C dx (fldW p st kp S)):=by rw[hO1];exact hx2 _
 have hk1:O1 kp=some (.lst (((S.kept++[qW S]).map kpT).map .d)):=by rw[hO1];exact zf
 have le:(S.kept++[qW S]).length=S.kept.length+1:=by simp
 refine xv ((8:Int)<(S.kept.length+1:Nat)) (λR4 hR4=>?_) (λh8=>?_) (λh8=>?_)
 .walk_at "wd"
  walk_at "!hx1";exact⟨S.kept.length+1,by simp only[Zc,yZ,z6,hk1];simp,hR4⟩
 .have e8:¬S.kept.length<8:=by omega
  walk_at "wd";refine⟨C,dx,_,hx1,T.st.cl,T.st.n_kept,_,zy,.inl ⟨rfl,by simp[z6,hk1]⟩,kp,rfl,_,((S.kept++[qW S]).map kpT |>.map W.d)[0]'(by simp),0,rfl,hk1,ls _,by omega,.inl ?_⟩;rw[hO1,yL];have ek:(((S.kept++[qW S]).map kpT).map W.d).eraseIdx 0 =(((S.kept.drop 1)++[qW S]).map kpT).map W.d:=by
   cases hkk:S.kept with
   |nil=>rw[hkk]at e8;simp at e8
   |cons a l=>simp
  rw[ek];have e9:keepS S= { S with kept:=S.kept.drop 1++[qW S] }:=by unfold keepS;rw[l8 e8]
  rw[e9]at h;exact h _ (hs.keptTo _) (ButO.upd (by simp))
 .have e8:S.kept.length<8:=by omega
  have e9:keepS S= { S with kept:=S.kept++[qW S] }:=by unfold keepS;rw[lg e8]
  rw[e9]at h;walk_at "wd";rw[hO1];exact .inl (h _ (hs.keptTo _) (ButO.upd (by simp)))
theorem Jl(F:Fun K "take_back" "take_back" (top 55) f fd)(T:Txt P w K mg C bw):FnOk P w K mg base CX0 1 f fd ["state"] (za K (sKeep C backS)):=by
 have nd:=ZB.nd;apply F.okU ZB (by walk_at "ln") (λhr=>(zb (zT (xL (K:=K) rfl (fl K (pv 0)) (λ_=>rfl)) (zc (zY 1 nd (Kj (K:=K) rfl lR PySem.F.slot_list_pop PySem.F.type_list_pop ziu (fl K (pv 0)))) (zc (fs K (pv 0) (z9 (yn (K:=K) rfl) (pv 1) zd)) (zc (fs K (pv 0) (z9 (yn (K:=K) rfl) (pv 1) zd)) (zc (fs K (pv 0) (z9 (yn (K:=K) rfl) (pv 1) zd)) (zc (fs K (pv 0) (z9 (yn (K:=K) rfl) (pv 1) zd)) (zc (fs K (pv 0) (z9 (yn (K:=K) rfl) (pv 1) zd)) (zc (fs K (pv 0) (z9 (yn (K:=K) rfl) (pv 1) zd)) (zb (fs K (pv 0) (z9 (yn (K:=K) rfl) (pv 1) zd)))))))))) zX)))
 .walk_at "ref"
 rintro _ O R ⟨x,dx,p,st,kp,S,rfl,hs,hk,h⟩;have hx:=hs.x;have hkp:=hs.kp;have hx2:∀o,updO O kp o x=some (.ins C dx (fldW p st kp S)):=λo=>by rw[ze hs.xk];exact hx
 cases hl:S.kept[S.kept.length-1]? with
 |none=>
  have e:S.kept=[]:=by
   cases hkk:S.kept with
   |nil=>rfl
   |cons a l=>rw[hkk]at hl;simp at hl
  have e9:backS S=S:=by unfold backS;rw[hl]
  rw[e9]at h;walk_at "wd";walk_at "!hx hkp e zV";exact .inl (h _ hs ButO.refl)
 |some k=>
  have e:¬S.kept=[]:=λe=>by rw[e]at hl;simp at hl
  have e9:backS S= { S with row:=k.row,col:=k.col,late:=k.late,ink:=k.ink,wrap:=k.wrap,putting:=k.putting,home:=k.home,kept:=S.kept.dropLast }:=by unfold backS;rw[hl]
  rw[e9]at h;refine xv (¬S.kept=[]) (λR4 hR4=>?_) (λ_=>?_) (λz=>absurd e z)
  .walk_at "wd"
   simp[hx,hkp,e,zV,and_assoc,zF,T.st.cl,T.st.n_picture,T.st.n_wide,T.st.n_high,T.st.n_row,T.st.n_column,T.st.n_late,T.st.n_ink,T.st.n_wrap,T.st.n_putting,T.st.n_home,T.st.n_top,T.st.n_bottom,T.st.n_left,T.st.n_right,T.st.n_stops,T.st.n_kept,T.st.n_last,zg,zG,zH,zL,zj,zv,zK,zw,zh,zx,zO,zm,zC,zq,zp,zy,zI,zM,zk,zz,zN,zA,zi,zD,zP,zn,zE,zr,zJ]at hR4 ⊢;exact hR4
  refine ye (λρ' O'=>ρ'=[some (.own x),some (.d (kpT k))]/\O'=updO O kp (.lst ((S.kept.dropLast.map kpT).map .d))) (λR1 hR1=>?_) ?_
  .walk_at "wd"
   walk_at "!hx hkp e hl zV";exact⟨.inl ⟨rfl,by simp[z6,hkp]⟩,hR1 _ _ ⟨rfl,by simp[List.map_dropLast]⟩⟩
  rintro _ O1 ⟨rfl,hO1⟩;have s1:StAt O1 C x dx p st kp { S with kept:=S.kept.dropLast }:=by rw[hO1];exact hs.keptTo S.kept.dropLast
  have b1:ButO O O1 [x,kp]:=by rw[hO1];exact ButO.upd (by simp)
  rw[jE s1.x];refine yj T.st.cl T.st.n_row (zM (x:=k.row)) (λ_ h=>by walk_at "wd";exact⟨_,rfl,_,rfl,h⟩) (by show 17<1000;decide) rfl ?_;refine yj T.st.cl T.st.n_column (zk (x:=k.col)) (λ_ h=>by walk_at "wd";exact⟨_,rfl,_,rfl,h⟩) (by show 17<1000;decide) rfl ?_;refine yj T.st.cl T.st.n_late (zz (x:=k.late)) (λ_ h=>by walk_at "wd";exact⟨_,rfl,_,rfl,h⟩) (by show 17<1000;decide) rfl ?_;refine yj T.st.cl T.st.n_ink (zN (x:=k.ink)) (λ_ h=>by walk_at "wd";exact⟨_,rfl,_,rfl,h⟩) (by show 17<1000;decide) rfl ?_;refine yj T.st.cl T.st.n_wrap (zA (x:=k.wrap)) (λ_ h=>by walk_at "wd";exact⟨_,rfl,_,rfl,h⟩) (by show 17<1000;decide) rfl ?_;refine yj T.st.cl T.st.n_putting (zi (x:=k.putting)) (λ_ h=>by walk_at "wd";exact⟨_,rfl,_,rfl,h⟩) (by show 17<1000;decide) rfl ?_;walk_at "wd";walk_at "!zf yL zV";refine⟨_,rfl,_,rfl,.inl ?_⟩;exact h _ (s1.fld (S':={ S with row:=k.row,col:=k.col,late:=k.late,ink:=k.ink,wrap:=k.wrap,putting:=k.putting,home:=k.home,kept:=S.kept.dropLast }) rfl rfl rfl) (b1.trans (ButO.upd (by simp)))
theorem Ue(F:Fun K "told_place" "told_place" (top 57) f fd)(T:Txt P w K mg C bw):FnOk P w K mg base CX0 1 f fd ["state"] (za K (sTold1 C plT)):=by
 have nd:=kL.nd;apply F.okU kL (by walk_at "ln") (λhr=>(zc (zY 1 nd (zt yc (fl K (pv 0)) zd)) (zc (zY 2 nd (zt yc (fl K (pv 0)) zd)) (zc (zT (yV (fl K (pv 0))) (zc (zY 1 nd (zt yO (pv 1) (fl K (pv 0)))) (zb (zY 2 nd (zt yO (pv 2) (fl K (pv 0)))))) zX) (zb (zB (Qx (pv 1) (pv 2) (by decide))))))))
 .walk_at "ref"
 rintro _ O R ⟨x,dx,p,st,kp,S,rfl,hs,hb,h⟩;have hx:=hs.x;walk_at "wd";walk_at "!hx zV";have b1:=hb.r0;have b2:=hb.r1;have b3:=hb.c0;have b4:=hb.c1;have b5:=hb.t0;have b6:=hb.tb;have b7:=hb.b1;have b8:=hb.l0;have b9:=hb.lr;have b10:=hb.rr;have b11:=hb.w2;have b12:=hb.h2;unfold plT at h;split
 .rename_i q
  rw[lg q]at h;exact⟨by omega,by omega,uk (by constructor<;>omega),by omega,by omega,uk (by constructor<;>omega),.inl (by rw[kG];exact h)⟩
 .rename_i q
  rw[l8 q]at h;exact⟨by omega,by omega,uk (by constructor<;>omega),by omega,by omega,uk (by constructor<;>omega),.inl (by rw[kG];exact h)⟩
theorem Jm(F:Fun K "told_size" "told_size" (top 58) f fd)(T:Txt P w K mg C bw):FnOk P w K mg base CX0 1 f fd ["state"] (za K (sTold1 C szT)):=by
 have nd:=ZC.nd;apply F.okU ZC (by walk_at "ln") (λhr=>(zc (zY 1 nd (fl K (pv 0))) (zc (zY 2 nd (fl K (pv 0))) (zb (zB (Qx (pv 1) (pv 2) (by decide)))))))
 .walk_at "ref"
 rintro _ O R ⟨x,dx,p,st,kp,S,rfl,hs,hb,h⟩;have hx:=hs.x;walk_at "wd";walk_at "!hx zV";have b11:=hb.w2;have b12:=hb.h2;exact⟨by omega,uk (by constructor<;>omega),by omega,uk (by constructor<;>omega),.inl (by rw[kG];exact h)⟩
theorem V4{ns:List PyData}{n:PyData}(h:ns[i]? =some n):ansL S (ns.take (i+1))=ansL S (ns.take i)++ansD S n:=by
 unfold ansL;rw[List.take_add_one,h,m9,List.flatten_append];simp
theorem zff{n:PyData}:(ansD S n).length<=1:=by
 unfold ansD
 repeat' split
 all_goals simp
theorem kH{S:ST}:∀ns:List PyData,(ansL S ns).length<=ns.length
 |[]=>by simp[ansL]
 |n::ns=>by
  have h1:=kH (S:=S) ns;have h2:=zff (S:=S) (n:=n);unfold ansL at *;simp only[lG,List.flatten_cons,lI,lL];omega
theorem zfg(F:Fun K "asked" "asked" (top 59) f fd)(T:Txt P w K mg C bw)(bp:Cal P w K mg base 1 "told_place" [] (za K (sTold1 C plT)))(bq:Cal P w K mg base 1 "told_size" [] (za K (sTold1 C szT)))(bt:Cal P w K mg base 2 "ink_text" [] (za K zgi)):FnOk P w K mg base CX0 3 f fd ["state","numbers"] (za K (sAsked C)):=by
 have nd:=Q4.nd;apply F.okU Q4 (by walk_at "ln") (λhr=>(zc (zY 2 nd (yI qn)) (zc (yW lZ rfl (vZ (K:=K) rfl (pv 1)) (zZ (i:=3) nd rfl (Or.inl rfl)) (zb (zT (PW.pt (vh (zU u8 (pv 3) yG) (vh (zU z7 (pv 3) zd) (vc (zU z7 (pv 3) zd))))) (zb (zQ (yJ (K:=K) rfl lR lX lY y7 (pv 2) (QA.pa (qc (zo bp hr (qc (pv 0) qn)) qn))))) (zb (zT (zU z7 (pv 3) zd) (zb (zQ (yJ (K:=K) rfl lR lX lY y7 (pv 2) (QA.pa (qc (zo bq hr (qc (pv 0) qn)) qn))))) (zb (zT (zU z7 (pv 3) zd) (zb (zQ (yJ (K:=K) rfl lR lX lY y7 (pv 2) (QA.pa (qc (zo bt hr (qc (fl K (pv 0)) qn)) qn))))) zX))))))) (zb (zB (pv 2))))))
 .walk_at "ref"
 rintro _ O R ⟨x,dx,p,st,kp,S,ns,rfl,nl,hns,hs,hb,h⟩;walk_at "wd";intro q hq;refine yM.by (λi ρ O'=>∃v,ρ=[some (.own x),some (.d (.tuple ns)),some (.own q),v]/\O' q=some (.lst (((ansL S (ns.take i)).map .str).map .d))/\Old O O') ⟨_,rfl,zf,Old.refl.upd hq⟩ (λ_ _ _ _=>trivial) ?_ ?_
 .rintro i wv _ O1 hw ⟨v,rfl,hq1,ho1⟩ R1 hR1
  rw[lw]at hw;cases hni:ns[i]? with
  |none=>rw[hni]at hw;cases hw
  |some n=>
   rw[hni]at hw;cases hw;have hs1:=hs.butO (ho1.butO (xs:=[])) (by simp) (by simp) (by simp) (by simp);have hx1:=hs1.x;have al:=kH (S:=S) (ns.take i);have il:i<ns.length:=(lx.1 hni).1;have e2:∀z:Str,j6 O1 (.own q) (.d (.str z))=some (updO O1 q (.lst (((ansL S (ns.take i)++[z]).map .str).map .d))):=λz=>by
    simp only[j6,hq1];rw[lg (by simp;simp at al;omega)];simp
   have ty:tyW "list" O1 (.own q):=.inl ⟨rfl,by simp[z6,hq1]⟩;have fin:∀z:Str,ansD S n=[z]->R1 [some (.own x),some (.d (.tuple ns)),some (.own q),some (.d n)] (updO O1 q (.lst (((ansL S (ns.take i)++[z]).map .str).map .d))):=λz ez=>
    hR1 _ _ ⟨_,rfl,by rw[zf,V4 hni,ez],ho1.upd hq⟩
   have non:ansD S n=[]->R1 [some (.own x),some (.d (.tuple ns)),some (.own q),some (.d n)] O1:=λez=>
    hR1 _ _ ⟨_,rfl,by rw[V4 hni,ez,lV];exact hq1,ho1⟩
   rcases(hns n (lK hni)).cs with rfl|⟨k,rfl,k0,k1⟩
   .walk_at "wd"
    exact⟨ty,x,dx,p,st,kp,S,rfl,hs1,hb,_,e2 _,fin _ rfl⟩
   .walk_at "wd"
    have pl:k= 0\/k= 1->ansD S (.int k)=[plT S]:=λz=>by simp only[ansD];rw[lg z]
    split
    .rename_i z
     exact⟨ty,x,dx,p,st,kp,S,rfl,hs1,hb,_,e2 _,fin _ (pl (.inl z))⟩
    .split
     .rename_i z
      exact⟨ty,x,dx,p,st,kp,S,rfl,hs1,hb,_,e2 _,fin _ (pl (.inr z))⟩
     .rename_i z0 z1
      split
      .rename_i z
       exact⟨ty,x,dx,p,st,kp,S,rfl,hs1,hb,_,e2 _,fin _ (by simp only[ansD];rw[l8 (by omega),lg z])⟩
      .rename_i z2
       split
       .rename_i z
        have i0:=hb.i0;have i1:=hb.i1;exact⟨ty,C,dx,_,hx1,T.st.cl,T.st.n_ink,_,zK,S.ink.toNat,by rw[Int.toNat_of_nonneg i0],by omega,_,e2 _,fin _ (by simp only[ansD];rw[l8 (by omega),l8 z2,lg z])⟩
       .rename_i z3
        exact non (by simp only[ansD];rw[l8 (by omega),l8 z2,l8 z3])
 .rintro ρ O1 ⟨v,rfl,hq1,ho1⟩
  walk_at "wd";simp at hq1;exact .inl (h q O1 hq (by simpa using hq1) ho1)
end
def Xz:SpW:=λws O R=>∃(ns:List PyData) (k:Nat),ws=[.d (.tuple ns),.d (.int k)]/\R (.d (nmA ns k)) O
inductive sInitS (cS:Addr) (ws:List W) (O:OM) (R:WK):Prop
 |mk:∀x dx z,ws=[.own x,.d (.str z)]->O x=some (.ins cS dx [])->R (.d .none) (updO O x (.ins cS dx [("sign",.d (.str z))]))->sInitS cS ws O R
inductive sInitR (cR:Addr) (ws:List W) (O:OM) (R:WK):Prop
 |mk:∀x dx z ns,ws=[.own x,.d (.str z),.d (.tuple ns)]->O x=some (.ins cR dx [])->R (.d .none) (updO O x (.ins cR dx [("letter",.d (.str z)),("numbers",.d (.tuple ns))]))->sInitR cR ws O R
section
variable {bw cD cS cL cT cR:Addr}
theorem Jn(F:Fun K "number_at" "number_at" (top 79) f fd)(T:Txt P w K mg C bw):FnOk P w K mg base CX0 1 f fd ["numbers","place"] (za K Xz):=by
 apply F.okU Jc (by walk_at "ln") (λhr=>(zb (zB (yH (zU uS (pv 1) (yd (jz (K:=K) rfl) (by rfl) T.n_len (by rfl) (QA.pa (qc (pv 0) qn)))) (z9 (yn (K:=K) rfl) (pv 0) (pv 1)) yG))))
 .walk_at "ref"
 rintro _ O R ⟨ns,k,rfl,h⟩;walk_at "wd";refine⟨ns.length,rfl,?_⟩;unfold nmA at h;rw[List.getD_eq_getElem?_getD]at h;split
 .rename_i hk
  rw[ls hk]at h;exact⟨_,uX (ls hk),.inl h⟩
 .rename_i hk
  rw[List.getElem?_eq_none (by omega)]at h;exact .inl h
theorem Jo(F:Fun K "__init__" "Sign.__init__" vK f fd)(T:Txt P w K mg C bw)(D:Dds K mg cD cS cL cT cR):FnOk P w K mg base CX0 1 f fd ["self","sign"] (za K (sInitS cS)):=by
 apply F.okU YF (by walk_at "ln") (λhr=>(zb (fs K (pv 0) (pv 1))))
 .walk_at "ref"
 rintro _ O R ⟨x,dx,z,rfl,hx,h⟩;walk_at "wd";exact⟨cS,dx,[],hx,D.k_S.cl,D.n_sign,by decide,.inl h⟩
theorem JY(F:Fun K "__init__" "Row.__init__" uf f fd)(T:Txt P w K mg C bw)(D:Dds K mg cD cS cL cT cR):FnOk P w K mg base CX0 1 f fd ["self","letter","numbers"] (za K (sInitR cR)):=by
 apply F.okU Xs (by walk_at "ln") (λhr=>(zc (fs K (pv 0) (pv 1)) (zb (fs K (pv 0) (pv 2)))))
 .walk_at "ref"
 rintro _ O R ⟨x,dx,z,ns,rfl,hx,h⟩;walk_at "wd";refine⟨cR,dx,[],hx,D.k_R.cl,D.n_letter,by decide,D.k_R.cl,D.n_numbers,?_,.inl h⟩;exact(by decide:1<1000)
theorem zbj(F:Fun K "do" "Sign.do" ZF f fd)(T:Txt P w K mg C bw)(D:Dds K mg cD cS cL cT cR)(wq:Cal P w K mg base 5 "put_sign" [] (za K (sPutSign C))):FnOk P w K mg base CX0 6 f fd ["self","state"] (za K (sDeedDo C (aS cS))):=by
 apply F.okU za7 (by walk_at "ln") (λhr=>(zc (zQ (zo wq hr (qc (pv 1) (qc (fl K (pv 0)) qn)))) (zb (zB (yI qn)))))
 .walk_at "ref"
 rintro _ O R ⟨r,n,d,x,dx,p,st,kp,S,rfl,⟨c,dd,rfl,hd⟩,hok,hn,hn6,hs,hG,h⟩;walk_at "wd";refine⟨cS,dd,_,hd,D.k_S.cl,D.n_sign,_,rfl,⟨#[c]⟩,x,dx,p,st,kp,S,rfl,hs,hG.b,λO' q1 q2 q hq=>?_⟩;have N:Nxt O O' C x dx p st kp st kp _:=.xp q1 q2;exact .inl (h q st kp _ (N.nn hq) zf (N.nk hq) (N.old (Old.up hq)))
theorem zbk(F:Fun K "do" "Line.do" ZG f fd)(T:Txt P w K mg C bw)(wn:Cal P w K mg base 4 "line_end" [] (za K (sLineE C))):FnOk P w K mg base CX0 5 f fd ["self","state"] (za K (sDeedDo C (aL cL))):=by
 apply F.okU za8 (by walk_at "ln") (λhr=>(zc (zQ (zo wn hr (qc (pv 1) qn))) (zb (zB (yI qn)))))
 .walk_at "ref"
 rintro _ O R ⟨r,n,d,x,dx,p,st,kp,S,rfl,⟨dd,rfl,hd⟩,hok,hn,hn6,hs,hG,h⟩;walk_at "wd";refine⟨x,dx,p,st,kp,S,rfl,hs,hG.b,λO' q1 q2 q hq=>?_⟩;have N:Nxt O O' C x dx p st kp st kp _:=.xp q1 q2;exact .inl (h q st kp _ (N.nn hq) zf (N.nk hq) (N.old (Old.up hq)))
theorem zdh(F:Fun K "do" "Tab.do" YG f fd)(T:Txt P w K mg C bw)(wt:Cal P w K mg base 2 "on_tab" [] (za K (Yz C tabS))):FnOk P w K mg base CX0 3 f fd ["self","state"] (za K (sDeedDo C (aT cT))):=by
 apply F.okU zdb (by walk_at "ln") (λhr=>(zc (zQ (zo wt hr (qc (pv 1) (qc zd qn)))) (zb (zB (yI qn)))))
 .walk_at "ref"
 rintro _ O R ⟨r,n,d,x,dx,p,st,kp,S,rfl,⟨dd,rfl,hd⟩,hok,hn,hn6,hs,hG,h⟩;walk_at "wd";refine⟨.int 1,⟨by decide,by decide⟩,x,dx,p,st,kp,S,rfl,hs,⟨hG.b,by have:=hG.s;omega⟩,λO' q1 q2 q hq=>?_⟩;have N:Nxt O O' C x dx p st kp st kp (tabS 1 S):=.xp q1 q2;exact .inl (h q st kp _ (N.nn hq) zf (N.nk hq) (N.old (Old.up hq)))
theorem zdi(F:Fun K "do" "Row.do" YH f fd)(T:Txt P w K mg C bw)(D:Dds K mg cD cS cL cT cR)(bu:Cal P w K mg base 3 "asked" [] (za K (sAsked C)))(ae:Cal P w K mg base 1 "number_at" [] (za K Xz))(bx:Cal P w K mg base 5 "do_without_number" [] (za K (sDo C lsA λa b ns=>[])))(bz:Cal P w K mg base 7 "do_with_one" [] (za K (sDo C lsB λa b ns=>[.d a])))(c6:Cal P w K mg base 6 "do_with_two" [] (za K (sDo C lsC λa b ns=>[.d a,.d b])))(c7:Cal P w K mg base 6 "do_with_all" [] (za K (sDo C lsD λa b ns=>[.d (.tuple ns)]))):FnOk P w K mg base CX0 8 f fd ["self","state"] (za K (sDeedDo C (aR cR))):=by
 have nd:=V0.nd;apply F.okU V0 (by walk_at "ln") (λhr=>(zc (zT (zU z7 (fl K (pv 0)) zS) (zb (zB (zo bu hr (qc (pv 1) (qc (fl K (pv 0)) qn))))) zX) (zc (zY 2 nd (zo ae hr (qc (fl K (pv 0)) (qc zd qn)))) (zc (zQ (zo bx hr (qc (pv 1) (qc (fl K (pv 0)) qn)))) (zc (zQ (zo bz hr (qc (pv 1) (qc (fl K (pv 0)) (qc (pv 2) qn))))) (zc (zQ (zo c6 hr (qc (pv 1) (qc (fl K (pv 0)) (qc (pv 2) (qc (zo ae hr (qc (fl K (pv 0)) (qc zd qn))) qn)))))) (zc (zQ (zo c7 hr (qc (pv 1) (qc (fl K (pv 0)) (qc (fl K (pv 0)) qn))))) (zb (zB (yI qn))))))))))
 .walk_at "ref"
 rintro _ O R ⟨r,n,d,x,dx,p,st,kp,S,rfl,⟨c,ns,dd,rfl,hd⟩,⟨hc,hns⟩,hn,hn6,hs,hG,h⟩;have ha:NumD (nmA ns 0):=QJ hns.n;have hb:NumD (nmA ns 1):=QJ hns.n;have hdx:d≠x:=zaX hd hs (by simp);refine zhA (y:=⟨#[c]⟩) rfl hd D.k_R.cl D.n_letter rfl (λe=>?_) (λne=>?_)
 .have e':c= 113:=by rw[show Str.ofString "q" =⟨#[113]⟩by decide +kernel,zkW]at e;exact e
  subst e';show xi K (yk 0) "numbers" [some (.own d),some (.own x),none] O (λy O2=>sAsked C [.own x,y] O2 (Clo R));refine xH (v:=.d (.tuple ns)) rfl hd D.k_R.cl D.n_numbers rfl ?_;exact⟨x,dx,p,st,kp,S,ns,rfl,hns.l,hns.n,hs,hG.b,λq O' q1 q2 q3=>.inl (h q st kp O' q1 q2 (λe=>by rw[e,hs.kp]at q1;cases q1) ((Nxt.refl hs).old q3))⟩
 have ne':c≠113:=λz=>ne (by rw[z];decide +kernel);rw[show rdA (.row c ns) S=[]from l8 ne',show rdS' (.row c ns) S=_ from l8 ne',<-zhz]at h;refine y6 [some (.own d),some (.own x),some (.d (nmA ns 0))] (λR1 hR1=>?_) ?_
 .show xi K (yk 0) "numbers" [some (.own d),some (.own x),none] O (λy O2=>Xz [y,.d (.int 0)] O2 (λv O3=>R1 [some (.own d),some (.own x),some v] O3))
  refine xH (v:=.d (.tuple ns)) rfl hd D.k_R.cl D.n_numbers rfl ?_;exact⟨ns,0,rfl,hR1⟩
 refine ye (λρ' O'=>ρ'=[some (.own d),some (.own x),some (.d (nmA ns 0))]/\∃st' kp',Nxt O O' C x dx p st kp st' kp' (opt lsA c (actS c (nmA ns 0) (nmA ns 1) ns) S)) (λR1 hR1=>?_) ?_
 .show xi K (yk 0) "letter" [some (.own d),some (.own x),some (.d (nmA ns 0))] O (λy O2=>sDo C lsA (λa b ns=>[]) [.own x,y] O2 (λ_ O3=>R1 [some (.own d),some (.own x),some (.d (nmA ns 0))] O3))
  refine xH (v:=.d (.str ⟨#[c]⟩)) rfl hd D.k_R.cl D.n_letter rfl ?_;exact⟨n,c,nmA ns 0,nmA ns 1,ns,x,dx,p,st,kp,S,rfl,by omega,hc,ha,hb,hns.n,hs,hG,λst' kp' O' N=>hR1 _ _ ⟨rfl,st',kp',N⟩⟩
 rintro _ O1 ⟨rfl,st1,kp1,N1⟩;have hd1:=N1.ins hs hd hdx;have hG1:Good (n+1) _:=hG.opt (L:=lsA) (c:=c) (b:=nmA ns 1) (ns:=ns) hn6 ha;refine ye (λρ' O'=>ρ'=[some (.own d),some (.own x),some (.d (nmA ns 0))]/\∃st' kp',Nxt O1 O' C x dx p st1 kp1 st' kp' (opt lsB c (actS c (nmA ns 0) (nmA ns 1) ns) (opt lsA c (actS c (nmA ns 0) (nmA ns 1) ns) S))) (λR1 hR1=>?_) ?_
 .show xi K (yk 0) "letter" [some (.own d),some (.own x),some (.d (nmA ns 0))] O1 (λy O2=>sDo C lsB (λa b ns=>[.d a]) [.own x,y,.d (nmA ns 0)] O2 (λ_ O3=>R1 [some (.own d),some (.own x),some (.d (nmA ns 0))] O3))
  refine xH (v:=.d (.str ⟨#[c]⟩)) rfl hd1 D.k_R.cl D.n_letter rfl ?_;exact⟨n+1,c,nmA ns 0,nmA ns 1,ns,x,dx,p,st1,kp1,_,rfl,by omega,hc,ha,hb,hns.n,N1.s,hG1,λst' kp' O' N=>hR1 _ _ ⟨rfl,st',kp',N⟩⟩
 rintro _ O2 ⟨rfl,st2,kp2,N2⟩;have hd2:=N2.ins N1.s hd1 hdx;have hG2:Good (n+1+1) _:=hG1.opt (L:=lsB) (c:=c) (b:=nmA ns 1) (ns:=ns) (by omega) ha;refine ye (λρ' O'=>ρ'=[some (.own d),some (.own x),some (.d (nmA ns 0))]/\∃st' kp',Nxt O2 O' C x dx p st2 kp2 st' kp' (opt lsC c (actS c (nmA ns 0) (nmA ns 1) ns) (opt lsB c (actS c (nmA ns 0) (nmA ns 1) ns) (opt lsA c (actS c (nmA ns 0) (nmA ns 1) ns) S)))) (λR1 hR1=>?_) ?_
 .show xi K (yk 0) "letter" [some (.own d),some (.own x),some (.d (nmA ns 0))] O2 (λy O3=>xi K (yk 0) "numbers" [some (.own d),some (.own x),some (.d (nmA ns 0))] O3 (λu O4=>Xz [u,.d (.int 1)] O4 (λb O5=>sDo C lsC (λa b ns=>[.d a,.d b]) [.own x,y,.d (nmA ns 0),b] O5 (λ_ O6=>R1 [some (.own d),some (.own x),some (.d (nmA ns 0))] O6))))
  refine xH (v:=.d (.str ⟨#[c]⟩)) rfl hd2 D.k_R.cl D.n_letter rfl ?_;refine xH (v:=.d (.tuple ns)) rfl hd2 D.k_R.cl D.n_numbers rfl ?_;exact⟨ns,1,rfl,n+1+1,c,nmA ns 0,nmA ns 1,ns,x,dx,p,st2,kp2,_,rfl,by omega,hc,ha,hb,hns.n,N2.s,hG2,λst' kp' O' N=>hR1 _ _ ⟨rfl,st',kp',N⟩⟩
 rintro _ O3 ⟨rfl,st3,kp3,N3⟩;have hd3:=N3.ins N2.s hd2 hdx;have hG3:Good (n+1+1+1) _:=hG2.opt (L:=lsC) (c:=c) (b:=nmA ns 1) (ns:=ns) (by omega) ha;refine ye (λρ' O'=>∃st' kp',Nxt O3 O' C x dx p st3 kp3 st' kp' (opt lsD c (actS c (nmA ns 0) (nmA ns 1) ns) (opt lsC c (actS c (nmA ns 0) (nmA ns 1) ns) (opt lsB c (actS c (nmA ns 0) (nmA ns 1) ns) (opt lsA c (actS c (nmA ns 0) (nmA ns 1) ns) S))))) (λR1 hR1=>?_) ?_
 .show xi K (yk 0) "letter" [some (.own d),some (.own x),some (.d (nmA ns 0))] O3 (λy O4=>xi K (yk 0) "numbers" [some (.own d),some (.own x),some (.d (nmA ns 0))] O4 (λu O5=>sDo C lsD (λa b ns=>[.d (.tuple ns)]) [.own x,y,u] O5 (λ_ O6=>R1 [some (.own d),some (.own x),some (.d (nmA ns 0))] O6)))
  refine xH (v:=.d (.str ⟨#[c]⟩)) rfl hd3 D.k_R.cl D.n_letter rfl ?_;refine xH (v:=.d (.tuple ns)) rfl hd3 D.k_R.cl D.n_numbers rfl ?_;exact⟨n+1+1+1,c,nmA ns 0,nmA ns 1,ns,x,dx,p,st3,kp3,_,rfl,by omega,hc,ha,hb,hns.n,N3.s,hG3,λst' kp' O' N=>hR1 _ _ ⟨st',kp',N⟩⟩
 rintro ρ4 O4 ⟨st4,kp4,N4⟩;have N:=(N1.trans N2).trans (N3.trans N4);refine⟨by decide,λq hq=>.inl (h q st4 kp4 _ (N.nn hq) zf (N.nk hq) (N.old (Old.up hq)))⟩
seal PE PS PSs PT PA in
theorem zbl(F:Fun K "deed_of" "deed_of" (top 89) f fd)(T:Txt P w K mg C bw)(D:Dds K mg cD cS cL cT cR)(c8:CalM P w K mg base 1 "Sign" cS (za K (sInitS cS)))(d4:CalN K mg "Line" cL)(d5:CalN K mg "Tab" cT)(cc:CalM P w K mg base 1 "Row" cR (za K (sInitR cR))):FnOk P w K mg base CX0 3 f fd ["read"] (za K (sDeedOf cS cL cT cR)):=by
 apply F.okU za9 (by walk_at "ln") (λhr=>(zc (zT (zU z7 (z9 (yn (K:=K) rfl) (pv 0) zd) zS) (zb (zB (jx c8 (hr.mono (by decide)) rfl (QA.pa (qc (z9 (yn (K:=K) rfl) (pv 0) zd) qn))))) zX) (zc (zT (zU z7 (z9 (yn (K:=K) rfl) (pv 0) zd) zS) (zb (zB (Kz d4 rfl))) zX) (zc (zT (zU z7 (z9 (yn (K:=K) rfl) (pv 0) zd) zS) (zb (zB (Kz d5 rfl))) zX) (zb (zB (jx cc (hr.mono (by decide)) rfl (QA.pa (qc (z9 (yn (K:=K) rfl) (pv 0) zd) (qc (z9 (yn (K:=K) rfl) (pv 0) zd) qn))))))))))
 .walk_at "ref"
 rintro _ O R ⟨r,rfl,hok,h⟩;cases r with
 |sign c=>
  refine vJ (y:=Str.ofString "sign") (ds:=[.str "sign",.str ⟨#[c]⟩]) rfl rfl (λ_=>?_) (λe=>absurd rfl e);show wOp Za (yk 0) (wC (.int 1)) [some (.d (.tuple [.str "sign",.str ⟨#[c]⟩]))] O (λv O1=>∀x dx,O1 x=none->sInitS cS [.own x,v] (updO O1 x (.ins cS dx [])) λw O2=>w=.d .none/\Clo R (.own x) O2);refine ze5 (e:=.str ⟨#[c]⟩) rfl rfl (λd dx hd=>?_);exact⟨d,dx,⟨#[c]⟩,rfl,zf,rfl,.inl (h d _ hd ⟨dx,zf⟩ (by rw[yL];exact Old.up hd))⟩
 |line=>
  refine vJ (y:=Str.ofString "line") (ds:=[.str "line"]) rfl rfl (λe=>absurd e (by decide +kernel)) (λ_=>?_);refine vJ (y:=Str.ofString "line") (ds:=[.str "line"]) rfl rfl (λ_=>?_) (λe=>absurd rfl e);exact λd dx hd=>.inl (h d _ hd ⟨dx,zf⟩ (Old.up hd))
 |tab=>
  refine vJ (y:=Str.ofString "tab") (ds:=[.str "tab"]) rfl rfl (λe=>absurd e (by decide +kernel)) (λ_=>?_);refine vJ (y:=Str.ofString "tab") (ds:=[.str "tab"]) rfl rfl (λe=>absurd e (by decide +kernel)) (λ_=>?_);refine vJ (y:=Str.ofString "tab") (ds:=[.str "tab"]) rfl rfl (λ_=>?_) (λe=>absurd rfl e);exact λd dx hd=>.inl (h d _ hd ⟨dx,zf⟩ (Old.up hd))
 |row c ns=>
  refine vJ (y:=Str.ofString "row") (ds:=[.str "row",.str ⟨#[c]⟩,.tuple ns]) rfl rfl (λe=>absurd e (by decide +kernel)) (λ_=>?_);refine vJ (y:=Str.ofString "row") (ds:=[.str "row",.str ⟨#[c]⟩,.tuple ns]) rfl rfl (λe=>absurd e (by decide +kernel)) (λ_=>?_);refine vJ (y:=Str.ofString "row") (ds:=[.str "row",.str ⟨#[c]⟩,.tuple ns]) rfl rfl (λe=>absurd e (by decide +kernel)) (λ_=>?_);show wOp Za (yk 0) (wC (.int 1)) [some (.d (.tuple [.str "row",.str ⟨#[c]⟩,.tuple ns]))] O (λv O1=>wOp Za (yk 0) (wC (.int 2)) [some (.d (.tuple [.str "row",.str ⟨#[c]⟩,.tuple ns]))] O1 (λu O2=>∀x dx,O2 x=none->sInitR cR [.own x,v,u] (updO O2 x (.ins cR dx [])) λw O3=>w=.d .none/\Clo R (.own x) O3));refine ze5 (e:=.str ⟨#[c]⟩) rfl rfl ?_;refine ze5 (e:=.tuple ns) rfl rfl (λd dx hd=>?_);exact⟨d,dx,⟨#[c]⟩,ns,rfl,zf,rfl,.inl (h d _ hd ⟨dx,zf⟩ (by rw[yL];exact Old.up hd))⟩
end
inductive sNum3 (ws:List W) (O:OM) (R:WK):Prop
 |mk:∀c:Int,ws=[.d (.int c)]->0<=c->(∀n,Num3 n->R (.d n) O)->sNum3 ws O R
inductive sNums3 (ws:List W) (O:OM) (R:WK):Prop
 |mk:∀c:Int,ws=[.d (.int c)]->0<=c->(∀ns,Ok3 ns->R (.d (.tuple ns)) O)->sNums3 ws O R
inductive sRow3 (ws:List W) (O:OM) (R:WK):Prop
 |mk:∀c:Int,ws=[.d (.int c)]->0<=c->(∀k ns,isLet k->Ok3 ns->R (.d (.tuple [.str ⟨#[k]⟩,.tuple ns])) O)->sRow3 ws O R
inductive sSgn3 (ws:List W) (O:OM) (R:WK):Prop
 |mk:∀k ns,ws=[.d (.str ⟨#[k]⟩),.d (.tuple ns)]->OkNs ns->R (.d (.str (rowT k ns))) O->sSgn3 ws O R
theorem zdj{L:List Nat}{P:Nat->Prop}(h:∀x∈L,P x){k:Int}(h0:0<=k)(h1:k<L.length):∃c,atI L k=some c/\P c:=by
 obtain⟨m,rfl⟩:=Int.eq_ofNat_of_zero_le h0;have hm:m<L.length:=by omega
 exact⟨L[m],uX (ls hm),h _ (List.getElem_mem hm)⟩
theorem uy{L:List PyData}{P:PyData->Prop}(h:∀x∈L,P x){k:Int}(h0:0<=k)(h1:k<L.length):∃d,atI (L.map W.d) k=some (.d d)/\P d:=by
 obtain⟨m,rfl⟩:=Int.eq_ofNat_of_zero_le h0;have hm:m<L.length:=by omega
 exact⟨L[m],uX (by rw[lw,ls hm];rfl),h _ (List.getElem_mem hm)⟩
def Dig(d:PyData):Prop:=∃i:Int,d=.int i/\0<=i/\i<10
def Pw(d:PyData):Prop:=∃i:Int,d=.int i/\0<i/\i<1000000
noncomputable instance:DecidablePred Num3:=λn=>match n with
 |.none=>isTrue trivial
 |.int i=>inferInstanceAs (Decidable (0<=i/\i<=999))
 |.bool _=>isFalse id
 |.str _=>isFalse id
 |.list _=>isFalse id
 |.tuple _=>isFalse id
 |.dict _=>isFalse id
theorem XA:vn O (.d (.list ds))=some ds:=by simp only[vn,yZ,z6,Option.bind_some,ym]
theorem zfh{q:Int}(h:∀d∈ds,Num3 d)(hl:ds.length= 6)(hq:1<=q):Ok3 (uC ds none (some q)):=by
 have e:(uC ds none (some q)).length=min q.toNat 6:=by
  unfold uC;rw[mH,mI,hl];show min ((if q<0 then(q+(6:Nat)).toNat else min q.toNat 6)-0) (6-0)=_;rw[l8 (by omega)];omega
 refine⟨λm hm=>h m ?_,by rw[e];omega,by rw[e];omega⟩;unfold uC at hm;exact List.mem_of_mem_drop (mP hm)
theorem cdv{a b:Int}(h:0<=a)(hb:0<b/\b<1000000):zdE a b:=⟨by omega,by omega⟩
section
variable {bw cD cS cL cT cR:Addr}
theorem zdk(F:Fun K "_law_at" "_law_at" (top 102) f fd)(T:Txt P w K mg C bw):FnOk P w K mg base CX0 1 f fd ["_law_script","_law_k"] (za K XZ):=by
 apply F.okU zba (by walk_at "ln") (λhr=>(zc (zT (zU uS (pv 1) (yd (jz (K:=K) rfl) (by rfl) T.n_len (by rfl) (QA.pa (qc (pv 0) qn)))) (zb (zB (z9 (yY (K:=K) rfl) (pv 0) (pv 1)))) zX) (zb (zB zd))))
 .walk_at "ref"
 rintro _ O R ⟨ns,k,rfl,h⟩;walk_at "wd";simp[Zc,yZ,z6];split
 .rename_i hk
  refine⟨_,uX (by rw[lw,ls hk];rfl),.inl ?_⟩;rw[List.getD_eq_getElem?_getD,ls hk]at h;exact h
 .rename_i hk
  rw[List.getD_eq_getElem?_getD,List.getElem?_eq_none (by omega)]at h;exact .inl h
theorem Jp(F:Fun K "_law_mixed" "_law_mixed" (top 103) f fd)(T:Txt P w K mg C bw):FnOk P w K mg base CX0 1 f fd ["_law_cell","_law_k"] (za K sMixM):=by
 have nd:=kO.nd;apply F.okU kO (by walk_at "ln") (λhr=>(zc (zY 2 nd (zt yc (zt yq (zt xt (zt yc (pv 0) zd) zd) zd) (zt xt zd (pv 1)))) (zb (zB (zt yK (zt yq (zt xt (pv 2) (zt yc zd (zt xt (zt xt zd (pv 1)) (pv 1)))) zd) zd)))))
 .walk_at "ref"
 rintro _ O R ⟨c,k,rfl,k0,k1,h⟩;walk_at "wd";have kk0:0<=k*k:=Int.mul_nonneg k0 k0;have kk1:k*k<=1000*1000:=Int.mul_le_mul k1 k1 k0 (by decide);have ea:1021*k*k= 1021*(k*k):=Int.mul_assoc _ _ _;have q1:IntMulOk ((c+11)*48271%2147483647+5*k) (16807+1021*k*k):=mulR (by omega) (by omega);have y0:=Int.emod_nonneg (((c+11)*48271%2147483647+5*k)*(16807+1021*k*k)) (show(2147483629:Int)≠0 by decide);have y1:=Int.emod_lt_of_pos (((c+11)*48271%2147483647+5*k)*(16807+1021*k*k)) (show(0:Int)<2147483629 by decide);refine⟨mulR (by decide) (by decide),mulL (by decide) (by decide),mulL (by decide) (by decide),mulR (by omega) (by omega),q1,?_⟩
 generalize((c+11)*48271%2147483647+5*k)*(16807+1021*k*k)%2147483629 =y at y0 y1 ⊢
 exact⟨⟨by omega,by omega⟩,.inl (h _ (by omega) (by omega))⟩
seal PE PS PSs PT PA in
theorem JZ(F:Fun K "_law_size" "_law_size" (top 104) f fd)(T:Txt P w K mg C bw):FnOk P w K mg base CX0 1 f fd ["_law_cell"] (za K sSizeM):=by
 have nd:=ZO.nd;apply F.okU ZO (by walk_at "ln") (λhr=>(zc (zY 1 nd (z9 (yY (K:=K) rfl) (yS (qc (zt yc zd (zt yq (pv 0) zd)) (qc (zt yc zd (zt yq (pv 0) zd)) (qc (zt yc zd (zt yq (pv 0) zd)) (qc zd qn))))) (zt yq (zt yK (pv 0) zd) zd))) (zb (zB (yb (qc (pv 1) (qc (z9 (yY (K:=K) rfl) (yS (qc (zt yc zd (zt yq (zt yK (pv 0) zd) zd)) (qc (zt yc zd (zt yq (zt yK (pv 0) zd) zd)) (qc (zt yc zd (zt yq (zt yK (pv 0) zd) zd)) qn)))) (zt yq (zt yK (pv 0) zd) zd)) qn)))))))
 .walk_at "ref"
 rintro _ O R ⟨c,rfl,c0,h⟩;walk_at "wd";obtain⟨wv,w0,w1,hwv⟩:∃wv:Nat,1<=wv/\wv<=24/\atI ([PyData.int (1+c%24),PyData.int (2+c%7),PyData.int (5+c%5),PyData.int 9].map W.d) (c / 24%4)=some (.d (.int wv)):=by
  rcases(by omega:c / 24%4=0\/c / 24%4=1\/c / 24%4=2\/c / 24%4=3)with e|e|e|e<;>rw[e]
  .exact⟨(1+c%24).toNat,by omega,by omega,by rw[show(((1+c%24).toNat:Nat):Int)= 1+c%24 by omega];rfl⟩
  .exact⟨(2+c%7).toNat,by omega,by omega,by rw[show(((2+c%7).toNat:Nat):Int)= 2+c%7 by omega];rfl⟩
  .exact⟨(5+c%5).toNat,by omega,by omega,by rw[show(((5+c%5).toNat:Nat):Int)= 5+c%5 by omega];rfl⟩
  .exact⟨9,by omega,by omega,rfl⟩
 obtain⟨hv,v0,v1,hhv⟩:∃hv:Nat,1<=hv/\hv<=12/\atI ([PyData.int (1+c / 96%12),PyData.int (1+c / 96%4),PyData.int (3+c / 96%3)].map W.d) (c / 1152%3)=some (.d (.int hv)):=by
  rcases(by omega:c / 1152%3=0\/c / 1152%3=1\/c / 1152%3=2)with e|e|e<;>rw[e]
  .exact⟨(1+c / 96%12).toNat,by omega,by omega,by rw[show(((1+c / 96%12).toNat:Nat):Int)= 1+c / 96%12 by omega];rfl⟩
  .exact⟨(1+c / 96%4).toNat,by omega,by omega,by rw[show(((1+c / 96%4).toNat:Nat):Int)= 1+c / 96%4 by omega];rfl⟩
  .exact⟨(3+c / 96%3).toNat,by omega,by omega,by rw[show(((3+c / 96%3).toNat:Nat):Int)= 3+c / 96%3 by omega];rfl⟩
 exact⟨⟨by omega,by omega⟩,_,rfl,_,hwv,⟨by omega,by omega⟩,⟨by omega,by omega⟩,_,rfl,_,hhv,_,rfl,by show 2<=1000;omega,.inl (h wv hv w0 w1 v0 v1)⟩
seal PE PS PSs PT PA in
theorem Uf(F:Fun K "_law_number" "_law_number" (top 105) f fd)(T:Txt P w K mg C bw):FnOk P w K mg base CX0 1 f fd ["_law_cell"] (za K sNum3):=by
 apply F.okU Vl (by walk_at "ln") (λhr=>(zb (zB (z9 (yY (K:=K) rfl) (uY rfl) (zt yq (pv 0) zd)))))
 .walk_at "ref"
 rintro _ O R ⟨c,rfl,c0,h⟩;walk_at "wd";obtain⟨d,e1,e2⟩:=uy (L:=[.none,.int 0,.int 1,.int 2,.int 3,.int 5,.int 9,.int 4,.int 7,.int 12,.int 1,.int 2,.int 25,.int 999,.int 6,.int 13]) (P:=Num3) (by decide) (k:=c%16) (by omega) (by show c%16<16;omega);exact⟨_,rfl,_,e1,.inl (h d e2)⟩
seal PE PS PSs PT PA in
theorem Vq(F:Fun K "_law_numbers" "_law_numbers" (top 106) f fd)(T:Txt P w K mg C bw)(ce:Cal P w K mg base 1 "_law_number" [] (za K sNum3)):FnOk P w K mg base CX0 2 f fd ["_law_mixed_here"] (za K sNums3):=by
  have nd:=qR.nd;apply F.okU qR (by walk_at "ln") (λhr=>(zc (zY 1 nd (zt yc zd (zt xt (zt yq (zt yK (pv 0) zd) zd) (zt yq (zt yK (pv 0) zd) zd)))) (zb (zB (yQ (Zf (K:=K) rfl) (by rfl) T.n_tuple rfl (QA.pa (qc (jD (xf (N:=["_law_k","_law_mixed_here"]) (n:=1) (js:=[0])) rfl (xw rfl T.n_range (QA.pa (qc (pv 1) qn))) (λ_ _ _ _=>(zZ (i:=0) (show List.Nodup (["_law_k","_law_mixed_here"]:List Str)by decide +kernel) rfl (Or.inl rfl))) (λ_ _ _ _=>yy) (λ_ _ _ _=>(zo ce hr (qc (zt yK (pv 1) (z9 (yY (K:=K) rfl) (yS (qc zd (qc zd (qc zd (qc zd qn))))) (pv 0))) qn)))) qn)))))))
  · walk_at "ref"
  rintro _ O R ⟨c,rfl,c0,h⟩;walk_at "wd";obtain⟨q,hq,q1,q4⟩:∃q:Int,1+c / 65536%4*(c / 262144%2)=q/\1<=q/\q<=4:=by
    rcases(by omega:c / 262144%2=0\/c / 262144%2=1)with e|e<;>rw[e]<;>exact⟨_,rfl,by omega,by omega⟩
  refine⟨cdv c0 (by decide),cdv c0 (by decide),mulR (by omega) (by omega),?_⟩;rw[hq];refine⟨by omega,by omega,by omega,Num3,λa ha us hus=>?_,λds h1 h2=>?_⟩
  · match us,hus with
    |[u],_=>
      obtain⟨d,e1,i,rfl,i0⟩:=uy (L:=[.int 1,.int 16,.int 256,.int 4096]) (P:=Pw) (fun x hx=>by
        simp only[lm,lD,m6]at hx;rcases hx with rfl|rfl|rfl|rfl<;>exact⟨_,rfl,by decide,by decide⟩) (k:=(a:Int)) (by omega) (by show(a:Int)<4;omega)
      exact⟨rfl,rfl,_,rfl,_,e1,cdv c0 i0,c / i,rfl,Int.ediv_nonneg c0 (Int.le_of_lt i0.1),λn hn=>⟨rfl,n,rfl,hn⟩⟩
  · exact⟨ds,XA,.inl (h ds ⟨h2,by omega,by omega⟩)⟩
seal PE PS PSs PT PA in
theorem zbm(F:Fun K "_law_row" "_law_row" (top 107) f fd)(T:Txt P w K mg C bw)(cf:Cal P w K mg base 2 "_law_numbers" [] (za K sNums3)):FnOk P w K mg base CX0 3 f fd ["_law_mixed_here"] (za K sRow3):=by
  have nd:=Yo.nd;apply F.okU Yo (by walk_at "ln") (λhr=>(zc (zY 1 nd (z9 zbK zS (zt yq (pv 0) zd))) (zc (zY 2 nd (zt yK (pv 0) zd)) (zc (zY 3 nd (zo cf hr (qc (pv 2) qn))) (zc (zcD (i:=4) nd rfl rfl (xf (N:=["_law_k","_law_more"]) (n:=1) (js:=[2])) rfl (xw rfl T.n_range (QA.pa (qc zd qn))) (λ_ _ _ _=>(zZ (i:=0) (show List.Nodup (["_law_k","_law_more"]:List Str)by decide +kernel) rfl (Or.inl rfl))) (λ_ _ _ _=>yy) (λ_ _ _ _=>(zt yq (zt yK (pv 1) (z9 (yY (K:=K) rfl) (yS (qc zd (qc zd (qc zd (qc zd (qc zd (qc zd qn))))))) (pv 0))) zd))) (zc (zT (zU z7 (pv 1) zS) (zb (zY 3 nd (yQ (Zf (K:=K) rfl) (by rfl) T.n_tuple rfl (QA.pa (qc (vV (Y1 (K:=K) rfl) (jD (xf (N:=["_law_k"]) (n:=1) (js:=[])) rfl (yP (K:=K) rfl (pv 4)) (λ_ _ _ _=>(zZ (i:=0) (show List.Nodup (["_law_k"]:List Str)by decide +kernel) rfl (Or.inl rfl))) (λ_ _ _ _=>yy) (λ_ _ _ _=>(z9 (yY (K:=K) rfl) (uY rfl) (pv 0)))) Z0 (vx (zt yc zd (zt yq (pv 0) zd)))) qn))))) zX) (zc (zT (vR k5 (pv 1) zS (by with_unfolding_all rfl)) (zb (zY 3 nd (yQ (Zf (K:=K) rfl) (by rfl) T.n_tuple rfl (QA.pa (qc (vV (Y1 (K:=K) rfl) (jD (xf (N:=["_law_k"]) (n:=1) (js:=[])) rfl (yP (K:=K) rfl (pv 4)) (λ_ _ _ _=>(zZ (i:=0) (show List.Nodup (["_law_k"]:List Str)by decide +kernel) rfl (Or.inl rfl))) (λ_ _ _ _=>yy) (λ_ _ _ _=>(z9 (yY (K:=K) rfl) (uY rfl) (pv 0)))) Z0 (vx (zt yc zd (zt yq (pv 0) zd)))) qn))))) zX) (zc (zT (vR k5 (pv 1) zS (by with_unfolding_all rfl)) (zb (zY 3 nd (yQ (Zf (K:=K) rfl) (by rfl) T.n_tuple rfl (QA.pa (qc (vV (Y1 (K:=K) rfl) (jD (xf (N:=["_law_k"]) (n:=1) (js:=[])) rfl (yP (K:=K) rfl (pv 4)) (λ_ _ _ _=>(zZ (i:=0) (show List.Nodup (["_law_k"]:List Str)by decide +kernel) rfl (Or.inl rfl))) (λ_ _ _ _=>yy) (λ_ _ _ _=>(z9 (yY (K:=K) rfl) (uY rfl) (pv 0)))) Z0 (vx (zt yc zd (zt yq (pv 0) zd)))) qn))))) zX) (zc (zT (PW.pt (YT (vR k5 (pv 1) zS (by with_unfolding_all rfl)) (ZV (zU YU (zt yq (pv 2) zd) zd)))) (zb (zY 3 nd (yb (qc (zt yc zd (zt yq (pv 2) zd)) (qc (zt yc zd (zt yq (zt yK (pv 2) zd) zd)) qn))))) zX) (zc (zT (zU z7 (pv 1) zS) (zb (zY 3 nd (yb (qc (z9 (yY (K:=K) rfl) (yS (qc zd (qc zd (qc zd (qc zd (qc zd (qc yG qn))))))) (zt yq (pv 2) zd)) qn)))) zX) (zb (zB (yb (qc (pv 1) (qc (pv 3) qn)))))))))))))))
  · walk_at "ref"
  rintro _ O R ⟨n,rfl,n0,h⟩;refine ye (λρ' O'=>∃c,isLet c/\ρ'=[some (.d (.int n)),some (.d (.str ⟨#[c]⟩)),none,none,none]/\O=O') (λR1 hR1=>?_) ?_
  · walk_at "wd"
    obtain⟨c,e1,e2⟩:=zdj (L:=(Str.ofString "udlrhgyYtTUmMRDikSsxewpcofvzZqgrdcowmMcpvzi").cps.toList) (P:=isLet) (by decide +kernel) (k:=n%43) (by omega) (by rw[show(Str.ofString "udlrhgyYtTUmMRDikSsxewpcofvzZqgrdcowmMcpvzi").cps.toList.length= 43 by decide +kernel];omega);exact⟨by rw[lS];decide +kernel,c,e1,hR1 _ _ ⟨c,e2,rfl,rfl⟩⟩
  rintro _ _ ⟨c,hc,rfl,rfl⟩;refine ye (λρ' O'=>∃m:Int,0<=m/\ρ'=[some (.d (.int n)),some (.d (.str ⟨#[c]⟩)),some (.d (.int m)),none,none]/\O=O') (λR1 hR1=>?_) ?_
  · walk_at "wd"
    exact⟨cdv n0 (by decide),hR1 _ _ ⟨n / 43,by omega,rfl,rfl⟩⟩
  rintro _ _ ⟨m,m0,rfl,rfl⟩;refine ye (λρ' O'=>∃ns,Ok3 ns/\ρ'=[some (.d (.int n)),some (.d (.str ⟨#[c]⟩)),some (.d (.int m)),some (.d (.tuple ns)),none]/\O=O') (λR1 hR1=>?_) ?_
  · walk_at "wd"
    exact⟨m,rfl,m0,λns hns=>hR1 _ _ ⟨ns,hns,rfl,rfl⟩⟩
  rintro _ _ ⟨ns,hns,rfl,rfl⟩;refine ye (λρ' O'=>∃ts:List PyData,ts.length= 6/\(∀t∈ts,Dig t)/\ρ'=[some (.d (.int n)),some (.d (.str ⟨#[c]⟩)),some (.d (.int m)),some (.d (.tuple ns)),some (.d (.list ts))]/\O=O') (λR1 hR1=>?_) ?_
  · walk_at "wd"
    refine⟨Dig,λa ha us hus=>?_,λds h1 h2=>hR1 _ _ ⟨ds,h1,h2,rfl,rfl⟩⟩
    match us,hus with
    |[u],_=>
      obtain⟨d,e1,i,rfl,i0⟩:=uy (L:=[.int 1,.int 10,.int 100,.int 1000,.int 10000,.int 100000]) (P:=Pw) (fun x hx=>by
        simp only[lm,lD,m6]at hx;rcases hx with rfl|rfl|rfl|rfl|rfl|rfl<;>exact⟨_,rfl,by decide,by decide⟩) (k:=(a:Int)) (by omega) (by show(a:Int)<6;exact ha)
      exact⟨rfl,rfl,_,rfl,_,e1,cdv m0 i0,m / i%10,rfl,by omega,by omega⟩
  rintro _ _ ⟨ts,tl,hts,rfl,rfl⟩;refine ye (λρ' O'=>∃ns,Ok3 ns/\ρ'=[some (.d (.int n)),some (.d (.str ⟨#[c]⟩)),some (.d (.int m)),some (.d (.tuple ns)),some (.d (.list ts))]/\O=O') (λR1 hR1=>?_) ?_
  · walk_at "wd"
    split
    · refine⟨_,rfl,by rw[l6];omega,Num3,λw hw us hus=>?_,λds h1 h2=>?_⟩
      · obtain⟨t,ht,rfl⟩:=lJ.1 hw
        obtain⟨i,rfl,i0,i1⟩:=hts t ht
        match us,hus with
        |[u],_=>
          obtain⟨d,e1,e2⟩:=uy (L:=[.int 1,.int 2,.int 3,.int 10,.int 21,.int 7,.int 0,.int 13,.int 24,.int 5]) (P:=Num3) (by decide) (k:=i) i0 i1;exact⟨rfl,rfl,_,rfl,_,e1,d,rfl,e2⟩
      · rw[l6]at h1
        exact⟨_,rfl,_,ym _,_,XA,hR1 _ _ ⟨_,zfh h2 (h1.trans tl) (by omega),rfl,rfl⟩⟩
    · exact hR1 _ _ ⟨ns,hns,rfl,rfl⟩
  rintro _ _ ⟨ns,hns,rfl,rfl⟩;refine ye (λρ' O'=>∃ns,Ok3 ns/\ρ'=[some (.d (.int n)),some (.d (.str ⟨#[c]⟩)),some (.d (.int m)),some (.d (.tuple ns)),some (.d (.list ts))]/\O=O') (λR1 hR1=>?_) ?_
  · walk_at "wd"
    split
    · refine⟨_,rfl,by rw[l6];omega,Num3,λw hw us hus=>?_,λds h1 h2=>?_⟩
      · obtain⟨t,ht,rfl⟩:=lJ.1 hw
        obtain⟨i,rfl,i0,i1⟩:=hts t ht
        match us,hus with
        |[u],_=>
          obtain⟨d,e1,e2⟩:=uy (L:=[.int 1,.int 2,.int 3,.int 2,.int 1,.int 3,.none,.int 0,.int 1,.int 2]) (P:=Num3) (by decide) (k:=i) i0 i1;exact⟨rfl,rfl,_,rfl,_,e1,d,rfl,e2⟩
      · rw[l6]at h1
        exact⟨_,rfl,_,ym _,_,XA,hR1 _ _ ⟨_,zfh h2 (h1.trans tl) (by omega),rfl,rfl⟩⟩
    · exact hR1 _ _ ⟨ns,hns,rfl,rfl⟩
  rintro _ _ ⟨ns,hns,rfl,rfl⟩;refine ye (λρ' O'=>∃ns,Ok3 ns/\ρ'=[some (.d (.int n)),some (.d (.str ⟨#[c]⟩)),some (.d (.int m)),some (.d (.tuple ns)),some (.d (.list ts))]/\O=O') (λR1 hR1=>?_) ?_
  · walk_at "wd"
    split
    · refine⟨_,rfl,by rw[l6];omega,Num3,λw hw us hus=>?_,λds h1 h2=>?_⟩
      · obtain⟨t,ht,rfl⟩:=lJ.1 hw
        obtain⟨i,rfl,i0,i1⟩:=hts t ht
        match us,hus with
        |[u],_=>
          obtain⟨d,e1,e2⟩:=uy (L:=[.none,.int 0,.int 1,.int 2,.int 3,.int 4,.int 5,.int 1,.int 3,.int 6]) (P:=Num3) (by decide) (k:=i) i0 i1;exact⟨rfl,rfl,_,rfl,_,e1,d,rfl,e2⟩
      · rw[l6]at h1
        exact⟨_,rfl,_,ym _,_,XA,hR1 _ _ ⟨_,zfh h2 (h1.trans tl) (by omega),rfl,rfl⟩⟩
    · exact hR1 _ _ ⟨ns,hns,rfl,rfl⟩
  rintro _ _ ⟨ns,hns,rfl,rfl⟩;refine ye (λρ' O'=>∃ns,Ok3 ns/\ρ'=[some (.d (.int n)),some (.d (.str ⟨#[c]⟩)),some (.d (.int m)),some (.d (.tuple ns)),some (.d (.list ts))]/\O=O') (λR1 hR1=>?_) ?_
  · walk_at "wd"
    split
    · refine⟨cdv m0 (by decide),hR1 _ _ ⟨[.int (1+m%6),.int (1+m / 6%12)],⟨λx hx=>?_,(by decide:2<=6),(by decide:1<=2)⟩,rfl,rfl⟩⟩
      simp only[lm,lD,m6]at hx;rcases hx with rfl|rfl
      · exact⟨by omega,by omega⟩
      · exact⟨by omega,by omega⟩
    · exact hR1 _ _ ⟨ns,hns,rfl,rfl⟩
  rintro _ _ ⟨ns,hns,rfl,rfl⟩;refine ye (λρ' O'=>∃ns,Ok3 ns/\ρ'=[some (.d (.int n)),some (.d (.str ⟨#[c]⟩)),some (.d (.int m)),some (.d (.tuple ns)),some (.d (.list ts))]/\O=O') (λR1 hR1=>?_) ?_
  · walk_at "wd"
    split
    · obtain⟨d,e1,e2⟩:=uy (L:=[.int 1,.int 2,.int 5,.int 9,.int 30,.none]) (P:=Num3) (by decide) (k:=m%6) (by omega) (by show m%6<6;omega)
      refine⟨_,rfl,_,e1,_,rfl,(by decide:1<=1000),hR1 _ _ ⟨[d],⟨λx hx=>?_,(by decide:1<=6),(by decide:1<=1)⟩,rfl,rfl⟩⟩;cases lh.mp hx;exact e2
    · exact hR1 _ _ ⟨ns,hns,rfl,rfl⟩
  rintro _ _ ⟨ns,hns,rfl,rfl⟩;walk_at "wd";exact .inl (h c ns hc hns)
theorem Jq(F:Fun K "_law_signs" "_law_signs" (top 108) f fd)(T:Txt P w K mg C bw):FnOk P w K mg base CX0 1 f fd ["_law_letter","_law_numbers_here"] (za K sSgn3):=by
 have nd:=kP.nd;apply F.okU kP (by walk_at "ln") (λhr=>(zc (qf (i:=2) nd rfl rfl (xf (N:=["_law_number_here"]) (n:=1) (js:=[])) rfl (vZ (K:=K) rfl (pv 1)) (λ_ _ _ _=>(zZ (i:=0) (show List.Nodup (["_law_number_here"]:List Str)by decide +kernel) rfl (Or.inl rfl))) (λ_ _ _ _=>yy) (λ_ _ _ _=>(yH (zU u8 (pv 0) yG) zS (yQ zcH (by rfl) T.n_str rfl (QA.pa (qc (pv 0) qn)))))) (zb (zB (zt YW (zt YW zS (yJ (K:=K) rfl mB PySem.F.slot_str_join PySem.F.type_str_join (jB (K:=K) rfl) zS (QA.pa (qc (pv 2) qn)))) (pv 0))))))
 .walk_at "ref"
 rintro _ O R ⟨k,ns,rfl,hns,h⟩;have hl:=hns.l;have hsum:=YB hns.n;walk_at "wd";refine⟨by omega,zjY,λm hm us hu=>?_,.inr (.inl ⟨rfl,_,rfl⟩),?_⟩
 .match us,hu with
  |[u],_=>
   have q:=hns.n m hm;cases m with
   |none=>exact⟨rfl,rfl,rfl⟩
   |int i=>exact⟨rfl,rfl,i,rfl,by have:=q.1;omega,by have:=q.2;omega,rfl⟩
   |_=>exact q.elim
 rw[VU hns.n];have jl:=zc2 hns;have l1:(Str.ofString "~").length= 1:=by decide +kernel
 refine⟨ns.map numT,QK _,by decide +kernel,by rw[l6];omega,by rw[lS];omega,?_,.inl h⟩;have l3:(Str.ofString "~" ++ Txt.join (Str.ofString ";") (ns.map numT)).length=(Str.ofString "~").length+(Txt.join (Str.ofString ";") (ns.map numT)).length:=by
  rw[xu,xn,lI];rfl
 have l2:(⟨#[k]⟩:Str).length= 1:=rfl;rw[l3,lS,l2];omega
end
structure TxtR (K:W.Frag) (mg:Str->Option Value) (C:Addr):Prop where
 n_len:mg "len" =none
 n_int:mg "int" =none
 n_any:mg "any" =none
 n_tuple:mg "tuple" =none
 g_MOST_NUMBERS:∃t,mg "MOST_NUMBERS" =some (.int 6 t)
 g_MOST_FIGURES:∃t,mg "MOST_FIGURES" =some (.int 3 t)
 g_OPENING:∃t,mg "OPENING" =some (.str "~" t)
 mgC:mg "Reader" =some (.ref C)
 st:Rdr K C
theorem zdl(F:Fun K "parted" "parted" (top 96) f fd)(T:TxtR K mg C):FnOk P w K mg base CX0 1 f fd ["body"] (za K zcC):=by
  have nd:=V1.nd;apply F.okU V1 (by walk_at "ln") (λhr=>(zc (zY 1 nd (yJ (K:=K) rfl mB PySem.F.slot_str_split PySem.F.type_str_split zeD (pv 0) (QA.pa (qc zS qn)))) (zc (zT (PW.pt (vh (zU YU (yd (jz (K:=K) rfl) (by rfl) T.n_len (by rfl) (QA.pa (qc (pv 1) qn))) (qL rfl T.g_MOST_NUMBERS)) (vc (yV (yd (zjk (K:=K) rfl rfl) (by rfl) T.n_any (by rfl) (QA.pa (qc (vE (xf (N:=["part"]) (n:=1) (js:=[])) rfl (yP (K:=K) rfl (pv 1)) (λ_ _ _ _=>(zZ (i:=0) (show List.Nodup (["part"]:List Str)by decide +kernel) rfl (Or.inl rfl))) (λ_ _ _ _=>yy) (λ_ _ _ _=>(Xi YU (yd qe (by rfl) T.n_len (by rfl) (QA.pa (qc (pv 0) qn))) (qL rfl T.g_MOST_FIGURES)))) qn))))))) (zb (zB yG)) zX) (zb (zB (yQ (Zf (K:=K) rfl) (by rfl) T.n_tuple rfl (QA.pa (qc (vE (xf (N:=["part"]) (n:=1) (js:=[])) rfl (yP (K:=K) rfl (pv 1)) (λ_ _ _ _=>(zZ (i:=0) (show List.Nodup (["part"]:List Str)by decide +kernel) rfl (Or.inl rfl))) (λ_ _ _ _=>yy) (λ_ _ _ _=>(yH (xL (K:=K) rfl (pv 0) (λ_=>rfl)) (yQ zcv (by rfl) T.n_int rfl (QA.pa (qc (pv 0) qn))) yG))) qn))))))))
  · walk_at "ref"
  rintro _ O R ⟨z,rfl,hz,h⟩;have hsp:=PyProof.Rows.split_le z xZ;have es:Str.ofString ";" =xZ:=rfl;have hz1:=hz.1;refine y6 [some (.d (.str z)),some (.d (.list ((Txt.split z xZ).map .str)))] (λR1 hR1=>?_) ?_
  · walk_at "wd"
    refine⟨.inr (.inl ⟨rfl,_,rfl⟩),?_⟩;rw[es];exact⟨by decide,by omega,hR1⟩
  have hw:=JH z;have hok:∀p∈Txt.split z xZ,okD p/\p.length<=100000:=λp hp=>zeP hz hp;have hpd:vk z=kd ((Txt.split z xZ).map (·.cps.toList)):=by unfold vk;rw[hw]
  rw[hpd]at h
  generalize Txt.split z xZ=ps at *
  have e1:(ps.map PyData.str).map W.d=ps.map λp=>W.d (.str p):=by rw[lM];rfl
  have mem:∀{w:W},w∈(ps.map PyData.str).map W.d->∃p∈ps,w=.d (.str p):=λ{w} hw=>by
    rw[e1]at hw;obtain⟨p,hp,rfl⟩:=lJ.1 hw;exact⟨p,hp,rfl⟩
  walk_at "wd";refine⟨ps.length,by simp[Zc,yZ,z6],?_⟩;by_cases h6:6<ps.length
  · rw[lg (by omega)]
    have h0:=h;unfold kd at h0;rw[lg (.inl (by simpa using h6))]at h0;exact .inl h0
  rw[l8 (by omega)];refine⟨_,rfl,by simp;omega,λv=>match v with|.d (.str p)=>some (.bool (decide (3<(p.length:Int))))|_=>none,?_,ps.map (λp=>decide (3<(p.length:Int))),?_,?_⟩
  · intro w hw us hu
    obtain⟨u,rfl⟩:=mC.1 hu;obtain⟨p,hp,rfl⟩:=mem hw;exact⟨rfl,rfl,p,rfl,by have:=(hok p hp).2;rw[lS];omega,rfl⟩
  · rw[e1,Qo ps _ _ (λp=>.bool (decide (3<(p.length:Int)))) (λ_=>rfl)]
    show some (List.map W.d _)=_;rw[lM,lM];rfl
  split
  · rename_i ht
    obtain⟨p,hp,e⟩:=lJ.1 ht;have h0:=h;unfold kd at h0;rw[lg (.inr (List.any_eq_true.mpr ⟨p.cps.toList,lJ.2 ⟨p,hp,rfl⟩,by have:=mf e;rw[<-xu];exact lQ (by omega)⟩))]at h0;exact .inl h0
  · rename_i ht
    have hs:∀p∈ps,p.length<=3:=λp hp=>by
      rcases Nat.lt_or_ge 3 p.length with z|z
      · exact absurd (lJ.2 ⟨p,hp,lQ (by omega)⟩) ht
      · exact z
    have h0:=h;unfold kd at h0;rw [l8 (by
      rintro(z|z)
      · exact h6 (by simpa using z)
      · obtain⟨w,hw,e⟩:=List.any_eq_true.mp z
        obtain⟨p,hp,rfl⟩:=lJ.1 hw;have:=hs p hp;have:=mf e;rw[<-xu]at this;omega)]at h0
    refine⟨_,rfl,by simp;omega,λv=>match v with|.d (.str p)=>some (uD p.cps.toList)|_=>none,?_,?_⟩
    · intro w hw us hu
      obtain⟨u,rfl⟩:=mC.1 hu;obtain⟨p,hp,rfl⟩:=mem hw;obtain⟨hd,hl⟩:=hok p hp;have hls:p.length<=sizeLine:=by rw[lS];omega
      have hs3:=hs p hp;refine⟨rfl,rfl,?_⟩;by_cases hp0:p.cps.toList=[]
      · have z0:p.length= 0:=by rw[xu,hp0];rfl
        refine .inl ⟨?_,hls,?_⟩
        · show some (p.length != 0)=some false
          rw[z0];rfl
        · show some (W.d PyData.none)=some (W.d (uD p.cps.toList))
          unfold uD;rw[lg hp0]
      · have z0:p.length≠0:=λe=>hp0 (List.length_eq_zero_iff.mp (by rw[<-xu];exact e))
        have hn:=PySem.intText_digits (x:=p) hd hp0 (by omega);refine .inr ⟨?_,hls,?_⟩
        · show some (p.length != 0)=some true
          simp[z0]
        · refine⟨p,rfl,_,hn,by omega,?_⟩
          show some (W.d (PyData.int _))=some (W.d (uD p.cps.toList));unfold uD;rw[l8 hp0]
    · refine⟨ps.map λp=>uD p.cps.toList,?_,?_⟩
      · rw[e1,Qo ps _ _ (λp=>uD p.cps.toList) (λ_=>rfl)]
        simp only[vn,yZ,z6,Option.bind_some,ym]
      · rw[lM]at h0
        exact .inl h0
theorem Jr(F:Fun K "is_figure" "is_figure" (top 94) f fd)(T:TxtR K mg C):FnOk P w K mg base CX0 1 f fd ["sign"] (za K zf9):=by
 have nd:=ZI.nd;apply F.okU ZI (by walk_at "ln") (λhr=>(zb (zB (vS vB vB zS (pv 0) zS))))
 .walk_at "ref"
 rintro _ O R ⟨c,rfl,h⟩;have c0:(Str.ofString "0").cps= #[48]:=by decide +kernel
 have c9:(Str.ofString "9").cps= #[57]:=by decide +kernel
 walk_at "wd";rw[c0,c9];simp only[leA,ltA];by_cases q:48<=c
 .rw[lg q,show(!decide (57<c))=decide (vm c)by unfold vm;by_cases z:57<c<;>simp[z,q]<;>omega]
  exact .inl h
 .rw[l8 q,show false=decide (vm c)from(m5 λz=>by have:=z.1;omega).symm]
  exact .inl h
theorem Js(F:Fun K "is_letter" "is_letter" (top 95) f fd)(T:TxtR K mg C):FnOk P w K mg base CX0 1 f fd ["sign"] (za K zf8):=by
 have nd:=ZJ.nd;apply F.okU ZJ (by walk_at "ln") (λhr=>(zb (zB (zkc (vS vB vB zS (pv 0) zS) (kW (vS vB vB zS (pv 0) zS))))))
 .walk_at "ref"
 rintro _ O R ⟨c,rfl,h⟩;have ca:(Str.ofString "a").cps= #[97]:=by decide +kernel
 have cz:(Str.ofString "z").cps= #[122]:=by decide +kernel
 have cA':(Str.ofString "A").cps= #[65]:=by decide +kernel
 have cZ:(Str.ofString "Z").cps= #[90]:=by decide +kernel
 walk_at "wd";rw[ca,cz,cA',cZ];simp only[leA,ltA];have fin:∀k:Bool,k=decide (isLet c)->Clo R (.d (.bool k)) O:=λk e=>.inl (by rw[e];exact h);by_cases q:97<=c
 .rw[lg q]
  by_cases q2:122<c
  .refine .inl ⟨q2,?_⟩
   rw[lg (by omega)];exact fin _ (by rw[lQ (show 90<c by omega)];exact(m5 λz=>by rcases z with z|z<;>omega).symm)
  .exact .inr ⟨by omega,fin _ (lQ (Or.inl ⟨q,by omega⟩)).symm⟩
 .rw[l8 q]
  by_cases q2:65<=c
  .rw[lg q2]
   by_cases z:90<c
   .exact fin _ (by rw[lQ z];exact(m5 λz=>by rcases z with z|z<;>omega).symm)
   .exact fin _ (by rw[m5 z];exact(lQ (Or.inr ⟨q2,by omega⟩)).symm)
  .rw[l8 q2]
   exact fin _ (m5 λz=>by rcases z with z|z<;>omega).symm
theorem Ug(F:Fun K "sign_alone" "sign_alone" (top 97) f fd)(T:TxtR K mg C):FnOk P w K mg base CX0 1 f fd ["sign"] (za K X3):=by
 have nd:=kN.nd;apply F.okU kN (by walk_at "ln") (λhr=>(zc (zT (zU z7 (pv 0) zS) (zb (zB (yb (qc zS qn)))) zX) (zc (zT (zU z7 (pv 0) zS) (zb (zB (yb (qc zS qn)))) zX) (zb (zB (yb (qc zS (qc (pv 0) qn))))))))
 .walk_at "ref"
 rintro _ O R ⟨c,rfl,h⟩;have en:Str.ofString "\n" =⟨#[10]⟩:=by decide +kernel
 have et:Str.ofString "\t" =⟨#[9]⟩:=by decide +kernel
 walk_at "wd";unfold uu at h;rw[en,et];simp only[Qu];by_cases q:c= 10
 .rw[lg q]at h ⊢;exact .inl h
 .rw[l8 q]at h ⊢
  by_cases q2:c= 9
  .rw[lg q2]at h ⊢;exact .inl h
  .rw[l8 q2]at h ⊢;exact .inl h
theorem Vr(F:Fun K "__init__" "Reader.__init__" x4 f fd)(T:TxtR K mg C):FnOk P w K mg base CX0 1 f fd ["self"] (za K (Qs C)):=by
 have nd:=uv.nd;apply F.okU uv (by walk_at "ln") (λhr=>(zb (fs K (pv 0) (yI qn))))
 .walk_at "ref"
 rintro _ O R ⟨x,dx,rfl,hx,h⟩;walk_at "wd";intro p hp;have e1:p≠x:=λe=>by rw[e,hx]at hp;cases hp
 refine⟨C,dx,[],by rw[ze (Ne.symm e1)];exact hx,T.st.cl,T.st.n_begun,by decide,.inl (h p _ hp ⟨zf,by rw[ze e1,zf];rfl⟩ λa ha hpp=>by rw[ze ha,ze hpp])⟩
theorem ZR(F:Fun K "open_row" "Reader.open_row" x5 f fd)(T:TxtR K mg C):FnOk P w K mg base CX0 1 f fd ["self"] (za K (Zl C)):=by
 have nd:=uw.nd;apply F.okU uw (by walk_at "ln") (λhr=>(zb (zB (yJ (K:=K) rfl mB PySem.F.slot_str_join PySem.F.type_str_join (jB (K:=K) rfl) zS (QA.pa (qc (fl K (pv 0)) qn))))))
 .walk_at "ref"
 rintro _ O R ⟨x,dx,p,b,rfl,hx,hl,h⟩;walk_at "wd";refine⟨.inr (.inl ⟨rfl,_,rfl⟩),C,dx,_,hx.x,T.st.cl,T.st.n_begun,_,xN,b.map sgS,?_,by decide,?_,?_⟩
 .simp only[z6,hx.p,lM]
  rfl
 .rw[Kq λx hx=>by obtain⟨c,_,rfl⟩:=lJ.1 hx;rfl,l6]
  omega
 .have e:Txt.join (Str.ofString "") (b.map sgS)=⟨b.toArray⟩:=zeR b
  rw[e];exact .inl h
theorem Ye(F:Fun K "end_row" "Reader.end_row" vv f fd)(T:TxtR K mg C)(cg:Cal P w K mg base 1 "parted" [] (za K zcC))(zl4:CalT P w K mg base 1 "open_row" C (za K (Zl C))):FnOk P w K mg base CX0 2 f fd ["self","letter"] (za K (zaE C)):=by
 have nd:=uQ.nd;apply F.okU uQ (by walk_at "ln") (λhr=>(zc (zY 2 nd (zo cg hr (qc (vV Kn (yi zl4 (hr.mono (by decide)) (pv 0)) (vx zd) Z0) qn))) (zc (fs K (pv 0) (yI qn)) (zb (zB (yH (zU u8 (pv 2) yG) (yI qn) (yI (qc (yb (qc zS (qc (pv 1) (qc (pv 2) qn)))) qn))))))))
 .walk_at "ref"
 rintro _ O R ⟨x,dx,p,b,c,rfl,hx,hb,hg,hl,h⟩;have hz:zeO ⟨(b.drop 1).toArray⟩:=⟨by show(b.drop 1).toArray.size<=100000;rw[lC,mI];omega,hg⟩;have hlen:(⟨b.toArray⟩:Str).length<=sizeLine:=by show b.toArray.size<=sizeLine;rw[lC,lS];omega
 have hsl:=zaF hb;walk_at "wd";refine⟨dx,_,hx.x,by simp;decide,x,dx,p,b,rfl,hx,hl,_,rfl,hlen,?_⟩;rw[hsl];refine⟨_,rfl,hz,λp' hp'=>?_⟩;have e1:p'≠x:=λe=>by rw[e,hx.x]at hp';cases hp'
 refine⟨C,dx,_,by rw[ze (Ne.symm e1)];exact hx.x,T.st.cl,T.st.n_begun,by simp,?_⟩;have ep:yu (Str.ofString "begun") (W.own p') [(Str.ofString "begun",W.own p)]=[(Str.ofString "begun",.own p')]:=by simp[yu]
 rw[ep];obtain⟨n1,n2,n3⟩:=zcE hx hp' [] rfl;have hrw:rwD b c=if zjy (vk ⟨(b.drop 1).toArray⟩)=true then[]else[.tuple [.str (Str.ofString "row"),.str (sgS c),vk ⟨(b.drop 1).toArray⟩]]:=rfl
 rcases Qm ⟨(b.drop 1).toArray⟩with e|⟨ds,e,_,_⟩
 .rw[e]at hrw ⊢
  have hrw2:rwD b c=[]:=hrw;rw[lg rfl];intro q hq;obtain⟨r1,r2,r3,r4,r5⟩:=Zm (L:=[]) n1 n2 n3 hq;exact .inl (h q p' _ r1 r2 hp' r3 r4 (by rw[hrw2];exact r5))
 .rw[e]at hrw ⊢
  have hrw2:rwD b c=[.tuple [.str (Str.ofString "row"),.str (sgS c),.tuple ds]]:=hrw;rw[l8 (by intro z;cases z)];refine⟨_,⟨_,rfl,rfl⟩,by show 3<=1000;omega,λq hq=>?_⟩;obtain⟨r1,r2,r3,r4,r5⟩:=Zm (L:=[.d (.tuple [.str (Str.ofString "row"),.str (sgS c),.tuple ds])]) n1 n2 n3 hq;exact .inl (h q p' _ r1 r2 hp' r3 r4 (by rw[hrw2];exact r5))
theorem kS(F:Fun K "read_sign" "Reader.read_sign" xO f fd)(T:TxtR K mg C)(ci:Cal P w K mg base 1 "is_letter" [] (za K zf8))(zl3:CalT P w K mg base 2 "end_row" C (za K (zaE C)))(cj:Cal P w K mg base 1 "is_figure" [] (za K zf9))(ck:Cal P w K mg base 1 "sign_alone" [] (za K X3)):FnOk P w K mg base CX0 3 f fd ["self","sign"] (za K (Qt C)):=by
 have nd:=vP.nd;apply F.okU vP (by walk_at "ln") (λhr=>(zc (zT (PW.pt (YT (xL (K:=K) rfl (fl K (pv 0)) (λ_=>rfl)) (ZV (yV (zo ci hr (qc (pv 1) qn)))))) (zb (zB (xV zl3 hr (pv 0) (qc (pv 1) qn)))) zX) (zc (zT (PW.pt (YT (xL (K:=K) rfl (fl K (pv 0)) (λ_=>rfl)) (ZV (PW.pt (vh (yV (zo cj hr (qc (pv 1) qn))) (vc (zU z7 (pv 1) zS))))))) (zc (zQ (yJ (K:=K) rfl lR lX lY Vb (fl K (pv 0)) (QA.pa (qc (pv 1) qn)))) (zb (zB (yI qn)))) zX) (zc (zY 2 nd (Xi z7 (yd (jz (K:=K) rfl) (by rfl) T.n_len (by rfl) (QA.pa (qc (fl K (pv 0)) qn))) zd)) (zc (fs K (pv 0) (yI qn)) (zc (zT (PW.pt (vh (zU K0 (pv 1) (zkM rfl T.g_OPENING)) (vc (yV (pv 2))))) (zb (zB (yI (qc (zo ck hr (qc (pv 1) qn)) qn)))) zX) (zc (zQ (yJ (K:=K) rfl lR lX lY Vb (fl K (pv 0)) (QA.pa (qc (pv 1) qn)))) (zb (zB (yI qn))))))))))
 .walk_at "ref"
 rintro _ O R ⟨x,dx,p,b,c,rfl,hx,hg,hl,h⟩;have hT:∀{a:W}{k:Bool},a=.own p->(!decide (b=[]))=k->XQ O a=some k:=λe1 e2=>by
  subst e1 e2;simp only[XQ,hx.p];cases b<;>rfl
 refine ye (λρ' O'=>¬(b≠[]/\isLet c)/\ρ'=[some (.own x),some (sgW c),none]/\O=O') (λR1 hR1=>?_) ?_
 .by_cases hb:b=[]
  .walk_at "wd"
   exact⟨C,dx,_,hx.x,T.st.cl,T.st.n_begun,_,xN,.inl ⟨by simp[hx.p,hb],trivial,hR1 _ _ ⟨λz=>z.1 hb,rfl,rfl⟩⟩⟩
  .walk_at "wd"
   refine⟨C,dx,_,hx.x,T.st.cl,T.st.n_begun,_,xN,.inr ⟨by simp[hx.p,hb],trivial,c,rfl,?_⟩⟩;show if decide (isLet c)=true then _ else _
   by_cases hlc:isLet c
   .have hS:rdS b c=([],rwD b c):=lg ⟨hb,hlc⟩
    rw[hS]at h;rw[lg (lQ hlc)];exact⟨dx,_,hx.x,by simp;decide,x,dx,p,b,c,rfl,hx,hb,hg,by omega,λq p' O' r1 r2 r3 r4 r5 r6=>.inl (h q p' O' r1 r2 (.inr r3) r4 r5 r6)⟩
   .rw[l8 (by simpa using hlc)]
    exact hR1 _ _ ⟨λz=>hlc z.2,rfl,rfl⟩
 rintro _ _ ⟨q1,rfl,rfl⟩;have es:Str.ofString ";" =⟨#[59]⟩:=by decide +kernel
 have eo:Str.ofString "~" =⟨#[126]⟩:=by decide +kernel
 refine ye (λρ' O'=>¬(b≠[]/\(vm c\/c= 59))/\ρ'=[some (.own x),some (sgW c),none]/\O=O') (λR1 hR1=>?_) ?_
 .by_cases hb:b=[]
  .walk_at "wd"
   exact⟨C,dx,_,hx.x,T.st.cl,T.st.n_begun,_,xN,.inl ⟨by simp[hx.p,hb],trivial,hR1 _ _ ⟨λz=>z.1 hb,rfl,rfl⟩⟩⟩
  .walk_at "wd"
   refine⟨C,dx,_,hx.x,T.st.cl,T.st.n_begun,_,xN,.inr ⟨by simp[hx.p,hb],trivial,c,rfl,?_⟩⟩;have put:=zcF hx (b++[c]);have ea:Zk O (.own p) (sgW c)=some (updO O p (.lst ((b++[c]).map sgW))):=by
    simp only[Zk,hx.p];rw[lg (by rw[l6];omega),m9];rfl
   have yes:(vm c\/c= 59)->∃C dx fs,O x=some (.ins C dx fs)/\Cls K C/\NoAttr K C (Str.ofString "begun")/\∃w,List.lookup (Str.ofString "begun") fs=some w/\tyW "list" O w/\∃x,Zk O w (sgW c)=some x/\∀(p:Addr),x p=none->Clo R (.own p) (updO x p (.lst [])):=λz=>by
    have hS:rdS b c=(b++[c],[]):=by unfold rdS;rw[l8 q1,lg ⟨hb,z⟩]
    rw[hS]at h;refine⟨C,dx,_,hx.x,T.st.cl,T.st.n_begun,_,xN,.inl ⟨rfl,by simp[z6,hx.p]⟩,_,ea,λq hq=>?_⟩;obtain⟨r1,r2,r3,r4,r5⟩:=Zm (L:=[]) put.1 put.2.1 put.2.2 hq;exact .inl (h q p _ r1 r2 (.inl rfl) r3 r4 r5)
   show if decide (vm c)=true then _ else _
   by_cases hf:vm c
   .rw[lg (lQ hf)];exact yes (.inl hf)
   .rw[l8 (by simpa using hf),es]
    simp only[Qu];by_cases h59:c= 59
    .rw[lg h59];exact yes (.inr h59)
    .rw[l8 h59]
     refine hR1 _ _ ⟨λz=>?_,rfl,rfl⟩;rcases z.2 with z|z
     .exact hf z
     .exact h59 z
 rintro _ _ ⟨q2,rfl,rfl⟩;have hS:rdS b c=if c≠126\/b.length= 1 then([],[uu c])else([126],[]):=by
  unfold rdS;rw[l8 q1,l8 q2]
 rw[hS]at h;refine Ux (λρ' O'=>ρ'=[some (.own x),some (sgW c),some (.d (.bool (decide (b.length= 1))))]/\∃p',O p'=none/\O'=updO (updO O p' (.lst [])) x (.ins C dx [(Str.ofString "begun",.own p')])) (λR1 hR1=>?_) ?_
 .walk_at "wd"
  refine⟨C,dx,_,hx.x,T.st.cl,T.st.n_begun,_,xN,b.length,by simp[Zc,yZ,z6,hx.p],λp' hp'=>?_⟩;have e1:p'≠x:=λe=>by rw[e,hx.x]at hp';cases hp'
  refine⟨C,dx,_,by rw[ze (Ne.symm e1)];exact hx.x,T.st.cl,T.st.n_begun,by simp,?_⟩;have ep:yu (Str.ofString "begun") (W.own p') [(Str.ofString "begun",W.own p)]=[(Str.ofString "begun",.own p')]:=by simp[yu]
  rw[ep];exact hR1 _ _ ⟨by rw[show decide ((b.length:Int)= 1)=decide (b.length= 1)from decide_eq_decide.mpr (by omega)],p',hp',rfl⟩
 rintro _ O1 ⟨rfl,p',hp',e1⟩;obtain⟨n1,n2,n3⟩:=zcE hx hp' [] e1;walk_at "wd";have al:(c≠126\/b.length= 1)->X3 [sgW c] O1 λx O1=>∀(p:Addr),O1 p=none->Clo R (.own p) (updO O1 p (.lst [x])):=λz=>by
  rw[lg z]at h;refine⟨c,rfl,λq hq=>?_⟩;obtain⟨r1,r2,r3,r4,r5⟩:=Zm (L:=[.d (uu c)]) n1 n2 n3 hq;exact .inl (h q p' _ r1 r2 (.inr hp') r3 r4 r5)
 rw[eo];simp only[Qu];by_cases hc:c= 126
 .rw[lg hc]
  by_cases hl1:b.length= 1
  .rw[lg hl1];exact al (.inr hl1)
  .rw[l8 hl1]
   rw[l8 (by rintro(z|z);exact z hc;exact hl1 z)]at h;have ea:Zk O1 (.own p') (sgW c)=some (updO O1 p' (.lst ([126].map sgW))):=by
    simp only[Zk,n1.p];rw[lg (by simp),hc];rfl
   obtain⟨m1,m2,m3⟩:=zcF n1 [126];refine⟨C,dx,_,n1.x,T.st.cl,T.st.n_begun,_,xN,.inl ⟨rfl,by simp[z6,n1.p]⟩,_,ea,λq hq=>?_⟩;have m4:Ho O (updO O1 p' (.lst ([126].map sgW))) x p:=λa ha h1 h2=>by
    rw[ze (λe=>ha (by rw[e];exact hp'))];exact n2 a ha h1 h2
   obtain⟨r1,r2,r3,r4,r5⟩:=Zm (L:=[]) m1 m4 (λa ha=>n3 a (m3 a ha)) hq;exact .inl (h q p' _ r1 r2 (.inr hp') r3 r4 r5)
 .rw[l8 hc];exact al (.inl hc)
theorem Vs(F:Fun K "read" "Reader.read" uL f fd)(T:TxtR K mg C)(zl6:CalT P w K mg base 3 "read_sign" C (za K (Qt C))):FnOk P w K mg base CX0 4 f fd ["self","text"] (za K (Xg C)):=by
 have nd:=jJ.nd;apply F.okU jJ (by walk_at "ln") (λhr=>(zc (zY 2 nd (yI qn)) (zc (yW lZ rfl (zjj (pv 1)) (zZ (i:=3) nd rfl (Or.inl rfl)) (zb (zQ (yJ (K:=K) rfl lR PySem.F.slot_list_extend PySem.F.type_list_extend VF (pv 2) (QA.pa (qc (xV zl6 hr (pv 0) (qc (pv 3) qn)) qn)))))) (zb (zB (pv 2))))))
 .walk_at "ref"
 rintro _ O R ⟨x,dx,p,b,z,rfl,hx,hg,hz,hl,h⟩;have hsg:∀i w,(kb z)[i]? =some w->∃c,z.cps.toList[i]? =some c/\w=sgW c:=λi w e=>by
  unfold kb at e;rw[lw]at e;obtain⟨c,e1,rfl⟩:=Option.map_eq_some_iff.mp e;exact⟨c,e1,rfl⟩
 have hsl:(kb z).length=z.cps.toList.length:=by unfold kb;rw[l6]
 have hzl:z.length=z.cps.toList.length:=rfl;have hz':=hz;walk_at "wd";refine λfo hfo=>⟨by simpa using hz',?_⟩;have e0:fo≠x:=λe=>by rw[e,hx.x]at hfo;cases hfo
 have e1:fo≠p:=λe=>by rw[e,hx.p]at hfo;cases hfo
 refine yM.by (λi ρ O'=>(∃v3,ρ=[some (.own x),some (.d (.str z)),some (.own fo),v3])/\O' fo=some (.lst ((rdF b (z.cps.toList.take i)).2.map .d))/\Ho O O' x p/\∃p',RdAt C O' x dx p' (rdF b (z.cps.toList.take i)).1/\(p'=p\/O p'=none)/\fo≠p') ⟨⟨_,rfl⟩,zf,λa ha _ _=>by rw[ze (λe=>ha (by rw[e];exact hfo))],p,⟨by rw[ze (Ne.symm e0)];exact hx.x,by rw[ze (Ne.symm e1)];exact hx.p⟩,.inl rfl,e1⟩ (λi ρ O' h=>trivial) ?_ ?_
 .rintro i w _ O2 e ⟨⟨v3,rfl⟩,hf2,ho2,p2,hx2,hp2,hfp⟩ R2 hR2
  obtain⟨c,hc,rfl⟩:=hsg i w e;have hi:=(lx.mp hc).1;have et:z.cps.toList.take (i+1)=z.cps.toList.take i++[c]:=by rw[List.take_succ,hc];rfl
  obtain⟨g1,g2,g3⟩:=jC (z.cps.toList.take i) hg;rw[mH]at g2 g3;have hsn:=zeN b (z.cps.toList.take i) c;rw[<-et]at hsn;obtain⟨g4,g5,g6⟩:=Qr g1 c;simp only[um];walk_at "wd";refine⟨.inl ⟨rfl,by simp[z6,hf2]⟩,dx,_,hx2.x,by simp;decide,x,dx,p2,_,c,rfl,hx2,g1,by omega,λq p3 O3 r1 r2 r3 r4 r5 r6=>?_⟩;have hf3:O3 fo=_:=(r2 fo (by rw[hf2];simp) e0 hfp).trans hf2;have ff:fo≠p3:=λe=>by
   rcases r3 with z|z
   .exact hfp (e.trans z)
   .rw[<-e,hf2]at z;cases z
  refine⟨q,rfl,_,hf3,_,r6,by rw[l6,l6];omega,hR2 _ _ ⟨⟨_,rfl⟩,?_,λa ha h1 h2=>?_,p3,⟨?_,?_⟩,?_,ff⟩⟩
  .rw[zf,hsn,m9]
  .have n1:a≠fo:=λe=>ha (by rw[e];exact hfo)
   have n2:O2 a=O a:=ho2 a ha h1 h2;have n3:a≠p2:=λe=>by
    rcases hp2 with z|z
    .exact h2 (e.trans z)
    .exact ha (by rw[e];exact z)
   rw[ze n1,r2 a (by rw[n2];exact ha) h1 n3,n2]
  .rw[ze (Ne.symm e0)];exact r1.x
  .rw[ze (Ne.symm ff),hsn];exact r1.p
  .rcases r3 with z|z
   .rw[z];exact hp2
   .by_cases y:p3=p
    .exact .inl y
    .refine .inr (mr λn=>?_)
     have nx:p3≠x:=λe=>by rw[e,hx2.x]at z;cases z
     rw[ho2 p3 n nx y]at z;exact n z
 .rintro _ O2 ⟨⟨v3,rfl⟩,hf2,ho2,p2,hx2,hp2,hfp⟩
  rw[hsl,mU]at hf2 hx2;walk_at "wd";have d1:∀a,a≠fo->del O2 fo a=O2 a:=λa ha=>by unfold del;rw[l8 ha]
  exact .inr ⟨_,_,rfl,hf2,h p2 _ ⟨by rw[d1 _ (Ne.symm e0)];exact hx2.x,by rw[d1 _ (Ne.symm hfp)];exact hx2.p⟩ (λa ha h1 h2=>by rw[d1 a (λe=>ha (by rw[e];exact hfo))];exact ho2 a ha h1 h2) hp2⟩
theorem zlT{wd hg:Nat}{g:PF}(w1:1<=wd)(w2:wd<=24)(h1:1<=hg)(h2:hg<=12):Bds (st0 wd hg g):=by
 constructor<;>simp only[st0]<;>first|decide|omega
section
variable {bw:Addr}
theorem J0(F:Fun K "set_stop" "set_stop" (top 42) f fd)(T:Txt P w K mg C bw):FnOk P w K mg base CX0 1 f fd ["state"] (za K (sSetStop C)):=by
 apply F.okU JM (by walk_at "ln") (λhr=>(zb (zd2 (zfA hr) (fl K (pv 0)) (fl K (pv 0)) yC rfl)))
 .walk_at "ref"
 rintro _ O R ⟨x,dx,p,st,kp,S,rfl,hs,hl,h⟩;have hx:=hs.x;have hst:=hs.st;walk_at "wd";walk_at "!hx hst zV";refine⟨by simp[stK];omega,.inl (h _ ⟨by rw[ze hs.xs];exact hs.x,by rw[ze hs.ps];exact hs.p,by rw[zf,zcN];rfl,by rw[ze (neW hs.kp hs.st (by intro h;cases h))];exact hs.kp⟩ (ButO.upd (by simp)))⟩
theorem Uh(F:Fun K "begin_anew" "begin_anew" (top 56) f fd)(T:Txt P w K mg C bw)(zmk:CalT P w K mg base 2 "begin" C (za K (Z6 C)))(wu:Cal P w K mg base 3 "wipe" [] (za K (Uy C))):FnOk P w K mg base CX0 4 f fd ["state"] (za K (sAnew C)):=by
 apply F.okU Ua (by walk_at "ln") (λhr=>(zc (zQ (yi zmk (hr.mono (by decide)) (pv 0))) (zb (zQ (zo wu hr (qc (pv 0) (qc zd qn)))))))
 .walk_at "ref"
 rintro _ O R ⟨x,dx,p,st,kp,S,rfl,hs,hB,h⟩;have hx:=hs.x;walk_at "wd";walk_at "!hx zV";refine⟨?_,.inr ⟨x,dx,p,st,kp,S,rfl,hs,hB.w1,hB.w2,λst' kp' O1 q1 q2 q3 q4=>⟨x,dx,p,st',kp',_,.int 5,rfl,⟨by decide,by decide⟩,q3,zlT hB.w1 hB.w2 hB.h1 hB.h2,λO2 q5 q6=>.inl (h st' kp' O2 q1 q2 q5 λb hb h0=>?_)⟩⟩⟩
 .intro a b hab
  simp only[fldW,lm,Prod.mk.injEq,lD,m6]at hab;rcases hab with⟨rfl,_⟩|⟨rfl,_⟩|⟨rfl,_⟩|⟨rfl,_⟩|⟨rfl,_⟩|⟨rfl,_⟩|⟨rfl,_⟩|⟨rfl,_⟩|⟨rfl,_⟩|⟨rfl,_⟩|⟨rfl,_⟩|⟨rfl,_⟩|⟨rfl,_⟩|⟨rfl,_⟩|⟨rfl,_⟩|⟨rfl,_⟩|⟨rfl,_⟩<;>decide +kernel
 .have b1:b≠x:=λe=>hb (by simp[e])
  have b2:b≠p:=λe=>hb (by simp[e]);have b3:b≠st':=λe=>h0 (by rw[e];exact q1);have b4:b≠kp':=λe=>h0 (by rw[e];exact q2);have e:=q4 b b1 b3 b4;rw[q6 b b1 b2 (by rw[e];exact h0),e]
end
inductive sTxR (ws:List W) (O:OM) (R:WK):Prop
 |mk:∀p i h w f,ws=[.row p i]->O p=some (.grid (genG h w f))->i<h->w<=24->(∀j,j<w->(f i j).1.length= 1)->R (.d (.str (rowTx w (f i)))) O->sTxR ws O R
theorem KH{h w:Nat}{f:PF}(hp:O p=some (.grid (genG h w f)))(hi:i<h):z6 O (.row p i)=some ((List.range w).map λj=>W.d (celD (f i j))):=by
 have e:(genG h w f)[i]? =some ((List.range w).map λj=>celD (f i j)):=by
  unfold genG;rw[lw,List.getElem?_range hi];rfl
 simp only[z6,hp,e,Option.map_some,lM];rfl
noncomputable def zaC:W->Option PyData
 |.d (.tuple [a,_])=>some a
 |_=>none
theorem zdm{g:Nat->Cel}:((List.range n).map λj=>W.d (celD (g j))).filterMap zaC=(List.range n).map λj=>PyData.str (g j).1:=by
 generalize List.range n=l
 induction l with
 |nil=>rfl
 |cons j l ih=>rw[lG,mm];exact mw _ ih
theorem Ya{r:Rea}(hr:OkR r):(rdA r S).length<=6:=by
 cases r with
 |row c ns=>
  show(if c= 113 then ansL S ns else[]).length<=6;split
  .exact lT (kH ns) hr.2.l
  .exact lO _
 |_=>exact lO _
noncomputable def zfi(S:ST):W->Option PyData
 |.row _ i=>some (.str (rowTx S.w (S.pic i)))
 |_=>none
theorem Jt:((List.range S.h).map (W.row p)).filterMap (zfi S)=(linT S).map .str:=by
 unfold linT;rw[lM]
 generalize List.range S.h=l
 induction l with
 |nil=>rfl
 |cons j l ih=>rw[lG,mm];exact mw _ ih
theorem Vt{m k:Str}{v:W}{fs:List (Str×W)}(e:fs=[(k,v)])(h:(m==k)=false):fs.lookup m=none:=by
 rw[e];simp[List.lookup,h]
theorem YM{m k j:Str}{v u:W}{fs:List (Str×W)}(e:fs=[(k,v),(j,u)])(h:(m==k)=false)(h':(m==j)=false):fs.lookup m=none:=by
 rw[e];simp[List.lookup,h,h']
section
variable {bw cD cS cL cT cR cQ cN:Addr}
theorem zbn(F:Fun K "text_of" "text_of" (top 26) f fd)(T:Txt P w K mg C bw):FnOk P w K mg base CX0 1 f fd ["row"] (za K sTxR):=by
 have nd:=Xp.nd;apply F.okU Xp (by walk_at "ln") (λhr=>(zb (zB (yJ (K:=K) rfl mB PySem.F.slot_str_join PySem.F.type_str_join (jB (K:=K) rfl) zS (QA.pa (qc (vE (xf (N:=["cell"]) (n:=1) (js:=[])) rfl (yP (K:=K) rfl (pv 0)) (λ_ _ _ _=>(zZ (i:=0) (show List.Nodup (["cell"]:List Str)by decide +kernel) rfl (Or.inl rfl))) (λ_ _ _ _=>yy) (λ_ _ _ _=>(z9 (yn (K:=K) rfl) (pv 0) zd))) qn))))))
 .walk_at "ref"
 rintro _ O R ⟨p,i,h,w,g,rfl,hp,hi,hw,hl,hR⟩;have hq:=KH hp hi;have ln:noS.length<=16:=by decide
 walk_at "wd";refine⟨.inr (.inl ⟨rfl,_,rfl⟩),_,hq,by rw[l6,mj];omega,zaC,λv hv us hu=>?_,(List.range w).map (λj=>(g i j).1),?_,by decide,?_,.inl hR⟩
 .obtain⟨u,rfl⟩:=mC.1 hu
  obtain⟨j,_,rfl⟩:=lJ.1 hv;exact⟨rfl,rfl,_,rfl,_,rfl,rfl⟩
 .rw[zdm]
  simp only[z6,lM];rfl
 .have e:((List.range w).map λj=>(g i j).1).map (λx=>x.length)=(List.range w).map λ_=>1:=by
   rw[lM];refine mo λj hj=>hl j (mT.mp hj)
  rw[e,l6,mj];have:((List.range w).map λ_=>1).sum=w:=by rw[List.map_const',List.sum_replicate_nat,mj];omega
  omega
theorem Vu(F:Fun K "__init__" "Screen.__init__" x6 f fd)(T:Txt P w K mg C bw)(N:TxtS K mg cN)(ww:CalM P w K mg base 4 "State" C (za K (sInit C)))(wx:CalM P w K mg base 1 "Reader" cQ (za K (Qs cQ))):FnOk P w K mg base CX0 6 f fd ["self","wide","high"] (za K (sInitN cN C cQ)):=by
 apply F.okU ZK (by walk_at "ln") (λhr=>(zc (fs K (pv 0) (jx ww (hr.mono (by decide)) rfl (QA.pa (qc (pv 1) (qc (pv 2) qn))))) (zb (fs K (pv 0) (Kr wx (hr.mono (by decide)) rfl)))))
 .walk_at "ref"
 rintro _ O R ⟨x,dx,w,h,rfl,hx,w1,w2,h1,h2,hR⟩;walk_at "wd";refine λy dy hy=>⟨y,dy,w,h,rfl,zf,w1,w2,h1,h2,λp st kp O2 n1 n2 n3 hs hf=>⟨rfl,?_⟩⟩;obtain⟨k1,k2⟩:=QM (dx:=dy) hy n1 n2 n3 hf;have hA2:At O2 C ⟨y,dy,p,st,kp⟩ (st0 w h λ_ _=>blank 0):=hs;have hx2:O2 x=some (.ins cN dx []):=by rw[k1 x (by rw[hx];simp)];exact hx
 refine⟨cN,dx,[],hx2,N.st.cl,N.st.n_state,by decide,λr dr hr=>⟨r,dr,rfl,zf,λq O4 m1 m2 m3=>⟨rfl,?_⟩⟩⟩;obtain⟨j1,j2,j3⟩:=Kt hr m1 m3;have xA:x∉Sd.l ⟨y,dy,p,st,kp⟩:=λz=>by rw[k2 x z]at hx;cases hx
 have hA3:=hA2.upd (o:=.ins cN dx (yu "state" (.own y) [])) xA;have hA4:=hA3.old j1;have hx4:O4 x=some (.ins cN dx (yu "state" (.own y) [])):=by rw[j1 x (by rw[zf];simp),zf]
 have xr:x≠r:=λe=>by rw[<-e,zf]at hr;cases hr
 have xq:x≠q:=λe=>by rw[<-e,zf]at j2;cases j2
 have none3:∀a,updO O2 x (.ins cN dx (yu "state" (.own y) [])) a=none->O a=none:=λa ha=>by
  by_cases e:a=x
  .rw[e,zf]at ha;cases ha
  .rw[ze e]at ha
   exact k1.new ha
 refine⟨cN,dx,_,hx4,N.st.cl,N.st.n_reader,(by decide:1<1000),.inl (hR ⟨x,dx,⟨y,dy,p,st,kp⟩,r,dr,q⟩ _ rfl (λa ha=>?_) ⟨zf,hA4.upd xA,⟨by rw[ze (Ne.symm xr)];exact m2.x,by rw[ze (Ne.symm xq)];exact m2.p⟩,λe=>?_⟩ λb hb h0=>?_)⟩
 .rcases lm.mp (show a∈x::(Sd.l ⟨y,dy,p,st,kp⟩++[r,q])from ha)with z|z
  .exact .inl z
  .rcases lz.mp z with z|z
   .exact .inr (k2 a z)
   .simp only[lm,lD,m6]at z
    rcases z with rfl|rfl
    .exact .inr (none3 _ hr)
    .exact .inr (none3 _ j2)
 .have e':q=kp:=e
  have:=hA3.kp;rw[<-e',j2]at this;cases this
 .rw[ze hb,j1 b (by rw[ze hb,k1 b h0];exact h0),ze hb,k1 b h0]
theorem Vv(F:Fun K "feed" "Screen.feed" uM f fd)(T:Txt P w K mg C bw)(N:TxtS K mg cN)(D:Dds K mg cD cS cL cT cR)(zl5:CalT P w K mg base 4 "read" cQ (za K (Xg cQ)))(ud:Cal P w K mg base 3 "deed_of" [] (za K (sDeedOf cS cL cT cR)))(zmj:CalT P w K mg base 6 "do" cS (za K (sDeedDo C (aS cS))))(zl2:CalT P w K mg base 5 "do" cL (za K (sDeedDo C (aL cL))))(zml:CalT P w K mg base 3 "do" cT (za K (sDeedDo C (aT cT))))(zl7:CalT P w K mg base 8 "do" cR (za K (sDeedDo C (aR cR)))):FnOk P w K mg base CX0 9 f fd ["self","text"] (za K (sFeed cN C cQ)):=by
  have nd:=jK.nd;apply F.okU jK (by walk_at "ln") (λhr=>(zc (zY 2 nd (yI qn)) (zc (yW lZ rfl (yP (K:=K) rfl (xV zl5 hr (fl K (pv 0)) (qc (pv 1) qn))) (zZ (i:=3) nd rfl (Or.inl rfl)) (zb (zQ (yJ (K:=K) rfl lR PySem.F.slot_list_extend PySem.F.type_list_extend VF (pv 2) (QA.pa (qc (jF (xV zmj hr (zo ud hr (qc (pv 3) qn)) (qc (fl K (pv 0)) qn)) (jF (xV zl2 hr (zo ud hr (qc (pv 3) qn)) (qc (fl K (pv 0)) qn)) (jF (xV zml hr (zo ud hr (qc (pv 3) qn)) (qc (fl K (pv 0)) qn)) (xV zl7 hr (zo ud hr (qc (pv 3) qn)) (qc (fl K (pv 0)) qn))))) qn)))))) (zb (zB (pv 2))))))
  · walk_at "ref"
  rintro _ O R ⟨M,S,b,z,rfl,hM,hF,hb,hz,hl,h⟩;refine ye (λρ' O'=>∃an,O an=none/\ρ'=[some (.own M.x),some (.d (.str z)),some (.own an),none]/\O'=updO O an (.lst [])) (λR1 hR1=>?_) ?_
  · walk_at "wd"
    exact λan han=>hR1 _ _ ⟨an,han,rfl,rfl⟩
  rintro _ _ ⟨an,han,rfl,rfl⟩;have oU:Old O (updO O an (.lst [])):=Old.up han;have hM1:=hM.old oU;obtain⟨dx1,dx2,dx3⟩:=hM.dj;have hbl:okG (rdF b z.cps.toList).1:=(jC z.cps.toList hb).1;have hro:=jG hb hz;have hrl:=Z9 (cs:=z.cps.toList) hb;have hzl:z.length=z.cps.toList.length:=rfl;have z128:z.cps.all (· < 128)=true:=by
    rw[m7];intro c hc;have:=hz c (mM.mpr hc);unfold okF at this;exact lQ (by omega)
  have r6:∀r∈rsF b z.cps.toList,∀S,(rdA r S).length<=6:=λr hr S=>Ya (hro r hr);walk_at "wd";refine⟨cN,M.dx,_,hM1.x,N.st.cl,N.st.n_reader,_,VY,M.rx,rfl,M.rdx,_,hM1.r.x,λa b hab=>by cases lh.mp hab;decide +kernel,M.rx,M.rdx,M.rp,b,z,rfl,hM1.r,hb,z128,by omega,λrp' O2 g1 g2 g3=>?_⟩;rw[Xm]
  generalize hrs:rsF b z.cps.toList=rs at *
  have f2:=zgf g2 g3;refine⟨_,rfl,?_⟩;have an2:O2 an=some (.lst [])/\an ∉ [M.rx,rp']:=f2 an _ zf (fun w=>by
    simp only[lm,lD,m6]at w;rcases w with rfl|rfl
    · rw[hM.r.x]at han;cases han
    · rw[hM.r.p]at han;cases han)
  obtain⟨hA2,dA2⟩:=f2.at hM1.a dx2.symm;have hx2:=f2 M.x _ hM1.x dx3;have anA:an∉M.A.l:=λw=>by obtain⟨o,e⟩:=hM.a.nn an w;rw[han]at e;cases e
  refine yM.by (λi ρ O'=>∃A' v3,A'.x=M.A.x/\ρ=[some (.own M.x),some (.d (.str z)),some (.own an),v3]/\At O' C A' (runS (rs.take i) S)/\O' an=some (.lst (((runA (rs.take i) S).map .str).map .d))/\an∉A'.l/\∀a o,O2 a=some o->a∉M.A.l->a≠an->O' a=some o/\a∉A'.l) ⟨M.A,_,rfl,rfl,hA2,an2.1,anA,λa o e ha _=>⟨e,ha⟩⟩ (λ_ _ _ _=>rfl) ?_ ?_
  · rintro i u _ O3 hu ⟨A',v3,ex,rfl,hA3,han3,anA3,hf3⟩ R2 hR2
    obtain⟨r,hr,rfl⟩:∃r,rs[i]? =some r/\u=.d (rdD r):=by
      rw[lw,lw]at hu;cases e:rs[i]? with
      |none=>rw[e]at hu;cases hu
      |some r=>rw[e]at hu;cases hu;exact⟨r,rfl,rfl⟩
    have hir:i<rs.length:=(lx.mp hr).1;have hok:=hro r (lK hr);have et:rs.take (i+1)=rs.take i++[r]:=by rw[List.take_add_one,hr];rfl
    have hFi:Fit (runS (rs.take i) S):=hF.run λx hx=>hro x (mP hx);have hx3:=hf3 M.x _ hx2.1 dx1 (λe=>by rw[<-e,hM.x]at han;cases han);simp only[um];have lA:((runA (rs.take i) S).map PyData.str).length<=500000:=by
      have q:=qq (rs:=rs.take i) (S:=S) λx hx=>r6 x (mP hx);have q2:=List.length_take_le i rs;rw[l6];omega
    have lB:=r6 r (lK hr) (runS (rs.take i) S);have hA3x:O3 M.A.x=some (.ins C A'.dx (fldW A'.p A'.st A'.kp (runS (rs.take i) S))):=by rw[<-ex];exact hA3.x
    have step:∀d O4,O3 d=none->Old O3 O4->∀q st' kp' O5,O4 q=none->O5 q=some (.lst (((rdA r (runS (rs.take i) S)).map .str).map .d))->q≠kp'->Nxt O4 O5 C A'.x A'.dx A'.p A'.st A'.kp st' kp' (rdS' r (runS (rs.take i) S))->
        ∃l b ws us,W.own an=.own l/\[W.own q]=[.own b]/\O5 l=some (.lst ws)/\O5 b=some (.lst us)/\ws.length+us.length<=10000000/\R2 [some (.own M.x),some (.d (.str z)),some (.own an),some (.d (rdD r))] (updO O5 l (.lst (ws++us))):=λd O4 nd4 o4 q st' kp' O5 hq4 hq5 nk N5=>by
      have an4:O4 an=_:=(o4 an (by rw[han3];simp)).trans han3;have f5:=N5.fr;obtain⟨an5,anA5⟩:=f5 an _ an4 anA3;refine⟨an,q,_,_,rfl,rfl,an5,hq5,by simp only[l6]at lA ⊢;omega,hR2 _ _ ⟨⟨A'.x,A'.dx,A'.p,st',kp'⟩,_,ex,rfl,?_,?_,anA5,λa o e ha hn=>?_⟩⟩
      · rw[et,QQ]
        exact At.upd (A:=⟨A'.x,A'.dx,A'.p,st',kp'⟩) N5.s anA5
      · rw[zf,et,QR,m9,m9]
      · obtain⟨e3,a3⟩:=hf3 a o e ha hn
        obtain⟨e5,a5⟩:=f5 a o ((o4 a (by rw[e3];simp)).trans e3) a3;exact⟨by rw[ze hn];exact e5,a5⟩
    have ty:tyW "list" O3 (.own an):=.inl ⟨rfl,by simp[z6,han3]⟩;have fl4:∀O4,Old O3 O4->O4 M.x=some (.ins cN M.dx (scF A'.x M.rx)):=λO4 o4=>by rw[o4 M.x (by rw[hx3.1];simp),hx3.1,ex]
    unfold Y9 wBM;show yk 2 _ O3 _;unfold yk;refine⟨ty,?_⟩;cases r with
    |sign c=>
      refine .inl ⟨_,rfl,hok,λd O4 nd4 hd4 o4=>?_⟩;obtain⟨dd,hd4⟩:=hd4;exact⟨d,dd,_,rfl,hd4,Vt rfl (by decide +kernel),cN,M.dx,_,fl4 O4 o4,N.st.cl,N.st.n_state,_,xj,_,24,d,A'.x,A'.dx,A'.p,A'.st,A'.kp,_,rfl,⟨c,dd,rfl,hd4⟩,hok,by decide,by decide,hA3.old o4,hFi.g,step d O4 nd4 o4⟩
    |line=>
      refine .inr (.inl ⟨_,rfl,hok,λd O4 nd4 hd4 o4=>?_⟩);obtain⟨dd,hd4⟩:=hd4;exact⟨d,dd,_,rfl,hd4,rfl,cN,M.dx,_,fl4 O4 o4,N.st.cl,N.st.n_state,_,xj,_,24,d,A'.x,A'.dx,A'.p,A'.st,A'.kp,_,rfl,⟨dd,rfl,hd4⟩,hok,by decide,by decide,hA3.old o4,hFi.g,step d O4 nd4 o4⟩
    |tab=>
      refine .inr (.inr (.inl ⟨_,rfl,hok,λd O4 nd4 hd4 o4=>?_⟩));obtain⟨dd,hd4⟩:=hd4;exact⟨d,dd,_,rfl,hd4,rfl,cN,M.dx,_,fl4 O4 o4,N.st.cl,N.st.n_state,_,xj,_,24,d,A'.x,A'.dx,A'.p,A'.st,A'.kp,_,rfl,⟨dd,rfl,hd4⟩,hok,by decide,by decide,hA3.old o4,hFi.g,step d O4 nd4 o4⟩
    |row c ns=>
      refine .inr (.inr (.inr ⟨_,rfl,hok,λd O4 nd4 hd4 o4=>?_⟩));obtain⟨dd,hd4⟩:=hd4;exact⟨d,dd,_,rfl,hd4,YM rfl (by decide +kernel) (by decide +kernel),cN,M.dx,_,fl4 O4 o4,N.st.cl,N.st.n_state,_,xj,_,24,d,A'.x,A'.dx,A'.p,A'.st,A'.kp,_,rfl,⟨c,ns,dd,rfl,hd4⟩,hok,by decide,by decide,hA3.old o4,hFi.g,step d O4 nd4 o4⟩
  · rintro _ O3 ⟨A',v3,ex,rfl,hA3,han3,anA3,hf3⟩
    rw[l6,l6,mU]at *;have nx:M.x≠an:=λe=>by rw[<-e,hM.x]at han;cases han
    have anr:=an2.2;simp only[lm,lD,m6,mz]at anr;have rA:M.rx∉M.A.l:=dx2 M.rx (by simp);have pA:rp'∉M.A.l:=λw=>dA2 rp' w (by simp);have hx3:=hf3 M.x _ hx2.1 dx1 nx;have hr3:=hf3 M.rx _ g1.x rA (Ne.symm anr.1);have hp3:=hf3 rp' _ g1.p pA (Ne.symm anr.2);refine .inl (h an ⟨M.x,M.dx,A',M.rx,M.rdx,rp'⟩ O3 rfl han han3 ?_ ⟨by rw[hx3.1,ex],hA3,⟨hr3.1,hp3.1⟩,λe=>hp3.2 (by rw[show rp'=A'.kp from e];simp[Sd.l])⟩ λa o e ha=>?_)
    · show an∉M.x::(A'.l++[M.rx,rp'])
      rw[lm,lz,mz,mz];exact⟨Ne.symm nx,anA3,an2.2⟩
    · have ha':a∉M.x::(M.A.l++[M.rx,M.rp]):=ha
      rw[lm,lz,mz,mz]at ha';have na:a≠an:=λw=>by rw[w,han]at e;cases e
      obtain⟨e2,a2⟩:=f2 a o (by rw[ze na];exact e) ha'.2.2;obtain⟨e3,a3⟩:=hf3 a o e2 ha'.2.1 na;refine⟨e3,?_⟩;show a∉M.x::(A'.l++[M.rx,rp']);rw[lm,lz,mz,mz];exact⟨ha'.1,a3,a2⟩
theorem jq(F:Fun K "told_picture" "Screen.told_picture" yT f fd)(T:Txt P w K mg C bw)(N:TxtS K mg cN)(wb:Cal P w K mg base 1 "copied" [] (za K sCopied)):FnOk P w K mg base CX0 2 f fd ["self"] (za K (sTellN cN C cQ tPic)):=by
 apply F.okU vg (by walk_at "ln") (λhr=>(zb (zB (zo wb hr (qc (fl K (fl K (pv 0))) qn)))))
 .walk_at "ref"
 rintro _ O R ⟨M,S,b,rfl,hM,hF,hb,h⟩;walk_at "wd";exact⟨cN,M.dx,_,hM.x,N.st.cl,N.st.n_state,_,xj,C,M.A.dx,_,hM.a.x,T.st.cl,T.st.n_picture,_,zg,M.A.p,_,_,_,rfl,hM.a.p,hF.g.b.h2,.inl h⟩
theorem YN(F:Fun K "cursor" "Screen.cursor" vL f fd)(T:Txt P w K mg C bw)(N:TxtS K mg cN):FnOk P w K mg base CX0 1 f fd ["self"] (za K (sTellN cN C cQ tCur)):=by
 apply F.okU YJ (by walk_at "ln") (λhr=>(zb (zB (yb (qc (fl K (fl K (pv 0))) (qc (fl K (fl K (pv 0))) qn))))))
 .walk_at "ref"
 rintro _ O R ⟨M,S,b,rfl,hM,hF,hb,h⟩;refine qP ?_;unfold Yw;refine xW rfl hM N.st T.st.cl T.st.n_row zL ?_;refine xW rfl hM N.st T.st.cl T.st.n_column zj ?_;exact⟨_,rfl,(by decide:2<=1000),.inl h⟩
theorem Yf(F:Fun K "is_late" "Screen.is_late" vw f fd)(T:Txt P w K mg C bw)(N:TxtS K mg cN):FnOk P w K mg base CX0 1 f fd ["self"] (za K (sTellN cN C cQ tLate)):=by
 apply F.okU Yd (by walk_at "ln") (λhr=>(zb (zB (fl K (fl K (pv 0))))))
 .walk_at "ref"
 rintro _ O R ⟨M,S,b,rfl,hM,hF,hb,h⟩;exact qP (zaZ rfl hM N.st T.st.cl T.st.n_late zv (.inl h))
theorem ZS(F:Fun K "told_ink" "Screen.told_ink" x8 f fd)(T:Txt P w K mg C bw)(N:TxtS K mg cN):FnOk P w K mg base CX0 1 f fd ["self"] (za K (sTellN cN C cQ tInk)):=by
 apply F.okU ZL (by walk_at "ln") (λhr=>(zb (zB (fl K (fl K (pv 0))))))
 .walk_at "ref"
 rintro _ O R ⟨M,S,b,rfl,hM,hF,hb,h⟩;exact qP (zaZ rfl hM N.st T.st.cl T.st.n_ink zK (.inl h))
theorem XB(F:Fun K "modes" "Screen.modes" ug f fd)(T:Txt P w K mg C bw)(N:TxtS K mg cN):FnOk P w K mg base CX0 1 f fd ["self"] (za K (sTellN cN C cQ tMod)):=by
 apply F.okU Xt (by walk_at "ln") (λhr=>(zb (zB (yb (qc (fl K (fl K (pv 0))) (qc (fl K (fl K (pv 0))) (qc (fl K (fl K (pv 0))) qn)))))))
 .walk_at "ref"
 rintro _ O R ⟨M,S,b,rfl,hM,hF,hb,h⟩;refine qP ?_;unfold Yw;refine xW rfl hM N.st T.st.cl T.st.n_wrap zw ?_;refine xW rfl hM N.st T.st.cl T.st.n_putting zh ?_;refine xW rfl hM N.st T.st.cl T.st.n_home zx ?_;exact⟨_,rfl,(by decide:3<=1000),.inl h⟩
theorem YO(F:Fun K "window" "Screen.window" vM f fd)(T:Txt P w K mg C bw)(N:TxtS K mg cN):FnOk P w K mg base CX0 1 f fd ["self"] (za K (sTellN cN C cQ tWin)):=by
 apply F.okU YK (by walk_at "ln") (λhr=>(zb (zB (yb (qc (fl K (fl K (pv 0))) (qc (fl K (fl K (pv 0))) (qc (fl K (fl K (pv 0))) (qc (fl K (fl K (pv 0))) qn))))))))
 .walk_at "ref"
 rintro _ O R ⟨M,S,b,rfl,hM,hF,hb,h⟩;refine qP ?_;unfold Yw;refine xW rfl hM N.st T.st.cl T.st.n_top zO ?_;refine xW rfl hM N.st T.st.cl T.st.n_bottom zm ?_;refine xW rfl hM N.st T.st.cl T.st.n_left zC ?_;refine xW rfl hM N.st T.st.cl T.st.n_right zq ?_;exact⟨_,rfl,(by decide:4<=1000),.inl h⟩
theorem kI(F:Fun K "told_stops" "Screen.told_stops" xl f fd)(T:Txt P w K mg C bw)(N:TxtS K mg cN):FnOk P w K mg base CX0 1 f fd ["self"] (za K (sTellN cN C cQ tStp)):=by
 apply F.okU vN (by walk_at "ln") (λhr=>(zb (zB (yd (Ku rfl) (by rfl) T.n_sorted (by rfl) (QA.pa (qc (fl K (fl K (pv 0))) qn))))))
 .walk_at "ref"
 rintro _ O R ⟨M,S,b,rfl,hM,hF,hb,h⟩;walk_at "wd";have l:=hF.g.s;exact⟨cN,M.dx,_,hM.x,N.st.cl,N.st.n_state,_,xj,C,M.A.dx,_,hM.a.x,T.st.cl,T.st.n_stops,_,zp,M.A.st,rfl,_,hM.a.st,S.stops,by unfold stK;rw[lM];rfl,by omega,.inl h⟩
theorem kT(F:Fun K "many_kept" "Screen.many_kept" xP f fd)(T:Txt P w K mg C bw)(N:TxtS K mg cN):FnOk P w K mg base CX0 1 f fd ["self"] (za K (sTellN cN C cQ tKep)):=by
 apply F.okU kR (by walk_at "ln") (λhr=>(zb (zB (yd (jz (K:=K) rfl) (by rfl) T.n_len (by rfl) (QA.pa (qc (fl K (fl K (pv 0))) qn))))))
 .walk_at "ref"
 rintro _ O R ⟨M,S,b,rfl,hM,hF,hb,h⟩;walk_at "wd";have e:Zc O (.own M.A.kp)=some S.kept.length:=by simp[Zc,yZ,z6,hM.a.kp]
 exact⟨cN,M.dx,_,hM.x,N.st.cl,N.st.n_state,_,xj,C,M.A.dx,_,hM.a.x,T.st.cl,T.st.n_kept,_,zy,_,e,.inl h⟩
theorem ZT(F:Fun K "open_row" "Screen.open_row" x9 f fd)(T:Txt P w K mg C bw)(N:TxtS K mg cN)(zl4:CalT P w K mg base 1 "open_row" cQ (za K (Zl cQ))):FnOk P w K mg base CX0 2 f fd ["self"] (za K (sTellN cN C cQ tOpn)):=by
 apply F.okU ZM (by walk_at "ln") (λhr=>(zb (zB (yi zl4 (hr.mono (by decide)) (fl K (pv 0))))))
 .walk_at "ref"
 rintro _ O R ⟨M,S,b,rfl,hM,hF,hb,h⟩;walk_at "wd";exact⟨cN,M.dx,_,hM.x,N.st.cl,N.st.n_reader,_,VY,M.rx,rfl,M.rdx,_,hM.r.x,λa b hab=>by cases lh.mp hab;decide +kernel,M.rx,M.rdx,M.rp,b,rfl,hM.r,by omega,.inl h⟩
theorem XC(F:Fun K "lines" "Screen.lines" xX f fd)(T:Txt P w K mg C bw)(N:TxtS K mg cN)(wy:Cal P w K mg base 1 "text_of" [] (za K sTxR)):FnOk P w K mg base CX0 2 f fd ["self"] (za K (sTellN cN C cQ tLin)):=by
 apply F.okU qQ (by walk_at "ln") (λhr=>(zb (zB (vE (xf (N:=["row"]) (n:=1) (js:=[])) rfl (yP (K:=K) rfl (fl K (fl K (pv 0)))) (λ_ _ _ _=>(zZ (i:=0) (show List.Nodup (["row"]:List Str)by decide +kernel) rfl (Or.inl rfl))) (λ_ _ _ _=>yy) (λ_ _ _ _=>(zo wy hr (qc (pv 0) qn)))))))
 .walk_at "ref"
 rintro _ O R ⟨M,S,b,rfl,hM,hF,hb,h⟩;walk_at "wd";have hh:=hF.g.b.h2;have e:z6 O (.own M.A.p)=some ((List.range S.h).map (.row M.A.p)):=by simp[z6,hM.a.p,genG]
 refine⟨cN,M.dx,_,hM.x,N.st.cl,N.st.n_state,_,xj,C,M.A.dx,_,hM.a.x,T.st.cl,T.st.n_picture,_,zg,_,e,by rw[l6,mj];omega,zfi S,λv hv us hu=>?_,?_⟩
 .obtain⟨u,rfl⟩:=mC.1 hu
  obtain⟨i,hi,rfl⟩:=lJ.1 hv;have hi':=mT.mp hi;exact⟨rfl,rfl,M.A.p,i,_,_,_,rfl,hM.a.p,hi',hF.g.b.w2,λj hj=>hF.o.p i j hi' hj,rfl,rfl⟩
 .rw[Jt]
  exact .inl h
end
inductive sCopG (ws:List W) (O:OM) (R:WK):Prop
 |mk:∀p h w f,ws=[.own p]->O p=some (.grid (genG h w f))->h<=12->(∀q,O q=none->R (.own q) (updO O q (.grid (genG h w f))))->sCopG ws O R
noncomputable def rowG(w:Nat)(g:PF):W->List PyData
 |.row _ i=>(List.range w).map λj=>celD (g i j)
 |_=>[]
theorem zhN{h w:Nat}{f:PF}(hp:O p=some (.grid (genG h w f)))(hi:i<h):vn O (.row p i)=some ((List.range w).map λj=>celD (f i j)):=by
 unfold vn;simp only[yZ];rw[KH hp hi];show yE _=_;rw[show(List.range w).map (λj=>W.d (celD (f i j)))=((List.range w).map λj=>celD (f i j)).map W.d by rw[lM];rfl,ym]
section
variable {bw cD cS cL cT cR cQ cN:Addr}
theorem zbo(F:Fun K "copied" "copied" (top 25) f fd)(T:Txt P w K mg C bw):FnOk P w K mg base CX0 1 f fd ["picture"] (za K sCopG):=by
 have nd:=Zx.nd;apply F.okU Zx (by walk_at "ln") (λhr=>(zb (zB (zcj (xf (N:=["row"]) (n:=1) (js:=[])) rfl (yP (K:=K) rfl (pv 0)) (λ_ _ _ _=>(zZ (i:=0) (show List.Nodup (["row"]:List Str)by decide +kernel) rfl (Or.inl rfl))) (λ_ _ _ _=>yy) (λ_ _ _ _=>(yQ (zi2 (K:=K) rfl) (by rfl) T.n_list rfl (QA.pa (qc (pv 0) qn))))))))
 .walk_at "ref"
 rintro _ O R ⟨p,h,w,g,rfl,hp,hh,hR⟩;have e:z6 O (.own p)=some ((List.range h).map (.row p)):=by simp[z6,hp,genG]
 walk_at "wd";refine⟨_,e,by rw[l6,mj];omega,rowG w g,λv hv us hu=>?_,λq hq=>.inl ?_⟩
 .obtain⟨u,rfl⟩:=mC.1 hu
  obtain⟨i,hi,rfl⟩:=lJ.1 hv;exact⟨rfl,rfl,_,zhN hp (mT.mp hi),λr hr=>⟨r,hr,rfl,rfl⟩⟩
 .have e2:((List.range h).map (W.row p)).map (rowG w g)=genG h w g:=by rw[lM];rfl
  rw[e2];exact hR q hq
theorem qG(F:Fun K "told_picture" "Screen.told_picture" yT f fd)(T:Txt P w K mg C bw)(N:TxtS K mg cN)(wb:Cal P w K mg base 1 "copied" [] (za K sCopG)):FnOk P w K mg base CX0 2 f fd ["self"] (za K (sTellO cN C cQ λS=>.grid (genG S.h S.w S.pic))):=by
 apply F.okU vg (by walk_at "ln") (λhr=>(zb (zB (zo wb hr (qc (fl K (fl K (pv 0))) qn)))))
 .walk_at "ref"
 rintro _ O R ⟨M,S,b,rfl,hM,hF,h⟩;walk_at "wd";exact⟨cN,M.dx,_,hM.x,N.st.cl,N.st.n_state,_,xj,C,M.A.dx,_,hM.a.x,T.st.cl,T.st.n_picture,_,zg,M.A.p,_,_,_,rfl,hM.a.p,hF.g.b.h2,λq hq=>.inl (h q hq)⟩
theorem jN(F:Fun K "told_stops" "Screen.told_stops" xl f fd)(T:Txt P w K mg C bw)(N:TxtS K mg cN):FnOk P w K mg base CX0 1 f fd ["self"] (za K (sTellO cN C cQ λS=>.lst (((srt S.stops).map .int).map .d))):=by
 apply F.okU vN (by walk_at "ln") (λhr=>(zb (zB (yd (zfa rfl) (by rfl) T.n_sorted (by rfl) (QA.pa (qc (fl K (fl K (pv 0))) qn))))))
 .exact Kf (zb5 zhD (U2 (Qi (Qi zcr)) Ke))
 rintro _ O R ⟨M,S,b,rfl,hM,hF,h⟩;have l:=hF.g.s;refine qP ?_;show xi K (xi K (yk 0) "state") "stops" [some (.own M.x)] O (λv O1=>zc8 [v] O1 (Clo R));exact zaZ rfl hM N.st T.st.cl T.st.n_stops zp ⟨_,_,S.stops,rfl,hM.a.st,by unfold stK;rw[lM];rfl,by omega,λq hq=>.inl (h q hq)⟩
theorem YQ(F:Fun K "lines" "Screen.lines" xX f fd)(T:Txt P w K mg C bw)(N:TxtS K mg cN)(wy:Cal P w K mg base 1 "text_of" [] (za K sTxR)):FnOk P w K mg base CX0 2 f fd ["self"] (za K (sTellO cN C cQ λS=>.lst (((linT S).map .str).map .d))):=by
 apply F.okU qQ (by walk_at "ln") (λhr=>(zb (zB (zci (xf (N:=["row"]) (n:=1) (js:=[])) rfl (yP (K:=K) rfl (fl K (fl K (pv 0)))) (λ_ _ _ _=>(zZ (i:=0) (show List.Nodup (["row"]:List Str)by decide +kernel) rfl (Or.inl rfl))) (λ_ _ _ _=>yy) (λ_ _ _ _=>(zo wy hr (qc (pv 0) qn)))))))
 .walk_at "ref"
 rintro _ O R ⟨M,S,b,rfl,hM,hF,h⟩;have hh:=hF.g.b.h2;have e:z6 O (.own M.A.p)=some ((List.range S.h).map (.row M.A.p)):=by simp[z6,hM.a.p,genG]
 walk_at "wd";refine⟨cN,M.dx,_,hM.x,N.st.cl,N.st.n_state,_,xj,C,M.A.dx,_,hM.a.x,T.st.cl,T.st.n_picture,_,zg,_,e,by rw[l6,mj];omega,zfi S,λv hv us hu=>?_,?_⟩
 .obtain⟨u,rfl⟩:=mC.1 hu
  obtain⟨i,hi,rfl⟩:=lJ.1 hv;have hi':=mT.mp hi;exact⟨rfl,rfl,M.A.p,i,_,_,_,rfl,hM.a.p,hi',hF.g.b.w2,λj hj=>hF.o.p i j hi' hj,rfl,rfl⟩
 .rw[Jt]
  exact λq hq=>.inl (h q hq)
end
section
variable {ρ:WS}{cN cQ:Addr}{M:Sn}{m:Str}{g:ST->List Nat->PyData}
theorem zhO{r:Addr}(h1:(m==Str.ofString "state")=false)(h2:(m==Str.ofString "reader")=false):(scF a r).lookup m=none:=YM rfl h1 h2
theorem XD{R:WK}(hv:ρ[i]? =some (some (.own M.x)))(hM:ScAt O cN C cQ M S b)(hF:Fit S)(hb:b.length<=90000)(hm:(m==Str.ofString "state")=false/\(m==Str.ofString "reader")=false)(h:R (.d (g S b)) O):Z4 cN m (sTellN cN C cQ g) (yk i) Yv ρ O R:=by
 unfold Z4 yk;rw[hv];exact⟨M.x,M.dx,_,rfl,hM.x,zhO hm.1 hm.2,M,S,b,rfl,hM,hF,hb,h⟩
theorem y8{T:TAW}{R:List W->OM->Prop}(hv:ρ[i]? =some (some (.own M.x)))(hM:ScAt O cN C cQ M S b)(hF:Fit S)(hb:b.length<=90000)(hm:(m==Str.ofString "state")=false/\(m==Str.ofString "reader")=false)(h:T ρ O λws O1=>R (.d (g S b)::ws) O1):jZ (Z4 cN m (sTellN cN C cQ g) (yk i) Yv) T ρ O R:=XD hv hM hF hb hm h
end
def okZ(z:Str):Prop:=(∀c∈z.cps.toList,okF c)/\z.length<=100
inductive sPart2 (ws:List W) (O:OM) (R:WK):Prop
 |mk:∀c:Int,ws=[.d (.int c)]->0<=c->(∀z,okZ z->R (.d (.str z)) O)->sPart2 ws O R
inductive sText2 (ws:List W) (O:OM) (R:WK):Prop
 |mk:∀(ns:List Int) (k:Nat),ws=[.d (.list (ns.map .int)),.d (.int k)]->ns.length<=63->(∀z:Str,(∀c∈z.cps.toList,okF c)->z.length<=7000->R (.d (.str z)) O)->sText2 ws O R
noncomputable def catL(zs:List Str):List Nat:=(zs.map λz=>z.cps.toList).flatten
inductive sPcs (ws:List W) (O:OM) (R:WK):Prop
 |mk:∀(z:Str) (c:Int),ws=[.d (.str z),.d (.int c)]->z.length<=7000->(∀zs:List Str,catL zs=z.cps.toList->zs.length<=100->R (.d (.list (zs.map .str))) O)->sPcs ws O R
inductive sFed (cN C cQ:Addr) (ws:List W) (O:OM) (R:WK):Prop
 |mk:∀N S b zs,ws=[.own N.x,.d (.list (zs.map .str))]->ScAt O cN C cQ N S b->Fit S->okG b->(∀c∈catL zs,okF c)->b.length+(catL zs).length<=14000->zs.length<=100->(∀N' O',N'.x=N.x->ScAt O' cN C cQ N' (runS (rsF b (catL zs)) S) (rdF b (catL zs)).1->Fr O O' N.l N'.l->R (.d (.list ((runA (rsF b (catL zs)) S).map .str))) O')->sFed cN C cQ ws O R
inductive sByP (C cQ:Addr) (ws:List W) (O:OM) (R:WK):Prop
 |mk:∀x dx p A S b z,ws=[.own x,.own A.x,.d (.str z)]->RdAt cQ O x dx p b->At O C A S->Dj [x,p] A.l->Fit S->okG b->(∀c∈z.cps.toList,okF c)->b.length+z.length<=14000->(∀p' A' O',A'.x=A.x->RdAt cQ O' x dx p' (rdF b z.cps.toList).1->At O' C A' (runS (rsF b z.cps.toList) S)->Dj [x,p'] A'.l->Fr O O' ([x,p]++A.l) ([x,p']++A'.l)->R (.d (.list ((runA (rsF b z.cps.toList) S).map .str))) O')->sByP C cQ ws O R
inductive sIsAt (cN C cQ:Addr) (ws:List W) (O:OM) (R:WK):Prop
 |mk:∀N S b x dx p A,ws=[.own N.x,.own x,.own A.x]->ScAt O cN C cQ N S b->RdAt cQ O x dx p b->At O C A S->Fit S->b.length<=90000->(∀c∈b,c<128)->R (.d (.bool true)) O->sIsAt cN C cQ ws O R
inductive sSpo (cN C cQ:Addr) (ws:List W) (O:OM) (R:WK):Prop
 |mk:∀N S b,ws=[.own N.x]->ScAt O cN C cQ N S b->Fit S->(∀O',Old O O'->R (.d .none) O')->sSpo cN C cQ ws O R
noncomputable def tAll(S:ST)(b:List Nat):PyData:=.list (allL S b)
noncomputable instance:DecidablePred okF:=λc=>inferInstanceAs (Decidable (c= 9\/c= 10\/(32<=c/\c<128)))
noncomputable def strP:PyData->Bool
 |.str z=>z.cps.toList.all (λc=>decide (okF c))&&decide (z.length<=100)
 |_=>false
theorem zhP{d:PyData}(h:strP d=true):∃z,d=.str z/\okZ z:=by
 cases d with
 |str z=>
  rw[strP,Bool.and_eq_true]at h;exact⟨z,rfl,λc hc=>mf (List.all_eq_true.mp h.1 c hc),mf h.2⟩
 |_=>cases h
theorem zhQ{k:Nat}{ns:List PyData}(hk:isLet k)(h:Ok3 ns):okZ (rowT k ns):=by
 refine⟨λc hc=>?_,(zjZ (r:=.row k ns) ⟨hk,h⟩).2⟩;rw[VX]at hc;rcases lm.mp hc with rfl|hc
 .exact .inr (.inr (by decide))
 .rcases lz.mp hc with hc|hc
  .have:=Xk h c hc
   exact .inr (.inr (by omega))
  .cases lh.mp hc
   unfold isLet at hk;exact .inr (.inr (by omega))
theorem KI:∀{ds:List PyData},(∀d∈ds,∃z,d=.str z/\okZ z)->∃zs:List Str,ds=zs.map .str/\∀z∈zs,okZ z
 |[],_=>⟨[],rfl,λz hz=>by cases hz⟩
 |d::ds,h=>by
  obtain⟨z,rfl,hz⟩:=h d li;obtain⟨zs,rfl,hzs⟩:=KI λx hx=>h x (lj _ hx);exact⟨z :: zs,rfl,fun x hx=>by
   rcases lm.mp hx with rfl|hx
   .exact hz
   .exact hzs x hx⟩
theorem KJ{N:Nat}:∀{ds:List PyData},(∀d∈ds,∃m:Nat,d=.int m/\m<=N)->∃xs:List Int,ds=xs.map .int/\∀n∈xs,0<=n/\n<=N
 |[],_=>⟨[],rfl,λz hz=>by cases hz⟩
 |d::ds,h=>by
  obtain⟨z,rfl,hz⟩:=h d li;obtain⟨zs,rfl,hzs⟩:=KJ λx hx=>h x (lj _ hx);exact⟨z :: zs,rfl,fun x hx=>by
   rcases lm.mp hx with rfl|hx
   .omega
   .exact hzs x hx⟩
theorem YR:∀zs:List Str,(Str.join noS zs).cps.toList=catL zs
 |[]=>rfl
 |[z]=>by show z.cps.toList=(z.cps.toList++[]);rw[lV]
 |z::y::r=>by
  rw[show Str.join noS (z::y::r)=z++noS++Str.join noS (y::r)from rfl,xn,xn,YR (y::r)];show z.cps.toList++noS.cps.toList++catL (y::r)=z.cps.toList++catL (y::r);rw[show noS.cps.toList=[]by decide +kernel,lV]
theorem KK:∀{zs:List Str},(∀z∈zs,okZ z)->(catL zs).length<=100*zs.length/\((zs.map λx=>x.length).sum)<=100*zs.length/\∀c∈catL zs,okF c
 |[],_=>⟨lp _,lp _,λc hc=>by cases hc⟩
 |z::zs,h=>by
  obtain⟨h1,h2,h3⟩:=KK (zs:=zs) λx hx=>h x (lj _ hx);obtain⟨g1,g2⟩:=h z li;have g3:z.cps.toList.length<=100:=g2;refine⟨?_,?_,λc hc=>?_⟩
  .show(z.cps.toList++catL zs).length<=_
   rw[lI,lL];omega
  .simp only[lG,List.sum_cons,lL];omega
  .rcases lz.mp (show c∈z.cps.toList++catL zs from hc)with q|q
   .exact g1 c q
   .exact h3 c q
noncomputable def pcF(z:Str):W->Option PyData
 |.d (.tuple [.int a,.int b])=>some (.str (Txt.slice z (some a) (some b)))
 |_=>none
section
variable {bw cD cS cL cT cR cQ cN:Addr}
seal PE PS PSs PT PA in
theorem zbp(F:Fun K "_law_all" "_law_all" (top 109) f fd)(T:Txt P w K mg C bw)(zmg:CalT P w K mg base 2 "told_picture" cN (za K (sTellN cN C cQ tPic)))(zl8:CalT P w K mg base 1 "cursor" cN (za K (sTellN cN C cQ tCur)))(zma:CalT P w K mg base 1 "is_late" cN (za K (sTellN cN C cQ tLate)))(zmf:CalT P w K mg base 1 "told_ink" cN (za K (sTellN cN C cQ tInk)))(zmd:CalT P w K mg base 1 "modes" cN (za K (sTellN cN C cQ tMod)))(zmi:CalT P w K mg base 1 "window" cN (za K (sTellN cN C cQ tWin)))(zmh:CalT P w K mg base 1 "told_stops" cN (za K (sTellN cN C cQ tStp)))(zmc:CalT P w K mg base 1 "many_kept" cN (za K (sTellN cN C cQ tKep)))(zme:CalT P w K mg base 2 "open_row" cN (za K (sTellN cN C cQ tOpn)))(zmb:CalT P w K mg base 2 "lines" cN (za K (sTellN cN C cQ tLin))):FnOk P w K mg base CX0 3 f fd ["_law_screen"] (za K (sTellN cN C cQ tAll)):=by
 have nd:=Yp.nd;apply F.okU Yp (by walk_at "ln") (λhr=>(zc (zY 1 nd (yS (qc (yi zmg (hr.mono (by decide)) (pv 0)) (qc (yi zl8 (hr.mono (by decide)) (pv 0)) (qc (yi zma (hr.mono (by decide)) (pv 0)) qn))))) (zc (zY 1 nd (zt (qh (K:=K) rfl) (pv 1) (yS (qc (yi zmf (hr.mono (by decide)) (pv 0)) (qc (yi zmd (hr.mono (by decide)) (pv 0)) (qc (yi zmi (hr.mono (by decide)) (pv 0)) qn)))))) (zb (zB (zt (qh (K:=K) rfl) (pv 1) (yS (qc (yi zmh (hr.mono (by decide)) (pv 0)) (qc (yi zmc (hr.mono (by decide)) (pv 0)) (qc (yi zme (hr.mono (by decide)) (pv 0)) (qc (yi zmb (hr.mono (by decide)) (pv 0)) qn)))))))))))
 .walk_at "ref"
 rintro _ O R ⟨M,S,b,rfl,hM,hF,hb,h⟩;refine y6 [some (.own M.x),some (.d (.list [tPic S b,tCur S b,tLate S b]))] (λR1 hR1=>?_) ?_
 .refine zhC ?_
  refine y8 rfl hM hF hb (by decide +kernel) ?_;refine y8 rfl hM hF hb (by decide +kernel) ?_;refine y8 rfl hM hF hb (by decide +kernel) ?_;exact⟨_,rfl,(by decide:3<=1000),hR1⟩
 refine y6 [some (.own M.x),some (.d (.list [tPic S b,tCur S b,tLate S b,tInk S b,tMod S b,tWin S b]))] (λR1 hR1=>?_) ?_
 .refine zkY (KB rfl ?_)
  refine y8 rfl hM hF hb (by decide +kernel) ?_;refine y8 rfl hM hF hb (by decide +kernel) ?_;refine y8 rfl hM hF hb (by decide +kernel) ?_;exact⟨_,rfl,(by decide:3<=1000),zge (by decide:3<=1000) (by decide:3<=1000) hR1⟩
 refine qP (KB rfl ?_);refine y8 rfl hM hF hb (by decide +kernel) ?_;refine y8 rfl hM hF hb (by decide +kernel) ?_;refine y8 rfl hM hF hb (by decide +kernel) ?_;refine y8 rfl hM hF hb (by decide +kernel) ?_;exact⟨_,rfl,(by decide:4<=1000),zge (by decide:6<=1000) (by decide:4<=1000) (.inl h)⟩
seal PE PS PSs PT PA in
theorem J1(F:Fun K "_law_part" "_law_part" (top 110) f fd)(T:Txt P w K mg C bw)(cm:Cal P w K mg base 3 "_law_row" [] (za K sRow3))(cn:Cal P w K mg base 1 "_law_signs" [] (za K sSgn3)):FnOk P w K mg base CX0 4 f fd ["_law_mixed_here"] (za K sPart2):=by
 have nd:=ZP.nd;apply F.okU ZP (by walk_at "ln") (λhr=>(zc (zY 1 nd (zt yq (pv 0) zd)) (zc (zT (zU uS (pv 1) zd) (zb (zB (z9 zbK zS (zt yq (zt yK (pv 0) zd) zd)))) zX) (zc (zT (zU z7 (pv 1) zd) (zc (zY 2 nd (uY rfl)) (zc (zY 2 nd (zt (qh (K:=K) rfl) (pv 2) (uY rfl))) (zb (zB (z9 (yY (K:=K) rfl) (pv 2) (zt yq (zt yK (pv 0) zd) zd)))))) zX) (zc (u7 (zo cm hr (qc (zt yK (pv 0) zd) qn)) (uZ (K:=K) (n:=2) rfl rfl (yU (zZ (i:=3) nd rfl (Or.inl rfl)) (yU (zZ (i:=4) nd rfl (Or.inl rfl)) uW)))) (zb (zB (zo cn hr (qc (pv 3) (qc (pv 4) qn))))))))))
 .walk_at "ref"
 rintro _ O R ⟨n,rfl,n0,h⟩;refine y6 [some (.d (.int n)),some (.d (.int (n%8))),none,none,none] (λR1 hR1=>?_) ?_
 .walk_at "wd"
  exact hR1
 refine Ux (λρ' O'=>ρ'=[some (.d (.int n)),some (.d (.int (n%8))),none,none,none]/\O=O') (λR1 hR1=>?_) ?_
 .walk_at "wd"
  split
  .obtain⟨x,e1,e2⟩:=zdj (L:=(Str.ofString "abcdexyz 0123~~;#-").cps.toList) (P:=okF) (by decide +kernel) (k:=n / 8%18) (by omega) (by rw[show(Str.ofString "abcdexyz 0123~~;#-").cps.toList.length= 18 by decide +kernel];omega)
   refine⟨cdv n0 (by decide),by rw[lS];decide +kernel,x,e1,.inl (h _ ⟨λc hc=>?_,(by decide:1<=100)⟩)⟩;cases lh.mp (show c∈[x]from hc);exact e2
  .split
   .obtain⟨d,e1,e2⟩:=uy (L:=[.str (Str.ofString "~3 x"),.str (Str.ofString "~;~~"),.str (Str.ofString "~3~4u"),.str (Str.ofString "~1234u"),.str (Str.ofString "~1;2;3;4;5;6;7d"),.str (Str.ofString "~2Q"),.str (Str.ofString "~~"),.str (Str.ofString "~;;b"),.str (Str.ofString "~\n"),.str (Str.ofString "~7\tx"),.str (Str.ofString "~00012c"),.str (Str.ofString "~!"),.str (Str.ofString "\n"),.str (Str.ofString "\t"),.str (Str.ofString "~1;2;3;4;5;6c"),.str (Str.ofString "~007r")]) (P:=λd=>strP d=true) (by decide +kernel) (k:=n / 8%16) (by omega) (by show n / 8%16<16;omega)
    obtain⟨z,rfl,hz⟩:=zhP e2;exact⟨_,rfl,_,rfl,_,ym _,_,ym _,(by decide:16<=10000000),cdv n0 (by decide),_,rfl,_,e1,.inl (h z hz)⟩
   .exact hR1 _ _ ⟨rfl,rfl⟩
 rintro _ _ ⟨rfl,rfl⟩;walk_at "wd";exact⟨cdv n0 (by decide),n / 8,rfl,by omega,λk ns hk hns=>⟨_,rfl,rfl,_,_,rfl,_,_,rfl,rfl,k,ns,rfl,hns.ns,.inl (h _ (zhQ hk hns))⟩⟩
seal PE PS PSs PT PA in
theorem J2(F:Fun K "_law_text" "_law_text" (top 111) f fd)(T:Txt P w K mg C bw)(cp:Cal P w K mg base 4 "_law_part" [] (za K sPart2))(ue:Cal P w K mg base 1 "_law_mixed" [] (za K sMixM)):FnOk P w K mg base CX0 5 f fd ["_law_script","_law_first"] (za K sText2):=by
 have nd:=ZQ.nd;apply F.okU ZQ (by walk_at "ln") (λhr=>(zc (zY 2 nd (vV (Y1 (K:=K) rfl) (pv 0) (vx (pv 1)) (vx (zt yc (pv 1) zd)))) (zb (zB (yJ (K:=K) rfl mB PySem.F.slot_str_join PySem.F.type_str_join (jB (K:=K) rfl) zS (QA.pa (qc (jD (xf (N:=["_law_k","_law_cell"]) (n:=2) (js:=[])) rfl (zeq (K:=K) rfl rfl T.n_enumerate (QA.pa (qc (pv 2) qn))) (λ_ _ _ _=>(uZ (K:=K) (n:=2) rfl rfl (yU (zZ (i:=0) (show List.Nodup (["_law_k","_law_cell"]:List Str)by decide +kernel) rfl (Or.inl rfl)) (yU (zZ (i:=1) (show List.Nodup (["_law_k","_law_cell"]:List Str)by decide +kernel) rfl (Or.inl rfl)) uW)))) (λ_ _ _ _=>yy) (λ_ _ _ _=>(zo cp hr (qc (zo ue hr (qc (pv 1) (qc (pv 0) qn))) qn)))) qn)))))))
 .walk_at "ref"
 rintro _ O R ⟨ns,k,rfl,hl,h⟩;have hcm:∀d∈uC (ns.map PyData.int) (some (k:Int)) (some ((k:Int)+31)),∃n∈ns,d=.int n:=λd hd=>by
  unfold uC at hd;obtain⟨n,hn,rfl⟩:=lJ.1 (List.mem_of_mem_drop (mP hd));exact⟨n,hn,rfl⟩
 have hcl:(uC (ns.map PyData.int) (some (k:Int)) (some ((k:Int)+31))).length<=63:=by
  unfold uC;rw[mH,mI,l6];omega
 walk_at "wd"
 generalize hcu:uC (ns.map PyData.int) (some (k:Int)) (some ((k:Int)+31))=cu at hcl hcm
 refine⟨_,rfl,_,ym _,.inr (.inl ⟨rfl,_,rfl⟩),?_⟩;rw[hcu];refine⟨_,rfl,_,ym _,rfl,by omega,λd=>∃z,d=.str z/\okZ z,λw hw us hus=>?_,λds h1 h2=>?_⟩
 .obtain⟨j,hj⟩:=List.mem_iff_getElem?.mp hw
  rw[List.getElem?_zipWith]at hj;cases hr:(List.range cu.length)[j]? with
  |none=>rw[hr]at hj;cases hj
  |some i=>
  rw[hr]at hj;cases hd:cu[j]? with
  |none=>rw[hd]at hj;cases hj
  |some d=>
  rw[hd]at hj;cases hj;have hi:=mT.mp (lK hr);obtain⟨c,_,rfl⟩:=hcm d (lK hd)
  match us,hus with
  |[u0,u1],_=>exact⟨_,rfl,rfl,_,_,rfl,_,_,rfl,rfl,rfl,(by decide:2<=2),c,i,rfl,by omega,by omega,λn n0 _=>⟨n,rfl,n0,λz hz=>⟨rfl,_,rfl,z,rfl,hz⟩⟩⟩
 .obtain⟨zs,rfl,hzs⟩:=KI h2
  rw[l6]at h1;obtain⟨l1,l2,l3⟩:=KK hzs;have e:(Txt.join (Str.ofString "") zs).cps.toList=catL zs:=by rw[u5];exact YR zs
  refine⟨zs,QK _,by decide +kernel,by omega,.inl (h _ (λc hc=>l3 c (by rw[<-e];exact hc)) ?_)⟩;rw[xu,e];omega
seal PE PS PSs PT PA in
theorem Ui(F:Fun K "_law_pieces" "_law_pieces" (top 112) f fd)(T:Txt P w K mg C bw)(ue:Cal P w K mg base 1 "_law_mixed" [] (za K sMixM)):FnOk P w K mg base CX0 2 f fd ["_law_text_here","_law_cell"] (za K sPcs):=by
 have nd:=jL.nd;apply F.okU jL (by walk_at "ln") (λhr=>(zc (zY 2 nd (yd (zhb (K:=K) rfl) (by rfl) T.n_sorted (by rfl) (QA.pa (qc (jD (xf (N:=["_law_k","_law_cell","_law_text_here"]) (n:=1) (js:=[1,0])) rfl (xw rfl T.n_range (QA.pa (qc (zt yq (zo ue hr (qc (pv 1) (qc zd qn))) zd) qn))) (λ_ _ _ _=>(zZ (i:=0) (show List.Nodup (["_law_k","_law_cell","_law_text_here"]:List Str)by decide +kernel) rfl (Or.inl rfl))) (λ_ _ _ _=>yy) (λ_ _ _ _=>(zt yq (zo ue hr (qc (pv 1) (qc (pv 0) qn))) (zt yc (yd qe (by rfl) T.n_len (by rfl) (QA.pa (qc (pv 2) qn))) zd)))) qn)))) (zb (zB (vE (xf (N:=["_law_one","_law_other","_law_text_here"]) (n:=2) (js:=[0])) rfl (zjv (K:=K) rfl rfl T.n_zip (QA.pa (qc (zt (qh (K:=K) rfl) (yS (qc zd qn)) (pv 2)) (qc (zt (qh (K:=K) rfl) (pv 2) (yS (qc (yd qe (by rfl) T.n_len (by rfl) (QA.pa (qc (pv 0) qn))) qn))) qn)))) (λ_ _ _ _=>(uZ (K:=K) (n:=2) rfl rfl (yU (zZ (i:=0) (show List.Nodup (["_law_one","_law_other","_law_text_here"]:List Str)by decide +kernel) rfl (Or.inl rfl)) (yU (zZ (i:=1) (show List.Nodup (["_law_one","_law_other","_law_text_here"]:List Str)by decide +kernel) rfl (Or.inl rfl)) uW)))) (λ_ _ _ _=>yy) (λ_ _ _ _=>(vV Kn (pv 2) (vx (pv 0)) (vx (pv 1)))))))))
 .walk_at "ref"
 rintro _ O R ⟨z,c,rfl,hz,h⟩;have hsl:z.length<=sizeLine:=by rw[lS];omega
 refine ye (λρ' O'=>∃ns:List Nat,ns.length<=20/\ns.Pairwise (·<=·)/\(∀n∈ns,n<=z.length)/\ρ'=[some (.d (.str z)),some (.d (.int c)),some (.d (.list (ns.map λ(n:Nat)=>.int n)))]/\O=O') (λR1 hR1=>?_) ?_
 .walk_at "wd"
  refine⟨c,40,rfl,by decide,by decide,λn n0 _=>?_⟩;refine⟨by decide,by omega,by omega,by omega,λd=>∃m:Nat,d=.int m/\m<=z.length,λa ha us hus=>?_,λds h1 h2=>?_⟩
  .match us,hus with
   |[u],_=>
    refine⟨rfl,rfl,c,a,rfl,by omega,by omega,λn n0 _=>⟨z,rfl,hsl,by omega,rfl,?_⟩⟩;have a1:=Int.emod_nonneg n (show((z.length:Int)+1)≠0 by omega);have a2:=Int.emod_lt_of_pos n (show(0:Int)<(z.length:Int)+1 by omega);exact⟨(n%((z.length:Int)+1)).toNat,by rw[Int.toNat_of_nonneg a1],by omega⟩
  .obtain⟨xs,rfl,hxs⟩:=KJ h2
   rw[l6]at h1;obtain⟨ns,e1,e2,e3,e4⟩:=zeS hxs;refine⟨xs,by simp only[z6,lM],by omega,?_⟩;rw[e1];exact hR1 _ _ ⟨ns,by omega,e3,e4,rfl,rfl⟩
 rintro _ _ ⟨ns,n1,n2,n3,rfl,rfl⟩;walk_at "wd";have hpw:(0::ns).Pairwise (·<=·):=mL.mpr ⟨λn _=>lO _,n2⟩;have hle:∀n∈0::ns,n<=z.cps.toList.length:=λn hn=>by
  rcases lm.mp hn with rfl|hn
  .exact lO _
  .exact n3 n hn
 have hcp:=VT hpw hle;have hca:=Ks hpw hle;have ez:List.zipWith (λa b=>W.d (.tuple [a,b])) ([PyData.int 0]++ns.map λ(n:Nat)=>PyData.int n) ((ns.map λ(n:Nat)=>PyData.int n)++[PyData.int z.length])=(List.zip (0::ns) (ns++[z.cps.toList.length])).map λq=>W.d (.tuple [.int q.1,.int q.2]):=by
  have:=zeT (l1:=0::ns) (l2:=ns++[z.cps.toList.length]);rw[m9]at this;exact this
 refine⟨_,rfl,_,rfl,[.int 0],rfl,_,ym _,by rw[l6];show 1+_<=_;omega,hsl,_,rfl,_,rfl,_,ym _,[.int z.length],rfl,by rw[l6];show _+1<=_;omega,_,rfl,_,rfl,_,ym _,_,ym _,rfl,rfl,?_,pcF z,?_,?_⟩
 .simp only[lI,l6,lL,List.length_nil];omega
 .intro w hw us hu
  rw[ez]at hw;obtain⟨q,hq,rfl⟩:=lJ.1 hw
  match us,hu with
  |[a,b],_=>exact⟨_,rfl,rfl,_,_,rfl,_,_,rfl,rfl,rfl,rfl,_,rfl,_,rfl,z,rfl,hsl,rfl⟩
 .rw[ez,Qo (List.zip (0::ns) (ns++[z.cps.toList.length])) _ (pcF z) (λq=>.str (Txt.slice z (some (q.1:Int)) (some (q.2:Int)))) (λ_=>rfl)]
  have:=h ((List.zip (0::ns) (ns++[z.cps.toList.length])).map λq=>Txt.slice z (some (q.1:Int)) (some (q.2:Int))) ?_ ?_
  .rw[lM]at this
   exact .inl this
  .unfold catL
   rw[lM];refine Eq.trans ?_ hca
   congr 1
   refine mo λq hq=>?_;exact zeM (hcp q hq).1 (hcp q hq).2
  .rw[l6,List.length_zip]
   simp only[lL,lI,List.length_nil];omega
end
theorem KL(zs ys:List Str):catL (zs++ys)=catL zs++catL ys:=by unfold catL;rw[m9,List.flatten_append]
theorem KM(z:Str):catL [z]=z.cps.toList:=by show z.cps.toList++[]=_;rw[lV]
theorem zfj{zs:List Str}{z:Str}(h:zs[i]? =some z):catL (zs.take (i+1))=catL (zs.take i)++z.cps.toList:=by
 rw[List.take_add_one,h];show catL (zs.take i++[z])=_;rw[KL,KM]
theorem KN{zs:List Str}:(∀c∈catL (zs.take i),c∈catL zs)/\(catL (zs.take i)).length<=(catL zs).length:=by
 have e:catL zs=catL (zs.take i)++catL (zs.drop i):=by rw[<-KL,List.take_append_drop]
 rw[e];exact⟨λc hc=>ma _ hc,by rw[lI];omega⟩
theorem qS{m:Str}{r:Addr}(h:(m==Str.ofString "state")=false/\(m==Str.ofString "reader")=false):∀(c:Str) (b:W),(c,b)∈scF a r->¬m=c:=λc b hb e=>by
 rcases lm.mp hb with z|z
 .cases z;rw[e]at h;exact absurd h.1 (by decide +kernel)
 .cases lh.mp z;rw[e]at h;exact absurd h.2 (by decide +kernel)
theorem jw(l:List Int):(srt l).length=l.length:=(List.mergeSort_perm _ _).length_eq
theorem Yb{ρ:WS}{cN cQ:Addr}{M:Sn}{m:Str}{g:ST->List Nat->PyData}{q2:R2W}{Tb:TEW}{R:Bool->OM->Prop}(hv:ρ[i]? =some (some (.own M.x)))(hM:ScAt O cN C cQ M S b)(hF:Fit S)(hb:b.length<=90000)(hm:(m==Str.ofString "state")=false/\(m==Str.ofString "reader")=false)
  (h:Tb ρ O λy O2=>q2 (.d (g S b)) y O2 λx O1=>match x with|.d (.bool k)=>R k O1|_=>False):xz (wOp q2 (Z4 cN m (sTellN cN C cQ g) (yk i) Yv) Tb) ρ O R:=by
 unfold xz wOp;exact XD hv hM hF hb hm h
theorem neB{k:Bool}{R:Bool->OM->Prop}(h:R false O):vNe (.d (.bool k)) (.d (.bool k)) O (λx O1=>match x with|.d (.bool k)=>R k O1|_=>False):=by
 refine⟨rfl,rfl,rfl,?_⟩;have e:decide (vOf (.bool k)=vOf (.bool k))=true:=by simp
 rw[e];exact h
theorem zbq{a b:PyData}{R:Bool->OM->Prop}(e:PyData.eqv a b=true)(h:R false O):(λx O1=>match x with|W.d (.bool k)=>R k O1|_=>False) (W.d (.bool (!PyData.eqv a b))) O:=by
 rw[e];exact h
theorem zdn{Ta Tb:TTW}{B:TSW}{D:EndsW}{ρ:WS}(ha:∀R:Bool->OM->Prop,R false O->Ta ρ O R)(hb:∀R:Bool->OM->Prop,R false O->Tb ρ O R)(h:D.nx ρ O):uB (wOr Ta Tb) B j0 D ρ O:=by
 unfold uB wOr;refine ha _ ?_;show(if false=true then _ else _);rw[l8 (by decide)];refine hb _ ?_;show(if false=true then _ else _);rw[l8 (by decide)];exact h
section
variable {bw cD cS cL cT cR cQ cN:Addr}
seal PE PS PSs PT PA in
theorem zbr(F:Fun K "_law_fed" "_law_fed" (top 113) f fd)(T:Txt P w K mg C bw)(zl9:CalT P w K mg base 9 "feed" cN (za K (sFeed cN C cQ))):FnOk P w K mg base CX0 10 f fd ["_law_screen","_law_pieces_here"] (za K (sFed cN C cQ)):=by
 have nd:=Yq.nd;apply F.okU Yq (by walk_at "ln") (λhr=>(zc (zY 2 nd (yS qn)) (zc (yW lZ rfl (yP (K:=K) rfl (pv 1)) (zZ (i:=3) nd rfl (Or.inl rfl)) (zc (zY 4 nd (xV zl9 hr (pv 0) (qc (pv 3) qn))) (zc (zT (kU (yV (yd (zjD (K:=K) rfl) (by rfl) T.n_isinstance (by rfl) (QA.pa (qc (pv 4) (qc (vQ (v:=.ty "list") (u:=.type "list") rfl T.n_list rfl rfl) qn)))))) (zb (zB yG)) zX) (zc (zY 2 nd (zt (qh (K:=K) rfl) (pv 2) (pv 4))) (zb (zQ (yJ (K:=K) rfl lR lX lY Vb (pv 4) (QA.pa (qc zS qn))))))))) (zb (zB (pv 2))))))
 .walk_at "ref"
 rintro _ O R ⟨M,S,b,zs,rfl,hM,hF,hb,hz,hl,hzl,h⟩;refine y6 [some (.own M.x),some (.d (.list (zs.map .str))),some (.d (.list [])),none,none] (λR1 hR1=>?_) ?_
 .walk_at "wd"
  exact hR1
 walk_at "wd";refine⟨_,rfl,?_⟩;refine yM.by (λi ρ O'=>∃N' v3 v4,N'.x=M.x/\ρ=[some (.own M.x),some (.d (.list (zs.map .str))),some (.d (.list ((runA (rsF b (catL (zs.take i))) S).map .str))),v3,v4]/\ScAt O' cN C cQ N' (runS (rsF b (catL (zs.take i))) S) (rdF b (catL (zs.take i))).1/\Fr O O' M.l N'.l) ⟨M,_,_,rfl,rfl,hM,λa o e ha=>⟨e,ha⟩⟩ (λ_ _ _ _=>rfl) ?_ ?_
 .rintro i u _ O3 hu ⟨N',v3,v4,ex,rfl,hN,hf⟩ R2 hR2
  obtain⟨z,hzi,rfl⟩:∃z,zs[i]? =some z/\u=.d (.str z):=by
   rw[lw,lw]at hu;cases e:zs[i]? with
   |none=>rw[e]at hu;cases hu
   |some r=>rw[e]at hu;cases hu;exact⟨r,rfl,rfl⟩
  have et:=zfj hzi;obtain⟨s1,s2⟩:=KN (zs:=zs) (i:=i);obtain⟨s3,s4⟩:=KN (zs:=zs) (i:=i+1);rw[et]at s3 s4;rw[lI]at s4;have hrk:=jC (catL (zs.take i)) hb;have hro:=jG hb λc hc=>hz c (s1 c hc);have hFi:Fit (runS (rsF b (catL (zs.take i))) S):=hF.run hro;have hzl2:z.length=z.cps.toList.length:=rfl;have la:(runA (rsF b (catL (zs.take i))) S).length<=90000:=by
   have q:=qq (rs:=rsF b (catL (zs.take i))) (S:=S) λr hr S=>Ya (hro r hr);have q2:=Z9 (cs:=catL (zs.take i)) hb;omega
  simp only[um];refine ye (λρ' O'=>∃q N2,ρ'=[some (.own M.x),some (.d (.list (zs.map .str))),some (.d (.list ((runA (rsF b (catL (zs.take i))) S).map .str))),some (.d (.str z)),some (.own q)]/\N2.x=N'.x/\O3 q=none/\O' q=some (.lst (((runA (rsF (rdF b (catL (zs.take i))).1 z.cps.toList) (runS (rsF b (catL (zs.take i))) S)).map .str).map .d))/\q∉N2.l/\ScAt O' cN C cQ N2 (runS (rsF b (catL (zs.take (i+1)))) S) (rdF b (catL (zs.take (i+1)))).1/\Fr O3 O' N'.l N2.l) (λR3 hR3=>?_) ?_
  .walk_at "wd"
   refine⟨N'.dx,_,by rw[<-ex];exact hN.x,qS (by decide +kernel),N',_,_,z,by rw[ex],hN,hFi,hrk.1,λc hc=>hz c (s3 c (lN _ hc)),by omega,λq N2 O4 e1 e2 e3 e4 e5 e6=>hR3 _ _ ⟨q,N2,rfl,e1,e2,e3,e4,?_,e6⟩⟩;rw[et,Vc,X1,QP];exact e5
  rintro _ O4 ⟨q,N2,rfl,ex2,hq3,hq4,nq,hN4,hf4⟩;have sq:z6 O4 (.own q)=some (((runA (rsF (rdF b (catL (zs.take i))).1 z.cps.toList) (runS (rsF b (catL (zs.take i))) S)).map .str).map .d):=by simp only[z6,hq4]
  have lb:(runA (rsF (rdF b (catL (zs.take i))).1 z.cps.toList) (runS (rsF b (catL (zs.take i))) S)).length<=90000:=by
   have q:=qq (rs:=rsF (rdF b (catL (zs.take i))).1 z.cps.toList) (S:=runS (rsF b (catL (zs.take i))) S) λr hr S=>Ya (jG hrk.1 (λc hc=>hz c (s3 c (lN _ hc))) r hr);have q2:=Z9 (cs:=z.cps.toList) hrk.1;omega
  walk_at "wd";refine⟨⟨_,hq4⟩,_,rfl,_,sq,_,ym _,_,ym _,by rw[l6,l6];omega,.inl ⟨rfl,by simp[z6,hq4]⟩,updO O4 q (.lst ((((runA (rsF (rdF b (catL (zs.take i))).1 z.cps.toList) (runS (rsF b (catL (zs.take i))) S)).map .str).map .d)++[.d (.str (Str.ofString "more"))])),?_,hR2 _ _ ⟨N2,some (.d (.str z)),some (.own q),ex2.trans ex,?_,hN4.of λa ha o e=>?_,λa o e ha=>?_⟩⟩
  .simp only[Zk,hq4]
   rw[lg (by rw[l6,l6];omega)]
  .rw[<-m9,et,Vc,YC]
  .rw[ze (λz=>nq (by rw[<-z];exact ha))]
   exact e
  .obtain⟨e3,a3⟩:=hf a o e ha
   obtain⟨e4,a4⟩:=hf4 a o e3 a3;exact⟨by rw[ze (λz=>by rw[z,hq3]at e3;cases e3)];exact e4,a4⟩
 .rintro _ O3 ⟨N',v3,v4,ex,rfl,hN,hf⟩
  rw[l6,l6,mU]at *;exact .inl (h N' O3 ex hN hf)
seal PE PS PSs PT PA in
theorem Ju(F:Fun K "_law_is_at" "_law_is_at" (top 115) f fd)(T:Txt P w K mg C bw)(zmg:CalT P w K mg base 2 "told_picture" cN (za K (sTellN cN C cQ tPic)))(zl8:CalT P w K mg base 1 "cursor" cN (za K (sTellN cN C cQ tCur)))(zmd:CalT P w K mg base 1 "modes" cN (za K (sTellN cN C cQ tMod)))(zma:CalT P w K mg base 1 "is_late" cN (za K (sTellN cN C cQ tLate)))(zmf:CalT P w K mg base 1 "told_ink" cN (za K (sTellN cN C cQ tInk)))(zme:CalT P w K mg base 2 "open_row" cN (za K (sTellN cN C cQ tOpn)))(zl4:CalT P w K mg base 1 "open_row" cQ (za K (Zl cQ))):FnOk P w K mg base CX0 3 f fd ["_law_screen","_law_reader","_law_state"] (za K (sIsAt cN C cQ)):=by
 have nd:=kQ.nd;apply F.okU kQ (by walk_at "ln") (λhr=>(zc (zT (PW.pt (vh (zU (ql (K:=K) rfl hr.units) (yi zmg (hr.mono (by decide)) (pv 0)) (fl K (pv 2))) (vc (zU (ql (K:=K) rfl hr.units) (yi zl8 (hr.mono (by decide)) (pv 0)) (yb (qc (fl K (pv 2)) (qc (fl K (pv 2)) qn))))))) (zb (zB yC)) zX) (zc (zT (PW.pt (vh (zU (ql (K:=K) rfl hr.units) (yi zmd (hr.mono (by decide)) (pv 0)) (yb (qc (fl K (pv 2)) (qc (fl K (pv 2)) (qc (fl K (pv 2)) qn))))) (vc (zU K0 (yi zma (hr.mono (by decide)) (pv 0)) (fl K (pv 2)))))) (zb (zB yC)) zX) (zb (zB (kX (Xi z7 (yi zmf (hr.mono (by decide)) (pv 0)) (fl K (pv 2))) (kW (Xi z7 (yi zme (hr.mono (by decide)) (pv 0)) (yi zl4 (hr.mono (by decide)) (pv 1))))))))))
 .walk_at "ref"
 rintro _ O R ⟨M,S,b,x,dx,p,A,rfl,hM,hx,hA,hF,hb,hc,h⟩;refine y6 [some (.own M.x),some (.own x),some (.own A.x)] (λR1 hR1=>?_) ?_
 .refine zdn (λR2 h2=>?_) (λR2 h2=>?_) hR1
  .refine Yb rfl hM hF hb (by decide +kernel) ?_
   refine xH rfl hA.x T.st.cl T.st.n_picture zg ?_;have lv:=Lv.grid hF.g.a.1;refine⟨_,_,rfl,by simp only[XO,hA.p],lv.sh (by decide),lv.sh (by decide),?_⟩;exact zbq lv.eq h2
  .refine Yb rfl hM hF hb (by decide +kernel) ?_
   unfold Yw;refine qp rfl hA.x T.st.cl T.st.n_row zL ?_;refine qp rfl hA.x T.st.cl T.st.n_column zj ?_;have lv:Lv 1 (tCur S b):=.tup (.cons .int (.cons .int .nil));refine⟨_,rfl,(by decide:2<=1000),_,_,rfl,rfl,lv.sh (by decide),lv.sh (by decide),?_⟩;exact zbq lv.eq h2
 refine y6 [some (.own M.x),some (.own x),some (.own A.x)] (λR1 hR1=>?_) ?_
 .refine zdn (λR2 h2=>?_) (λR2 h2=>?_) hR1
  .refine Yb rfl hM hF hb (by decide +kernel) ?_
   unfold Yw;refine qp rfl hA.x T.st.cl T.st.n_wrap zw ?_;refine qp rfl hA.x T.st.cl T.st.n_putting zh ?_;refine qp rfl hA.x T.st.cl T.st.n_home zx ?_;have lv:Lv 1 (tMod S b):=.tup (.cons .bool (.cons .bool (.cons .bool .nil)));refine⟨_,rfl,(by decide:3<=1000),_,_,rfl,rfl,lv.sh (by decide),lv.sh (by decide),?_⟩;exact zbq lv.eq h2
  .refine Yb rfl hM hF hb (by decide +kernel) ?_
   refine xH rfl hA.x T.st.cl T.st.n_late zv ?_;exact neB h2
 refine qP ?_;unfold zal;unfold wOp;refine XD rfl hM hF hb (by decide +kernel) ?_;refine xH rfl hA.x T.st.cl T.st.n_ink zK ?_;refine⟨_,rfl,?_⟩;rw[lg (lQ rfl)];refine XD rfl hM hF hb (by decide +kernel) ?_;refine⟨x,dx,_,rfl,hx.x,Vt rfl (by decide +kernel),x,dx,p,b,rfl,hx,by omega,?_⟩;refine zkU ?_;rw[lQ rfl];exact .inl h
seal PE PS PSs PT PA in
theorem Uj(F:Fun K "_law_spoilt" "_law_spoilt" (top 116) f fd)(T:Txt P w K mg C bw)(zmg:CalT P w K mg base 2 "told_picture" cN (za K (sTellO cN C cQ λS=>.grid (genG S.h S.w S.pic))))(zmh:CalT P w K mg base 1 "told_stops" cN (za K (sTellO cN C cQ λS=>.lst (((srt S.stops).map .int).map .d))))(zmb:CalT P w K mg base 2 "lines" cN (za K (sTellO cN C cQ λS=>.lst (((linT S).map .str).map .d)))):FnOk P w K mg base CX0 3 f fd ["_law_screen"] (za K (sSpo cN C cQ)):=by
 have nd:=jM.nd;apply F.okU jM (by walk_at "ln") (λhr=>(zc (zY 1 nd (yi zmg (hr.mono (by decide)) (pv 0))) (zc (u7 (yb (qc zS (qc zd qn))) (kY (z9 (yY (K:=K) rfl) (pv 1) zd) zd qd)) (zc (zQ (yJ (K:=K) rfl lR lX lY y7 (pv 1) (QA.pa (qc (yI qn) qn)))) (zc (zQ (yJ (K:=K) rfl lR lX lY y7 (yi zmh (hr.mono (by decide)) (pv 0)) (QA.pa (qc zd qn)))) (zb (zQ (yJ (K:=K) rfl lR lX lY y7 (yi zmb (hr.mono (by decide)) (pv 0)) (QA.pa (qc zS qn))))))))))
 .walk_at "ref"
 rintro _ O R ⟨M,S,b,rfl,hM,hF,h⟩;refine ye (λρ' O'=>∃g,ρ'=[some (.own M.x),some (.own g)]/\O g=none/\O'=updO O g (.grid (genG S.h S.w S.pic))) (λR1 hR1=>?_) ?_
 .walk_at "wd"
  exact⟨M.dx,_,hM.x,qS (by decide +kernel),M,S,b,rfl,hM,hF,λg hg=>hR1 _ _ ⟨g,rfl,hg,rfl⟩⟩
 rintro _ _ ⟨g,rfl,hg,rfl⟩;have hh:=hF.g.b.h2;have h1:=hF.g.b.h1;have w1:=hF.g.b.w1;refine ye (λρ' O'=>∃rows,ρ'=[some (.own M.x),some (.own g)]/\rows.length<=12/\O'=updO O g (.grid rows)) (λR1 hR1=>?_) ?_
 .walk_at "wd"
  obtain⟨n,en⟩:∃n,S.h=n+1:=⟨S.h-1,by omega⟩;have sg:z6 (updO O g (.grid (genG S.h S.w S.pic))) (.own g)=some ((List.range S.h).map (.row g)):=by simp[z6,zf,genG]
  refine⟨_,sg,.row g 0,by rw[en,List.range_succ_eq_map,lG];exact zhB,?_⟩;have e0:(genG S.h S.w S.pic)[0]? =some ((List.range S.w).map λj=>celD (S.pic 0 j)):=by
   unfold genG;rw[lw,List.getElem?_range (by omega)];rfl
  have e1:ixN ((List.range S.w).map λj=>celD (S.pic 0 j)).length 0 =some 0:=by
   rw[l6,mj];simp[ixN];omega
  refine⟨updO (updO O g (.grid (genG S.h S.w S.pic))) g (.grid ((genG S.h S.w S.pic).set 0 (((List.range S.w).map λj=>celD (S.pic 0 j)).set 0 (.tuple [.str (Str.ofString "?"),.int 511])))),by simp only[j4,zf,e0,e1];rfl,hR1 _ _ ⟨_,rfl,?_,by rw[yL]⟩⟩;rw[List.length_set];unfold genG;rw[l6,mj];exact hh
 rintro _ _ ⟨rows,rfl,hr,rfl⟩;have hx:∀O',Old O O'->O' M.x=some (.ins cN M.dx (scF M.A.x M.rx)):=λO' o=>by rw[o M.x (by rw[hM.x];simp)];exact hM.x
 walk_at "wd";refine⟨.inl ⟨rfl,by simp[z6,zf]⟩,λp hp=>?_⟩;have gp:g≠p:=λe=>by rw[<-e,zf]at hp;cases hp
 have hp0:O p=none:=by rw[ze (Ne.symm gp)]at hp;exact hp
 have o1:Old O (updO (del (updO (updO O g (.grid rows)) p (.lst [])) p) g (.grid (rows++[[]]))):=λa ha=>by
  have n1:a≠g:=λe=>ha (by rw[e];exact hg);have n2:a≠p:=λe=>ha (by rw[e];exact hp0);rw[ze n1,vd n2,ze n2,ze n1]
 refine⟨updO (del (updO (updO O g (.grid rows)) p (.lst [])) p) g (.grid (rows++[[]])),?_,M.dx,_,hx _ o1,qS (by decide +kernel),M,S,b,rfl,hM.old o1,hF,λq hq=>?_⟩
 .simp only[j6,ze gp,zf]
  rw[lg (by omega)];rfl
 have hq0:O q=none:=o1.new hq;refine⟨.inl ⟨rfl,by simp[z6,zf]⟩,?_⟩;have l24:=hF.g.s;refine⟨_,by simp only[j6,zf];rw[lg (by rw[l6,jw];omega)],?_⟩;have o2:=o1.upd (o:=.lst (List.map (W.d∘PyData.int) (srt S.stops)++[.d (.int 99)])) hq0;rw[yL];refine⟨M.dx,_,hx _ o2,qS (by decide +kernel),M,S,b,rfl,hM.old o2,hF,λr hr'=>⟨.inl ⟨rfl,by simp[z6,zf]⟩,_,by simp only[j6,zf];rw[lg (by rw[l6];unfold linT;rw[l6,mj];omega)],.inl ?_⟩⟩;rw[yL];exact h _ (o2.upd (o2.new hr'))
seal PE PS PSs PT PA in
theorem XE(F:Fun K "_law_by_parts" "_law_by_parts" (top 114) f fd)(T:Txt P w K mg C bw)(D:Dds K mg cD cS cL cT cR)(zl5:CalT P w K mg base 4 "read" cQ (za K (Xg cQ)))(ud:Cal P w K mg base 3 "deed_of" [] (za K (sDeedOf cS cL cT cR)))(zmj:CalT P w K mg base 6 "do" cS (za K (sDeedDo C (aS cS))))(zl2:CalT P w K mg base 5 "do" cL (za K (sDeedDo C (aL cL))))(zml:CalT P w K mg base 3 "do" cT (za K (sDeedDo C (aT cT))))(zl7:CalT P w K mg base 8 "do" cR (za K (sDeedDo C (aR cR)))):FnOk P w K mg base CX0 9 f fd ["_law_reader","_law_state","_law_text_here"] (za K (sByP C cQ)):=by
  have nd:=qD.nd;apply F.okU qD (by walk_at "ln") (λhr=>(zc (zY 3 nd (yS qn)) (zc (yW lZ rfl (yP (K:=K) rfl (xV zl5 hr (pv 0) (qc (pv 2) qn))) (zZ (i:=4) nd rfl (Or.inl rfl)) (zb (zY 3 nd (zt (qh (K:=K) rfl) (pv 3) (jF (xV zmj hr (zo ud hr (qc (pv 4) qn)) (qc (pv 1) qn)) (jF (xV zl2 hr (zo ud hr (qc (pv 4) qn)) (qc (pv 1) qn)) (jF (xV zml hr (zo ud hr (qc (pv 4) qn)) (qc (pv 1) qn)) (xV zl7 hr (zo ud hr (qc (pv 4) qn)) (qc (pv 1) qn))))))))) (zb (zB (pv 3))))))
  · walk_at "ref"
  rintro _ O R ⟨x,dx,p,A,S,b,z,rfl,hx,hA,hd,hF,hb,hz,hl,h⟩;refine y6 [some (.own x),some (.own A.x),some (.d (.str z)),some (.d (.list [])),none] (λR1 hR1=>?_) ?_
  · walk_at "wd"
    exact hR1
  have hro:=jG hb hz;have hrl:=Z9 (cs:=z.cps.toList) hb;have hzl:z.length=z.cps.toList.length:=rfl;have z128:z.cps.all (· < 128)=true:=by
    rw[m7];intro c hc;have:=hz c (mM.mpr hc);unfold okF at this;exact lQ (by omega)
  have r6:∀r∈rsF b z.cps.toList,∀S,(rdA r S).length<=6:=λr hr S=>Ya (hro r hr);walk_at "wd";refine⟨dx,_,hx.x,λa b hab=>by cases lh.mp hab;decide +kernel,x,dx,p,b,z,rfl,hx,hb,z128,by omega,λp' O2 g1 g2 g3=>?_⟩;rw[Xm]
  generalize hrs:rsF b z.cps.toList=rs at *
  have f2:=zgf g2 g3;refine⟨_,rfl,?_⟩;obtain⟨hA2,dA2⟩:=f2.at hA hd.symm;refine yM.by (λi ρ O'=>∃A' v4,A'.x=A.x/\ρ=[some (.own x),some (.own A.x),some (.d (.str z)),some (.d (.list ((runA (rs.take i) S).map .str))),v4]/\At O' C A' (runS (rs.take i) S)/\Fr O2 O' A.l A'.l) ⟨A,_,rfl,rfl,hA2,λa o e ha=>⟨e,ha⟩⟩ (λ_ _ _ _=>rfl) ?_ ?_
  · rintro i u _ O3 hu ⟨A',v4,ex,rfl,hA3,hf3⟩ R2 hR2
    obtain⟨r,hr,rfl⟩:∃r,rs[i]? =some r/\u=.d (rdD r):=by
      rw[lw,lw]at hu;cases e:rs[i]? with
      |none=>rw[e]at hu;cases hu
      |some r=>rw[e]at hu;cases hu;exact⟨r,rfl,rfl⟩
    have hok:=hro r (lK hr);have et:rs.take (i+1)=rs.take i++[r]:=by rw[List.take_add_one,hr];rfl
    have hFi:Fit (runS (rs.take i) S):=hF.run λx hx=>hro x (mP hx);simp only[um];have lA:(runA (rs.take i) S).length<=500000:=by
      have q:=qq (rs:=rs.take i) (S:=S) λx hx=>r6 x (mP hx);have q2:=List.length_take_le i rs;have hir:i<rs.length:=(lx.mp hr).1;omega
    have lB:=r6 r (lK hr) (runS (rs.take i) S);have step:∀O4,Old O3 O4->∀q st' kp' O5,O4 q=none->O5 q=some (.lst (((rdA r (runS (rs.take i) S)).map .str).map .d))->q≠kp'->Nxt O4 O5 C A'.x A'.dx A'.p A'.st A'.kp st' kp' (rdS' r (runS (rs.take i) S))->
        XY (.d (.list ((runA (rs.take i) S).map .str))) (.own q) O5 (λv O6=>R2 [some (.own x),some (.own A.x),some (.d (.str z)),some v,some (.d (rdD r))] O6):=λO4 o4 q st' kp' O5 hq4 hq5 nk N5=>by
      have sq:z6 O5 (.own q)=some (((rdA r (runS (rs.take i) S)).map .str).map .d):=by simp only[z6,hq5]
      refine⟨_,_,_,_,rfl,sq,ym _,ym _,by rw[l6,l6];omega,hR2 _ _ ⟨⟨A'.x,A'.dx,A'.p,st',kp'⟩,some (.d (rdD r)),ex,?_,?_,λa o e ha=>?_⟩⟩
      · rw[et,QR,m9]
      · rw[et,QQ]
        exact N5.s
      · obtain⟨e3,a3⟩:=hf3 a o e ha
        exact N5.fr a o ((o4 a (by rw[e3];simp)).trans e3) a3
    unfold XU wOp;show yk 3 _ O3 _;unfold yk;cases r with
    |sign c=>
      refine .inl ⟨_,rfl,hok,λd O4 nd4 hd4 o4=>?_⟩;obtain⟨dd,hd4⟩:=hd4;exact⟨d,dd,_,rfl,hd4,Vt rfl (by decide +kernel),_,24,d,A'.x,A'.dx,A'.p,A'.st,A'.kp,_,by rw[ex],⟨c,dd,rfl,hd4⟩,hok,by decide,by decide,hA3.old o4,hFi.g,step O4 o4⟩
    |line=>
      refine .inr (.inl ⟨_,rfl,hok,λd O4 nd4 hd4 o4=>?_⟩);obtain⟨dd,hd4⟩:=hd4;exact⟨d,dd,_,rfl,hd4,rfl,_,24,d,A'.x,A'.dx,A'.p,A'.st,A'.kp,_,by rw[ex],⟨dd,rfl,hd4⟩,hok,by decide,by decide,hA3.old o4,hFi.g,step O4 o4⟩
    |tab=>
      refine .inr (.inr (.inl ⟨_,rfl,hok,λd O4 nd4 hd4 o4=>?_⟩));obtain⟨dd,hd4⟩:=hd4;exact⟨d,dd,_,rfl,hd4,rfl,_,24,d,A'.x,A'.dx,A'.p,A'.st,A'.kp,_,by rw[ex],⟨dd,rfl,hd4⟩,hok,by decide,by decide,hA3.old o4,hFi.g,step O4 o4⟩
    |row c ns=>
      refine .inr (.inr (.inr ⟨_,rfl,hok,λd O4 nd4 hd4 o4=>?_⟩));obtain⟨dd,hd4⟩:=hd4;exact⟨d,dd,_,rfl,hd4,YM rfl (by decide +kernel) (by decide +kernel),_,24,d,A'.x,A'.dx,A'.p,A'.st,A'.kp,_,by rw[ex],⟨c,ns,dd,rfl,hd4⟩,hok,by decide,by decide,hA3.old o4,hFi.g,step O4 o4⟩
  · rintro _ O3 ⟨A',v4,ex,rfl,hA3,hf3⟩
    rw[l6,l6,mU]at *;obtain⟨r1,r2⟩:=hf3.rd g1 dA2.symm;refine .inl (h p' A' O3 ex r1 hA3 r2 ?_);have q1:Fr O O2 ([x,p]++A.l) ([x,p']++A.l):=Fr.app f2 hA.nn hd.symm;have q2:Fr O2 O3 (A.l ++ [x,p']) (A'.l ++ [x,p']):=Fr.app hf3 (fun a ha=>by
      simp only[lm,lD,m6]at ha;rcases ha with rfl|rfl
      · exact⟨_,g1.x⟩
      · exact⟨_,g1.p⟩) dA2.symm
    exact q1.trans q2.sw
end
theorem u6{i:Int}(h0:-32<=i)(h1:i<32):PyData.strOk (strI i)=true:=by
 have key:∀k:_root_.Fin 64,PyData.strOk (strI ((k.val:Int)-32))=true:=by decide +kernel
 have q:=key ⟨(i+32).toNat,by omega⟩;have e:(((i+32).toNat:Nat):Int)-32 =i:=by omega
 rw[<-e];exact q
theorem vC{a b:Str}(ha:PyData.strOk a=true)(hb:PyData.strOk b=true):PyData.strOk (a++b)=true:=by
 unfold PyData.strOk at ha hb ⊢;rw[<-Array.all_toList]at ha hb ⊢;rw[xn,List.all_append,ha,hb];rfl
theorem zdo :∀k:_root_.Fin 64,PyData.strOk (inkT (0+k.val))=true:=by decide +kernel
theorem zdp :∀k:_root_.Fin 64,PyData.strOk (inkT (64+k.val))=true:=by decide +kernel
theorem zdq :∀k:_root_.Fin 64,PyData.strOk (inkT (128+k.val))=true:=by decide +kernel
theorem zdr :∀k:_root_.Fin 64,PyData.strOk (inkT (192+k.val))=true:=by decide +kernel
theorem zds :∀k:_root_.Fin 64,PyData.strOk (inkT (256+k.val))=true:=by decide +kernel
theorem zdt :∀k:_root_.Fin 64,PyData.strOk (inkT (320+k.val))=true:=by decide +kernel
theorem zdu :∀k:_root_.Fin 64,PyData.strOk (inkT (384+k.val))=true:=by decide +kernel
theorem zdv :∀k:_root_.Fin 64,PyData.strOk (inkT (448+k.val))=true:=by decide +kernel
theorem zhR(h:n<512):PyData.strOk (inkT n)=true:=by
 have e:n=64*(n/64)+n%64:=by omega
 have hk:n%64<64:=by omega
 rcases(by omega:n/64=0\/n/64=1\/n/64=2\/n/64=3\/n/64=4\/n/64=5\/n/64=6\/n/64=7)with q|q|q|q|q|q|q|q<;>rw[e,q]
 .exact zdo ⟨n%64,hk⟩
 .exact zdp ⟨n%64,hk⟩
 .exact zdq ⟨n%64,hk⟩
 .exact zdr ⟨n%64,hk⟩
 .exact zds ⟨n%64,hk⟩
 .exact zdt ⟨n%64,hk⟩
 .exact zdu ⟨n%64,hk⟩
 .exact zdv ⟨n%64,hk⟩
theorem zdw(hb:Bds S):PyData.strOk (plT S)=true:=by
 have b1:=hb.r0;have b2:=hb.r1;have b3:=hb.c0;have b4:=hb.c1;have b5:=hb.t0;have b6:=hb.tb;have b7:=hb.b1;have b8:=hb.l0;have b9:=hb.lr;have b10:=hb.rr;have b11:=hb.w2;have b12:=hb.h2;have s0:PyData.strOk (Str.ofString ";")=true:=by decide +kernel
 unfold plT;split
 .exact vC (vC (u6 (by omega) (by omega)) s0) (u6 (by omega) (by omega))
 .exact vC (vC (u6 (by omega) (by omega)) s0) (u6 (by omega) (by omega))
theorem zj6(hb:Bds S):PyData.strOk (szT S)=true:=by
 have b11:=hb.w2;have b12:=hb.h2;have s0:PyData.strOk (Str.ofString "x")=true:=by decide +kernel
 exact vC (vC (u6 (by omega) (by omega)) s0) (u6 (by omega) (by omega))
theorem zhS(hb:Bds S)(n:PyData):∀z∈ansD S n,PyData.strOk z=true:=by
 have i0:=hb.i0;have i1:=hb.i1;intro z hz;unfold ansD at hz;split at hz
 .cases lh.1 hz;exact zdw hb
 .split at hz
  .cases lh.1 hz;exact zdw hb
  .split at hz
   .cases lh.1 hz;exact zj6 hb
   .split at hz
    .cases lh.1 hz;exact zhR (by omega)
    .cases hz
 .cases hz
theorem zhT(hb:Bds S)(ns:List PyData):∀z∈ansL S ns,PyData.strOk z=true:=by
 intro z hz;unfold ansL at hz;obtain⟨l,hl,hz⟩:=List.mem_flatten.1 hz;obtain⟨n,_,rfl⟩:=lJ.1 hl;exact zhS hb n z hz
theorem zj7{r:Rea}(h:Good n S)(hr:OkR r):(∀z∈rdA r S,PyData.strOk z=true)/\(rdA r S).length<=6:=by
 cases r with
 |row c ns=>
  show(∀z∈(if c= 113 then ansL S ns else[]),PyData.strOk z=true)/\(if c= 113 then ansL S ns else[]).length<=6;split
  .exact⟨zhT h.b ns,lT (kH ns) hr.2.l⟩
  .exact⟨λz hz=>(by cases hz),lO _⟩
 |_=>exact⟨λz hz=>(by cases hz),lO _⟩
def sLaw22:SpW:=λws O R=>∃ns:List Int,ws=[.d (.list (ns.map .int))]/\ns.length<=63/\∀O',R (.d (.bool true)) O'
structure V3 (O:OM) (cN C cQ:Addr) (N1 N2:Sn) (x dx p:Addr) (A:Sd) (S:ST) (b:List Nat):Prop where
 a:ScAt O cN C cQ N1 S b
 c:ScAt O cN C cQ N2 S b
 r:RdAt cQ O x dx p b
 s:At O C A S
 d12:Dj N1.l N2.l
 dr1:Dj [x,p] (N1.l++N2.l)
 dA1:Dj A.l (N1.l++N2.l)
 dra:Dj [x,p] A.l
section
variable {O':OM}{cN cQ x:Addr}{N1 N2:Sn}{A:Sd}
theorem V3.old(h:V3 O cN C cQ N1 N2 x dx p A S b)(k:Old O O'):V3 O' cN C cQ N1 N2 x dx p A S b:=⟨h.a.old k,h.c.old k,h.r.old k,h.s.old k,h.d12,h.dr1,h.dA1,h.dra⟩
theorem V3.swap(h:V3 O cN C cQ N1 N2 x dx p A S b):V3 O cN C cQ N2 N1 x dx p A S b:=
 have sw:∀{l m n:List Addr},Dj l (m++n)->Dj l (n++m):=λh a ha z=>h a ha (by rw[lz]at z ⊢;exact z.symm)
 ⟨h.c,h.a,h.r,h.s,h.d12.symm,sw h.dr1,sw h.dA1,h.dra⟩
theorem zlU (h:∀ c∈b,c < 128):PyData.strOk ⟨b.toArray⟩=true:=zc5 (by
  rw[m7];intro c hc;exact lQ (h c (by simpa using hc)))
theorem zj8{g:Nat->Cel}(h:∀j,j<n->okC (g j)):PyData.strOk (rowTx n g)=true:=by
 unfold rowTx PyData.strOk;rw[m7];intro c hc;have hc':c∈(Txt.join noS ((List.range n).map λj=>(g j).1)).cps.toList:=mM.mpr hc;rw[u5,YR]at hc';obtain⟨l,hl,hcl⟩:=List.mem_flatten.mp hc';obtain⟨z,hz,rfl⟩:=lJ.mp hl;obtain⟨j,hj,rfl⟩:=lJ.mp hz;have:=h j (mT.mp hj);unfold okC PyData.strOk at this;rw[m7]at this;exact this c (mM.mp hcl)
theorem zj9(hF:Fit S)(hb:∀c∈b,c<128):Lv 4 (tAll S b):=by
 have up:∀{d:PyData},Lv 1 d->Lv 3 d:=λq=>⟨q.lay,lT q.dep (by decide),q.eq⟩;have ll:Lv 1 (tLin S b):=Lv.strs λz hz=>by
  unfold linT at hz;obtain⟨i,hi,rfl⟩:=lJ.mp hz;exact zj8 λj hj=>hF.g.a.1 i j (mT.mp hi) hj
 exact .list (.cons (.grid hF.g.a.1) (.cons (up (.tup (.cons .int (.cons .int .nil)))) (.cons .bool (.cons .int (.cons (up (.tup (.cons .bool (.cons .bool (.cons .bool .nil))))) (.cons (up (.tup (.cons .int (.cons .int (.cons .int (.cons .int .nil)))))) (.cons (up .ints) (.cons .int (.cons (.str (zlU hb)) (.cons (up ll) .nil))))))))))
theorem KO:∀{rs:List Rea}{S:ST},Fit S->(∀r∈rs,OkR r)->∀z∈runA rs S,PyData.strOk z=true
 |[],_,_,_,z,hz=>by cases hz
 |r::rs,S,h,hr,z,hz=>by
  rcases lz.mp (show z∈rdA r S++runA rs (rdS' r S)from hz)with q|q
  .exact(zj7 h.g (hr r li)).1 z q
  .exact KO (rs:=rs) (h.rd (hr r li)) (λx hx=>hr x (lj _ hx)) z q
end
inductive Iv (cN C cQ:Addr) (ns:List Int) (wd hg:Nat) (i:Nat) (ρ:WS) (O:OM):Prop
 |mk:∀N1 N2 x dx p A S b v7 v8 v9 v10,ρ=[some (.d (.list (ns.map .int))),some (.d (.int wd)),some (.d (.int hg)),some (.own N1.x),some (.own N2.x),some (.own x),some (.own A.x),v7,v8,v9,v10]->V3 O cN C cQ N1 N2 x dx p A S b->Fit S->okG b->b.length<=7000*i->(∀c∈b,c<128)->Iv cN C cQ ns wd hg i ρ O
section
variable {bw cD cS cL cT cR cQ cN:Addr}
seal PE PS PSs PT PA in
theorem zka(F:Fun K "law" "law" (top 117) f fd)(T:Txt P w K mg C bw)(cq:Cal P w K mg base 1 "_law_size" [] (za K sSizeM))(ue:Cal P w K mg base 1 "_law_mixed" [] (za K sMixM))(af:Cal P w K mg base 1 "_law_at" [] (za K XZ))(ag:CalM P w K mg base 6 "Screen" cN (za K (sInitN cN C cQ)))(wx:CalM P w K mg base 1 "Reader" cQ (za K (Qs cQ)))(ww:CalM P w K mg base 4 "State" C (za K (sInit C)))(cr:Cal P w K mg base 5 "_law_text" [] (za K sText2))(cv:Cal P w K mg base 2 "_law_pieces" [] (za K sPcs))(ah:Cal P w K mg base 10 "_law_fed" [] (za K (sFed cN C cQ)))(wz:Cal P w K mg base 3 "_law_all" [] (za K (sTellN cN C cQ tAll)))(cw:Cal P w K mg base 9 "_law_by_parts" [] (za K (sByP C cQ)))(cx:Cal P w K mg base 3 "_law_is_at" [] (za K (sIsAt cN C cQ)))(cy:Cal P w K mg base 3 "_law_spoilt" [] (za K (sSpo cN C cQ)))(zl8:CalT P w K mg base 1 "cursor" cN (za K (sTellN cN C cQ tCur)))(zmi:CalT P w K mg base 1 "window" cN (za K (sTellN cN C cQ tWin)))(zmd:CalT P w K mg base 1 "modes" cN (za K (sTellN cN C cQ tMod)))(zma:CalT P w K mg base 1 "is_late" cN (za K (sTellN cN C cQ tLate))):FnOk P w K mg base CX0 11 f fd ["_law_script"] (za K sLaw22):=by
 have nd:=zdc.nd;apply F.okU zdc (by walk_at "ln") (λhr=>(zc (u7 (zo cq hr (qc (zo ue hr (qc (zo af hr (qc (pv 0) (qc zd qn))) (qc zd qn))) qn)) (uZ (K:=K) (n:=2) rfl rfl (yU (zZ (i:=1) nd rfl (Or.inl rfl)) (yU (zZ (i:=2) nd rfl (Or.inl rfl)) uW)))) (zc (zY 3 nd (jx ag (hr.mono (by decide)) rfl (QA.pa (qc (pv 1) (qc (pv 2) qn))))) (zc (zY 4 nd (jx ag (hr.mono (by decide)) rfl (QA.pa (qc (pv 1) (qc (pv 2) qn))))) (zc (zY 5 nd (Kr wx (hr.mono (by decide)) rfl)) (zc (zY 6 nd (jx ww (hr.mono (by decide)) rfl (QA.pa (qc (pv 1) (qc (pv 2) qn))))) (zc (yW lZ rfl (vZ (K:=K) rfl (yb (qc zd (qc zd qn)))) (zZ (i:=7) nd rfl (Or.inl rfl)) (zc (zY 8 nd (zo cr hr (qc (pv 0) (qc (pv 7) qn)))) (zc (zY 9 nd (zo cv hr (qc (pv 8) (qc (zt yc (zo af hr (qc (pv 0) (qc zd qn))) (pv 7)) qn)))) (zc (zY 10 nd (zo ah hr (qc (pv 3) (qc (yS (qc (pv 8) qn)) qn)))) (zc (zT (PW.pt (vh (zU u8 (pv 10) yG) (vh (zU (ql (K:=K) rfl hr.units) (pv 10) (zo ah hr (qc (pv 4) (qc (pv 9) qn)))) (vc (zU (ql (K:=K) rfl hr.units) (zo wz hr (qc (pv 3) qn)) (zo wz hr (qc (pv 4) qn))))))) (zb (zB yC)) zX) (zc (zT (PW.pt (vh (zU (ql (K:=K) rfl hr.units) (pv 10) (zo cw hr (qc (pv 5) (qc (pv 6) (qc (pv 8) qn))))) (vc (kU (yV (zo cx hr (qc (pv 3) (qc (pv 5) (qc (pv 6) qn))))))))) (zb (zB yC)) zX) (zc (zQ (zo cy hr (qc (pv 3) qn))) (zc (zT (zU (ql (K:=K) rfl hr.units) (zo wz hr (qc (pv 3) qn)) (zo wz hr (qc (pv 4) qn))) (zb (zB yC)) zX) (zc (zT (PW.pt (vh (kU (yV (yd (zcx (K:=K) rfl) (by rfl) T.n_isinstance (by rfl) (QA.pa (qc (yi zl8 (hr.mono (by decide)) (pv 3)) (qc (vQ (v:=.ty "tuple") (u:=.type "tuple") rfl T.n_tuple rfl rfl) qn)))))) (vc (kU (yV (yd (zcx (K:=K) rfl) (by rfl) T.n_isinstance (by rfl) (QA.pa (qc (yi zmi (hr.mono (by decide)) (pv 3)) (qc (vQ (v:=.ty "tuple") (u:=.type "tuple") rfl T.n_tuple rfl rfl) qn))))))))) (zb (zB yC)) zX) (zb (zie (i:=3) (j:=4) rfl nd rfl rfl (by decide) rfl rfl (QA.pa (qc (pv 4) (qc (pv 3) qn))) rfl))))))))))) (zb (zB (kX (yd (zjl (K:=K) rfl rfl) (by rfl) T.n_all (by rfl) (QA.pa (qc (vE (xf (N:=["_law_mode"]) (n:=1) (js:=[])) rfl (vZ (K:=K) rfl (yi zmd (hr.mono (by decide)) (pv 3))) (λ_ _ _ _=>(zZ (i:=0) (show List.Nodup (["_law_mode"]:List Str)by decide +kernel) rfl (Or.inl rfl))) (λ_ _ _ _=>yy) (λ_ _ _ _=>(yd (ur (K:=K) rfl) (by rfl) T.n_isinstance (by rfl) (QA.pa (qc (pv 0) (qc (vQ (v:=.ty "bool") (u:=.type "bool") rfl T.n_bool rfl rfl) qn)))))) qn))) (kW (yd (ur (K:=K) rfl) (by rfl) T.n_isinstance (by rfl) (QA.pa (qc (yi zma (hr.mono (by decide)) (pv 3)) (qc (vQ (v:=.ty "bool") (u:=.type "bool") rfl T.n_bool rfl rfl) qn)))))))))))))))
 .walk_at "ref"
 rintro _ O R ⟨ns,rfl,hlen,h⟩;refine ye (λρ' O'=>∃wd hg:Nat,1<=wd/\wd<=24/\1<=hg/\hg<=12/\ρ'=[some (.d (.list (ns.map .int))),some (.d (.int wd)),some (.d (.int hg)),none,none,none,none,none,none,none,none]/\O=O') (λR1 hR1=>?_) ?_
 .walk_at "wd"
  exact⟨ns,rfl,0,rfl,_,1,rfl,by decide,by decide,λn n0 _=>⟨n,rfl,n0,λwd hg a b c e=>⟨_,rfl,rfl,_,_,rfl,_,_,rfl,rfl,hR1 _ _ ⟨wd,hg,a,b,c,e,rfl,rfl⟩⟩⟩⟩
 rintro _ _ ⟨wd,hg,w1,w2,h1,h2,rfl,rfl⟩;refine ye (λρ' O'=>∃N1:Sn,ρ'=[some (.d (.list (ns.map .int))),some (.d (.int wd)),some (.d (.int hg)),some (.own N1.x),none,none,none,none,none,none,none]/\ScAt O' cN C cQ N1 (st0 wd hg λ_ _=>blank 0) []) (λR1 hR1=>?_) ?_
 .walk_at "wd"
  exact λx dx hx=>⟨x,dx,wd,hg,rfl,zf,w1,w2,h1,h2,λN O' e1 _ hs _=>⟨rfl,hR1 _ _ ⟨N,by rw[e1],hs⟩⟩⟩
 rintro _ O1 ⟨N1,rfl,hA1⟩;refine ye (λρ' O'=>∃N2:Sn,ρ'=[some (.d (.list (ns.map .int))),some (.d (.int wd)),some (.d (.int hg)),some (.own N1.x),some (.own N2.x),none,none,none,none,none,none]/\ScAt O' cN C cQ N2 (st0 wd hg λ_ _=>blank 0) []/\ScAt O' cN C cQ N1 (st0 wd hg λ_ _=>blank 0) []/\Dj N1.l N2.l) (λR1 hR1=>?_) ?_
 .walk_at "wd"
  refine λx dx hx=>⟨x,dx,wd,hg,rfl,zf,w1,w2,h1,h2,λN O' e1 e2 hs hf=>⟨rfl,?_⟩⟩;have o:Old O1 O':=λb hb=>by
   have n:b≠x:=λe=>hb (by rw[e];exact hx);rw[hf b n (by rw[ze n];exact hb),ze n]
  have nn:∀a∈N.l,O1 a=none:=λa ha=>by
   rcases e2 a ha with z|z
   .rw[z];exact hx
   .by_cases e:a=x
    .rw[e];exact hx
    .rw[ze e]at z;exact z
  exact hR1 _ _ ⟨N,by rw[e1],hs,hA1.old o,(Dj.new nn hA1.nn).symm⟩
 rintro _ O2 ⟨N2,rfl,hB2,hA2,d12⟩;refine ye (λρ' O'=>∃x dx p,ρ'=[some (.d (.list (ns.map .int))),some (.d (.int wd)),some (.d (.int hg)),some (.own N1.x),some (.own N2.x),some (.own x),none,none,none,none,none]/\RdAt cQ O' x dx p []/\Old O2 O'/\O2 x=none/\O2 p=none) (λR1 hR1=>?_) ?_
 .walk_at "wd"
  refine λx dx hx=>⟨x,dx,rfl,zf,λp O' n1 g1 g2=>⟨rfl,?_⟩⟩;obtain⟨i1,i2,i3⟩:=Kt hx n1 g2;exact hR1 _ _ ⟨x,dx,p,rfl,g1,i1,hx,i2⟩
 rintro _ O3 ⟨x,dx,p,rfl,hx3,o3,nx,np⟩;refine ye (λρ' O'=>Iv cN C cQ ns wd hg 0 ρ' O') (λR1 hR1=>?_) ?_
 .walk_at "wd"
  refine λy dy hy=>⟨y,dy,wd,hg,rfl,zf,w1,w2,h1,h2,λq st kp O' n1 n2 n3 hs hf=>⟨rfl,?_⟩⟩;obtain⟨k1,k2⟩:=QM (dx:=dy) hy n1 n2 n3 hf;have hA3:=(hA2.old o3);have hB3:=(hB2.old o3);have rn:∀a∈[x,p],O2 a=none:=λa ha=>by
   simp only[lm,lD,m6]at ha;rcases ha with rfl|rfl
   .exact nx
   .exact np
  have rs:∀a∈[x,p],∃o,O3 a=some o:=λa ha=>by
   simp only[lm,lD,m6]at ha;rcases ha with rfl|rfl
   .exact⟨_,hx3.x⟩
   .exact⟨_,hx3.p⟩
  have app:∀{O:OM}{l m:List Addr},(∀a∈l,∃o,O a=some o)->(∀a∈m,∃o,O a=some o)->∀a∈l++m,∃o,O a=some o:=λh1 h2 a ha=>(lz.mp ha).elim (h1 a) (h2 a);exact hR1 _ _ ⟨N1,N2,x,dx,p,⟨y,dy,q,st,kp⟩,_,[],_,_,_,_,rfl,⟨hA3.old k1,hB3.old k1,hx3.old k1,hs,d12,Dj.new rn (app hA2.nn hB2.nn),Dj.new k2 (app hA3.nn hB3.nn),(Dj.new k2 rs).symm⟩,zls w1 w2 h1 h2,X2,lp _,λc hc=>by cases hc⟩
 rintro _ O4 i4;refine ye (λρ' O'=>Iv cN C cQ ns wd hg 2 ρ' O') (λR1 hR1=>?_) ?_
 .obtain⟨N1,N2,x,dx,p,A,S,b,v7,v8,v9,v10,rfl,q4,hF4,hb4,bl4,bc4⟩:=id i4
  walk_at "wd";refine yM.by (λi ρ O'=>Iv cN C cQ ns wd hg i ρ O') i4 (λ_ _ _ _=>trivial) ?_ ?_
  .rintro i u _ O5 hu ⟨N1,N2,x,dx,p,A,S,b,v7,v8,v9,v10,rfl,q5,hF,hb,bl,bc⟩ R2 hR2
   obtain⟨k,rfl,hk,hi⟩:∃k:Nat,u=.d (.int k)/\k<=33/\i<2:=by
    match i,hu with
    |0,hu=>cases hu;exact⟨2,rfl,by decide,by decide⟩
    |1,hu=>cases hu;exact⟨33,rfl,by decide,by decide⟩
    |i+2,hu=>cases hu
   simp only[um];refine ye (λρ' O'=>∃z:Str,(∀c∈z.cps.toList,okF c)/\z.length<=7000/\ρ'=[some (.d (.list (ns.map .int))),some (.d (.int wd)),some (.d (.int hg)),some (.own N1.x),some (.own N2.x),some (.own x),some (.own A.x),some (.d (.int (k:Int))),some (.d (.str z)),v9,v10]/\O5=O') (λR3 hR3=>?_) ?_
   .walk_at "wd"
    exact⟨ns,k,rfl,hlen,λz hz hl=>hR3 _ _ ⟨z,hz,hl,rfl,rfl⟩⟩
   rintro _ _ ⟨z,hz,hzl,rfl,rfl⟩;refine ye (λρ' O'=>∃zs:List Str,catL zs=z.cps.toList/\zs.length<=100/\ρ'=[some (.d (.list (ns.map .int))),some (.d (.int wd)),some (.d (.int hg)),some (.own N1.x),some (.own N2.x),some (.own x),some (.own A.x),some (.d (.int (k:Int))),some (.d (.str z)),some (.d (.list (zs.map .str))),v10]/\O5=O') (λR3 hR3=>?_) ?_
   .walk_at "wd"
    exact⟨ns,rfl,1,rfl,z,_,rfl,hzl,λzs e1 e2=>hR3 _ _ ⟨zs,e1,e2,rfl,rfl⟩⟩
   rintro _ _ ⟨zs,ez,zl,rfl,rfl⟩;have el:z.length=z.cps.toList.length:=rfl;obtain⟨g1,g2,g3⟩:=jC z.cps.toList hb;have hc2:=zcB bc λc hc=>by have:=hz c hc;unfold okF at this;omega
   have hro:=jG hb hz;have hF':=hF.run hro;have lvA:=Lv.strs (KO hF hro);have lvT:=zj9 hF' hc2;have bl2:(rdF b z.cps.toList).1.length<=14000:=by omega
   refine ye (λρ' O'=>∃N1',N1'.x=N1.x/\ρ'=[some (.d (.list (ns.map .int))),some (.d (.int wd)),some (.d (.int hg)),some (.own N1.x),some (.own N2.x),some (.own x),some (.own A.x),some (.d (.int (k:Int))),some (.d (.str z)),some (.d (.list (zs.map .str))),some (.d (.list ((runA (rsF b z.cps.toList) S).map .str)))]/\ScAt O' cN C cQ N1' (runS (rsF b z.cps.toList) S) (rdF b z.cps.toList).1/\Fr O5 O' N1.l N1'.l) (λR3 hR3=>?_) ?_
   .walk_at "wd"
    refine⟨N1,S,b,[z],rfl,q5.a,hF,hb,?_,?_,(by decide:1<=100),?_⟩<;>rw[KM]
    .exact hz
    .omega
    .exact λN' O' e1 hs hf=>hR3 _ _ ⟨N',e1,rfl,hs,hf⟩
   rintro _ O6 ⟨N1',e1,rfl,hN1,f6⟩;obtain⟨dr1,dr2⟩:Dj [x,p] N1.l/\Dj [x,p] N2.l:=⟨λa ha z=>q5.dr1 a ha (ma _ z),λa ha z=>q5.dr1 a ha (lN _ z)⟩;obtain⟨dA1,dA2⟩:Dj A.l N1.l/\Dj A.l N2.l:=⟨λa ha z=>q5.dA1 a ha (ma _ z),λa ha z=>q5.dA1 a ha (lN _ z)⟩;obtain⟨hN26,d26⟩:=f6.sc q5.c q5.d12.symm;obtain⟨hr6,dr6⟩:=f6.rd q5.r dr1;obtain⟨hs6,ds6⟩:=f6.at q5.s dA1;refine ye (λρ' O'=>∃N2',N2'.x=N2.x/\ρ'=[some (.d (.list (ns.map .int))),some (.d (.int wd)),some (.d (.int hg)),some (.own N1.x),some (.own N2.x),some (.own x),some (.own A.x),some (.d (.int (k:Int))),some (.d (.str z)),some (.d (.list (zs.map .str))),some (.d (.list ((runA (rsF b z.cps.toList) S).map .str)))]/\ScAt O' cN C cQ N2' (runS (rsF b z.cps.toList) S) (rdF b z.cps.toList).1/\Fr O6 O' N2.l N2'.l) (λR3 hR3=>?_) ?_
   .walk_at "wd"
    refine⟨N2,S,b,zs,rfl,hN26,hF,hb,?_,?_,zl,?_⟩<;>rw[ez]
    .exact hz
    .omega
    .refine λN2' O7 e2 hs hf=>⟨_,rfl,_,rfl,lvA.sh (by decide),lvA.sh (by decide),(iff_of_eq (lg lvA.eq)).mpr ?_⟩
     obtain⟨hN17,_⟩:=hf.sc hN1 d26.symm;exact⟨N1',_,_,by rw[e1],hN17,hF',by omega,N2',_,_,by rw[e2],hs,hF',by omega,_,rfl,_,rfl,lvT.sh (by decide),lvT.sh (by decide),(iff_of_eq (lg lvT.eq)).mpr (hR3 _ _ ⟨N2',e2,rfl,hs,hf⟩)⟩
   rintro _ O7 ⟨N2',e2,rfl,hN2,f7⟩;obtain⟨hN17,d17⟩:=f7.sc hN1 d26.symm;obtain⟨hr7,dr7⟩:=f7.rd hr6 dr2;obtain⟨hs7,ds7⟩:=f7.at hs6 dA2;have dN1:Dj N1'.l ([x,p]++A.l):=(Xl dr6 ds6).symm;have dN2:Dj N2'.l ([x,p]++A.l):=(Xl dr7 ds7).symm;refine ye (λρ' O'=>∃p' A',A'.x=A.x/\ρ'=[some (.d (.list (ns.map .int))),some (.d (.int wd)),some (.d (.int hg)),some (.own N1.x),some (.own N2.x),some (.own x),some (.own A.x),some (.d (.int (k:Int))),some (.d (.str z)),some (.d (.list (zs.map .str))),some (.d (.list ((runA (rsF b z.cps.toList) S).map .str)))]/\V3 O' cN C cQ N1' N2' x dx p' A' (runS (rsF b z.cps.toList) S) (rdF b z.cps.toList).1) (λR3 hR3=>?_) ?_
   .walk_at "wd"
    refine⟨x,dx,p,A,S,b,z,rfl,hr7,hs7,q5.dra,hF,hb,hz,by omega,λp' A' O8 e3 c1 c2 c3 f8=>⟨_,rfl,_,rfl,lvA.sh (by decide),lvA.sh (by decide),(iff_of_eq (lg lvA.eq)).mpr ?_⟩⟩;obtain⟨hN18,d18⟩:=f8.sc hN17 dN1;obtain⟨hN28,d28⟩:=f8.sc hN2 dN2;have sp:∀{l m n:List Addr},Dj l (m++n)->Dj m l/\Dj n l:=λh=>zj0 h.symm;obtain⟨u1,u2⟩:=sp d18;obtain⟨u3,u4⟩:=sp d28;refine⟨N1',_,_,x,dx,p',A',by rw[e1,e3],hN18,c1,c2,hF',by omega,hc2,(iff_of_eq (lg rfl)).mpr (hR3 _ _ ⟨p',A',e3,rfl,⟨hN18,hN28,c1,c2,d17,(Xl u1.symm u3.symm).symm,(Xl u2.symm u4.symm).symm,c3⟩⟩)⟩
   rintro _ O8 ⟨p',A',e3,rfl,q8⟩;refine ye (λρ' O'=>ρ'=[some (.d (.list (ns.map .int))),some (.d (.int wd)),some (.d (.int hg)),some (.own N1.x),some (.own N2.x),some (.own x),some (.own A.x),some (.d (.int (k:Int))),some (.d (.str z)),some (.d (.list (zs.map .str))),some (.d (.list ((runA (rsF b z.cps.toList) S).map .str)))]/\Old O8 O') (λR3 hR3=>?_) ?_
   .walk_at "wd"
    exact⟨N1',_,_,by rw[e1],q8.a,hF',λO' o=>hR3 _ _ ⟨rfl,o⟩⟩
   rintro _ O9 ⟨rfl,o9⟩;have q9:=q8.old o9;refine ye (λρ' O'=>ρ'=[some (.d (.list (ns.map .int))),some (.d (.int wd)),some (.d (.int hg)),some (.own N1.x),some (.own N2.x),some (.own x),some (.own A.x),some (.d (.int (k:Int))),some (.d (.str z)),some (.d (.list (zs.map .str))),some (.d (.list ((runA (rsF b z.cps.toList) S).map .str)))]/\O9=O') (λR3 hR3=>?_) ?_
   .walk_at "wd"
    exact⟨N1',_,_,by rw[e1],q9.a,hF',by omega,N2',_,_,by rw[e2],q9.c,hF',by omega,_,rfl,_,rfl,lvT.sh (by decide),lvT.sh (by decide),(iff_of_eq (lg lvT.eq)).mpr (hR3 _ _ ⟨rfl,rfl⟩)⟩
   rintro _ _ ⟨rfl,rfl⟩;walk_at "wd";refine⟨N1'.dx,_,by rw[<-e1];exact q9.a.x,qS (by decide +kernel),N1',_,_,by rw[e1],q9.a,hF',by omega,⟨_,rfl⟩,N1'.dx,_,by rw[<-e1];exact q9.a.x,qS (by decide +kernel),N1',_,_,by rw[e1],q9.a,hF',by omega,⟨_,rfl⟩,hR2 _ _ ⟨N2',N1',x,dx,p',A',_,_,_,_,_,_,by rw[e1,e2,e3],q9.swap,hF',g1,by omega,hc2⟩⟩
  .exact λρ O5 i5=>hR1 _ _ i5
 rintro _ O5 ⟨N1,N2,x,dx,p,A,S,b,v7,v8,v9,v10,rfl,q5,hF,hb,bl,bc⟩;walk_at "wd";refine⟨N1.dx,_,q5.a.x,qS (by decide +kernel),N1,S,b,rfl,q5.a,hF,by omega,_,rfl,(by decide:3<=1000),λ_=>some (.bool true),λa ha us hus=>?_,?_⟩
 .match us,hus with
  |[u],_=>
   simp only[lm,lD,m6]at ha;rcases ha with rfl|rfl|rfl<;>exact⟨rfl,rfl,_,rfl,_,rfl,.inr ⟨rfl,rfl⟩⟩
 .refine⟨[true,true,true],rfl,?_⟩
  rw[l8 (by decide)];exact⟨N1.dx,_,q5.a.x,qS (by decide +kernel),N1,S,b,rfl,q5.a,hF,by omega,_,rfl,_,rfl,.inr ⟨rfl,.inl (h _)⟩⟩
end
section
variable {bw:Addr}
theorem ZU{d:Value}(F:FunD K "blank_row" "blank_row" (top 23) [d] f fd)(T:Txt P w K mg C bw):FnOk P w K mg base CX0 1 f fd ["wide","ink"] (za K sBlankRow):=by
 apply F.okU QW (by walk_at "ln") (λhr=>(zb (zB (zci (xf (N:=["column","ink"]) (n:=1) (js:=[1])) rfl (xw rfl T.n_range (QA.pa (qc (pv 0) qn))) (λ_ _ _ _=>(zZ (i:=0) (show List.Nodup (["column","ink"]:List Str)by decide +kernel) rfl (Or.inl rfl))) (λ_ _ _ _=>yy) (λ_ _ _ _=>(yb (qc zS (qc (pv 1) qn))))))))
 .walk_at "ref"
 rintro _ O R ⟨a,i,rfl,ha,h⟩;walk_at "wd";refine⟨by omega,by omega,λ_=>some (celD (blank i)),?_,λp hp=>.inl ?_⟩
 .intro k hk us hus
  match us,hus with
  |[u],_=>simp[yE,celD,blank]
 .have:=h p hp
  simpa[List.filterMap_map,Function.comp_def]using this
theorem qF{d:Value}(F:FunD K "blank_picture" "blank_picture" (top 24) [d] f fd)(T:Txt P w K mg C bw)(ai:Cal P w K mg base 2 "is_size" [] (za K zfY))(zmo:Cal P w K mg base 1 "blank_row" [] (za K sBlankRow)) :
  FnOk P w K mg base CX0 3 f fd ["wide","high","ink"] (za K sBlankPic):=by
 apply F.okU YD (by walk_at "ln") (λhr=>(zc (zT (kU (yV (zo ai hr (qc (pv 0) (qc (pv 1) qn))))) (zb zdz) zX) (zb (zB (zcj (xf (N:=["row","wide","ink"]) (n:=1) (js:=[0,2])) rfl (xw rfl T.n_range (QA.pa (qc (pv 1) qn))) (λ_ _ _ _=>(zZ (i:=0) (show List.Nodup (["row","wide","ink"]:List Str)by decide +kernel) rfl (Or.inl rfl))) (λ_ _ _ _=>yy) (λ_ _ _ _=>(zo zmo hr (qc (pv 1) (qc (pv 2) qn)))))))))
 .walk_at "ref"
 rintro _ O R ⟨a,b,i,rfl,a1,a2,b1,b2,h⟩;walk_at "wd";refine⟨a,b,rfl,a1,a2,b1,b2,?_⟩;simp;refine⟨by omega,by omega,λ_=>(List.range a).map λ_=>celD (blank i),?_,λp hp=>.inl ?_⟩
 .intro k hk us hus
  match us,hus with
  |[u],_=>
   simp;exact⟨a,i,rfl,a2,λp hp=>⟨p,hp,rfl,by simp⟩⟩
 .have:=h p hp
  simpa[genG,Function.comp_def]using this
theorem Vw(F:Fun K "first_stops" "first_stops" (top 30) f fd)(T:Txt P w K mg C bw):FnOk P w K mg base CX0 1 f fd ["wide"] (za K sStops):=by
 apply F.okU Ve (by walk_at "ln") (λhr=>(zb (zB (yQ (zg9 (K:=K) rfl rfl) (by rfl) T.n_dict rfl (QA.pa (qc (vE (xf (N:=["column"]) (n:=1) (js:=[])) rfl (zbW rfl T.n_range (QA.pa (qc (qL rfl T.g_TAB_STEP) (qc (pv 0) (qc (qL rfl T.g_TAB_STEP) qn))))) (λ_ _ _ _=>(zZ (i:=0) (show List.Nodup (["column"]:List Str)by decide +kernel) rfl (Or.inl rfl))) (λ_ _ _ _=>yy) (λ_ _ _ _=>(yb (qc (pv 0) (qc yC qn))))) qn))))))
 .walk_at "ref"
 rintro _ O R ⟨a,rfl,a1,a2,h⟩;walk_at "wd";refine⟨_,r3w a1 a2,by omega,λv=>match v with|.d (.int k)=>some (.tuple [.int k,.bool true])|_=>none,?_,?_⟩
 .intro k hk us hus
  match us,hus with
  |[u],_=>simp[yE]
 .have e1:∀(g:Nat->Int) (l:List Nat),List.filterMap ((λv=>match v with|W.d (PyData.int k)=>some (PyData.tuple [PyData.int k,PyData.bool true])|_=>none)∘λk=>W.d (PyData.int (g k))) l=l.map λk=>PyData.tuple [.int (g k),.bool true]:=λg l=>congrFun (List.filterMap_eq_map (f:=λk=>PyData.tuple [.int (g k),.bool true])) l
  have e2:∀(g:Nat->Int) (l:List Nat),vH (l.map λk=>PyData.tuple [.int (g k),.bool true])=some (l.map λk=>(Sum.inl (g k),PyData.bool true)):=λg l=>by
   induction l with
   |nil=>rfl
   |cons k l ih=>simp[vH,ih]
  rw[e1 (λk=>4+(k:Int)*4)];refine⟨_,rfl,_,e2 _ _,by simp;omega,λp hp=>.inl ?_⟩;have:=h p hp;rw[lM,Xd (by have:=zex a2;simpa[stopsW,stK,stopsI,Function.comp_def]using this)];simpa[stopsW,stK,stopsI,Function.comp_def]using this
theorem Vx(F:Fun K "begin" "State.begin" uE f fd)(T:Txt P w K mg C bw)(d3:Cal P w K mg base 1 "first_stops" [] (za K sStops)):FnOk P w K mg base CX0 2 f fd ["self"] (za K (Z6 C)):=by
 apply F.okU Vd (by rintro _ _ _ (⟨x,dx,p,w,h,rfl,_⟩|⟨x,dx,p,st,kp,S,rfl,_⟩)<;>rfl) (λhr=>(zc (fs K (pv 0) zd) (zc (fs K (pv 0) zd) (zc (fs K (pv 0) yC) (zc (fs K (pv 0) zd) (zc (fs K (pv 0) yC) (zc (fs K (pv 0) yC) (zc (fs K (pv 0) yC) (zc (fs K (pv 0) zd) (zc (fs K (pv 0) (zt yO (fl K (pv 0)) zd)) (zc (fs K (pv 0) zd) (zc (fs K (pv 0) (zt yO (fl K (pv 0)) zd)) (zc (fs K (pv 0) (zo d3 hr (qc (fl K (pv 0)) qn))) (zc (fs K (pv 0) (yI qn)) (zb (fs K (pv 0) yG))))))))))))))))
 .walk_at "ref"
 rintro _ O R (⟨x,dx,p,a,b,rfl,hx,a1,a2,h⟩|⟨x,dx,p,st,kp,S,rfl,hs,a1,a2,h⟩)
 .rw[jE hx]
  refine yj T.st.cl T.st.n_row zlh (λ_ h=>h) (by show 3<1000;decide) rfl ?_;refine yj T.st.cl T.st.n_column zli (λ_ h=>h) (by show 4<1000;decide) rfl ?_;refine yj T.st.cl T.st.n_late zlj (λ_ h=>h) (by show 5<1000;decide) rfl ?_;refine yj T.st.cl T.st.n_ink zlk (λ_ h=>h) (by show 6<1000;decide) rfl ?_;refine yj T.st.cl T.st.n_wrap zll (λ_ h=>h) (by show 7<1000;decide) rfl ?_;refine yj T.st.cl T.st.n_putting zlm (λ_ h=>h) (by show 8<1000;decide) rfl ?_;refine yj T.st.cl T.st.n_home zln (λ_ h=>h) (by show 9<1000;decide) rfl ?_;refine yj T.st.cl T.st.n_top zky (λ_ h=>h) (by show 10<1000;decide) rfl ?_;refine yj T.st.cl T.st.n_bottom zkz (λ_ h=>by walk_at "wd";walk_at "!zf zau";exact h) (by show 11<1000;decide) rfl ?_;refine yj T.st.cl T.st.n_left zkA (λ_ h=>h) (by show 12<1000;decide) rfl ?_;refine yj T.st.cl T.st.n_right zkB (λ_ h=>by walk_at "wd";walk_at "!zf zav";exact h) (by show 13<1000;decide) rfl ?_;walk_at "wd";walk_at "!zf zaw zfZ";refine⟨a,rfl,a1,a2,λst hst=>?_⟩;have nsx:st≠x:=λe=>by rw[e,zf]at hst;cases hst
  rw[ze nsx]at hst;simp[ze (Ne.symm nsx),zf,zfZ,zf0,and_assoc,zF,T.st.cl,T.st.n_picture,T.st.n_wide,T.st.n_high,T.st.n_row,T.st.n_column,T.st.n_late,T.st.n_ink,T.st.n_wrap,T.st.n_putting,T.st.n_home,T.st.n_top,T.st.n_bottom,T.st.n_left,T.st.n_right,T.st.n_stops,T.st.n_kept,T.st.n_last,zg,zG,zH,zL,zj,zv,zK,zw,zh,zx,zO,zm,zC,zq,zp,zy,zI,zM,zk,zz,zN,zA,zi,zD,zP,zn,zE,zr,zJ];intro kp hkp;have nkx:kp≠x:=λe=>by rw[e,zf]at hkp;cases hkp
  rw[ze nkx]at hkp;have nks:kp≠st:=λe=>by rw[e,zf]at hkp;cases hkp
  rw[ze nks,ze nkx]at hkp;simp[ze (Ne.symm nkx),zf,yL,zf0,zkC,and_assoc,zF,T.st.cl,T.st.n_picture,T.st.n_wide,T.st.n_high,T.st.n_row,T.st.n_column,T.st.n_late,T.st.n_ink,T.st.n_wrap,T.st.n_putting,T.st.n_home,T.st.n_top,T.st.n_bottom,T.st.n_left,T.st.n_right,T.st.n_stops,T.st.n_kept,T.st.n_last,zg,zG,zH,zL,zj,zv,zK,zw,zh,zx,zO,zm,zC,zq,zp,zy,zI,zM,zk,zz,zN,zA,zi,zD,zP,zn,zE,zr,zJ];refine .inl (h st kp _ hst hkp zf ?_ ?_ λb h1 h2 h3=>?_)
  .rw[ze nsx,ze (Ne.symm nks),ze nsx,zf]
  .rw[ze nkx,zf]
  .rw[ze h1,ze h3,ze h1,ze h2,ze h1]
 .rw[jE hs.x]
  refine yj T.st.cl T.st.n_row zM (λ_ h=>h) (by show 17<1000;decide) rfl ?_;refine yj T.st.cl T.st.n_column zk (λ_ h=>h) (by show 17<1000;decide) rfl ?_;refine yj T.st.cl T.st.n_late zz (λ_ h=>h) (by show 17<1000;decide) rfl ?_;refine yj T.st.cl T.st.n_ink zN (λ_ h=>h) (by show 17<1000;decide) rfl ?_;refine yj T.st.cl T.st.n_wrap zA (λ_ h=>h) (by show 17<1000;decide) rfl ?_;refine yj T.st.cl T.st.n_putting zi (λ_ h=>h) (by show 17<1000;decide) rfl ?_;refine yj T.st.cl T.st.n_home zD (λ_ h=>h) (by show 17<1000;decide) rfl ?_;refine yj T.st.cl T.st.n_top zP (λ_ h=>h) (by show 17<1000;decide) rfl ?_;refine yj T.st.cl T.st.n_bottom zn (λ_ h=>by walk_at "wd";walk_at "!zf";exact h) (by show 17<1000;decide) rfl ?_;refine yj T.st.cl T.st.n_left zE (λ_ h=>h) (by show 17<1000;decide) rfl ?_;refine yj T.st.cl T.st.n_right zr (λ_ h=>by walk_at "wd";walk_at "!zf";exact h) (by show 17<1000;decide) rfl ?_;walk_at "wd";walk_at "!zf";refine⟨S.w,rfl,a1,a2,λst' hst=>?_⟩;have nsx:st'≠x:=λe=>by rw[e,zf]at hst;cases hst
  rw[ze nsx]at hst;refine⟨C,dx,_,(ze (Ne.symm nsx)).trans zf,T.st.cl,T.st.n_stops,by show 17<1000;omega,λkp' hkp=>?_⟩;have nkx:kp'≠x:=λe=>by rw[e,zf]at hkp;cases hkp
  rw[ze nkx]at hkp;have nks:kp'≠st':=λe=>by rw[e,zf]at hkp;cases hkp
  rw[ze nks,ze nkx]at hkp;have nps:p≠st':=λe=>by rw[<-e,hs.p]at hst;cases hst
  have npk:p≠kp':=λe=>by rw[<-e,hs.p]at hkp;cases hkp
  refine⟨C,dx,_,(ze (Ne.symm nkx)).trans zf,T.st.cl,T.st.n_kept,by show 17<1000;omega,T.st.cl,T.st.n_last,by show 17<1000;omega,.inl (h st' kp' _ hst hkp ⟨zf,?_,?_,?_⟩ λb h1 h2 h3=>?_)⟩
  .rw[ze (Ne.symm hs.xp),ze npk,ze (Ne.symm hs.xp),ze nps,ze (Ne.symm hs.xp)];exact hs.p
  .rw[ze nsx,ze (Ne.symm nks),ze nsx,zf];rfl
  .rw[ze nkx,zf];rfl
  .rw[ze h1,ze h3,ze h1,ze h2,ze h1]
theorem Uk(F:Fun K "__init__" "State.__init__" vt f fd)(T:Txt P w K mg C bw)(zmn:Cal P w K mg base 3 "blank_picture" [.int 0] (za K sBlankPic))(zmk:CalT P w K mg base 2 "begin" C (za K (Z6 C))):FnOk P w K mg base CX0 4 f fd ["self","wide","high"] (za K (sInit C)):=by
 apply F.okU Yc (by walk_at "ln") (λhr=>(zc (fs K (pv 0) (zo zmn hr (qc (pv 1) (qc (pv 2) qn)))) (zc (fs K (pv 0) (pv 1)) (zc (fs K (pv 0) (pv 2)) (zb (zQ (yi zmk (hr.mono (by decide)) (pv 0))))))))
 .walk_at "ref"
 rintro _ O R ⟨x,dx,a,b,rfl,hx,a1,a2,b1,b2,h⟩;walk_at "wd";refine⟨a,b,0,rfl,a1,a2,b1,b2,λp hp=>?_⟩;have npx:p≠x:=λe=>by rw[e,hx]at hp;cases hp
 simp[ze (Ne.symm npx),hx,zle,zlf,zlg,zat,and_assoc,zF,T.st.cl,T.st.n_picture,T.st.n_wide,T.st.n_high,T.st.n_row,T.st.n_column,T.st.n_late,T.st.n_ink,T.st.n_wrap,T.st.n_putting,T.st.n_home,T.st.n_top,T.st.n_bottom,T.st.n_left,T.st.n_right,T.st.n_stops,T.st.n_kept,T.st.n_last,zg,zG,zH,zL,zj,zv,zK,zw,zh,zx,zO,zm,zC,zq,zp,zy,zI,zM,zk,zz,zN,zA,zi,zD,zP,zn,zE,zr,zJ];refine⟨by rintro c d (⟨rfl,_⟩|⟨rfl,_⟩|⟨rfl,_⟩)<;>decide,.inl ⟨x,dx,p,a,b,rfl,zf,a1,a2,λst kp O' hst hkp h1 h2 h3 h4=>.inl ?_⟩⟩;have nsx:st≠x:=λe=>by rw[e,zf]at hst;cases hst
 rw[ze nsx]at hst;have nsp:st≠p:=λe=>by rw[e,zf]at hst;cases hst
 rw[ze nsp]at hst;have nkx:kp≠x:=λe=>by rw[e,zf]at hkp;cases hkp
 rw[ze nkx]at hkp;have nkp:kp≠p:=λe=>by rw[e,zf]at hkp;cases hkp
 rw[ze nkp]at hkp;refine h p st kp O' hp hst hkp ⟨h1,?_,h2,h3⟩ λc q1 q2 q3 q4=>?_
 .rw[h4 p npx (Ne.symm nsp) (Ne.symm nkp),ze npx,zf]
  rfl
 .rw[h4 c q1 q3 q4,ze q1,ze q2]
theorem Vy(F:Fun K "wipe_places" "wipe_places" (top 49) f fd)(T:Txt P w K mg C bw)(vf:Cal P w K mg base 1 "blank_of" [] (za K (sBlankOf C))):FnOk P w K mg base CX0 2 f fd ["state","first","behind"] (za K (zaO C)):=by
 have nd:=jH.nd;apply F.okU jH (by walk_at "ln") (λhr=>(zc (yW lZ rfl (qJ rfl T.n_range (QA.pa (qc (pv 1) (qc (pv 2) qn)))) (zZ (i:=3) nd rfl (Or.inl rfl)) (zb (u7 (zo vf hr (qc (pv 0) qn)) (kY (z9 (yY (K:=K) rfl) (fl K (pv 0)) (zt yK (pv 3) (fl K (pv 0)))) (zt yq (pv 3) (fl K (pv 0))) qd)))) (zb (fs K (pv 0) yC))))
 .walk_at "ref"
 rintro _ O R ⟨a,b,a0,a1,b0,b1,x,dx,p,st,kp,S,rfl,hs,⟨hB,hb⟩,h⟩;have hx:=hs.x;have w1:=hB.w1;have w2:=hB.w2;have h2:=hB.h2;refine ye (λρ' O'=>∃v,ρ'=[some (.own x),some (.d (.int a)),some (.d (.int b)),v]/\But O O' x p/\StAt O' C x dx p st kp { S with pic:=wipP S.pic S.ink S.w a b }) (λR1 hR1=>?_) ?_
 .walk_at "wd"
  refine⟨by omega,by omega,by omega,by omega,?_⟩;refine yM.rng (λi ρ O'=>∃v,ρ=[some (.own x),some (.d (.int a)),some (.d (.int b)),v]/\But O O' x p/\StAt O' C x dx p st kp { S with pic:=wipP S.pic S.ink S.w a (a+i) }) ⟨_,rfl,But.refl,?_⟩ ?_ ?_
  .rw[show a+((0:Nat):Int)=a by omega,Qy]
   exact hs
  .rintro i _ O1 hi ⟨v,rfl,hb1,hs1⟩ R2 hR2
   have hx1:=hs1.x;have e0:=ut hs1.p;rw[qm]at e0;have hlt:a+i<(S.h:Int)*S.w:=by omega
   have q0:0<=(a+i) / (S.w:Int):=Int.ediv_nonneg (by omega) (by omega);have q1:(a+i) / (S.w:Int)<S.h:=Int.ediv_lt_of_lt_mul (by omega) hlt;have q2:0<=(a+i)%(S.w:Int):=Int.emod_nonneg _ (by omega);have q3:(a+i)%(S.w:Int)<S.w:=Int.emod_lt_of_pos _ (by omega);have e1:atI ((List.range S.h).map (W.row p)) ((a+i) / (S.w:Int))=some (W.row p ((a+i) / (S.w:Int)).toNat):=vz q0 q1;have e2:=j7 (c:=blank S.ink) hs1.p (i:=((a+i) / (S.w:Int)).toNat) (k:=(a+i)%(S.w:Int)) (by simp only;omega) q2 q3;have e3:=zcM (f:=S.pic) (k:=S.ink) (w:=S.w) (a:=a) (b:=a+i) (by omega) (by omega) w1;walk_at "wd";refine⟨x,dx,p,st,kp,_,rfl,hs1,?_⟩;rw[e3]at e2;have cd:zdE (a+i) (S.w:Int):=⟨by omega,by omega⟩;walk_at "!hx1 e0 e1 e2 cd";refine⟨by omega,hR2 _ _ ⟨_,rfl,hb1.trans But.up,?_⟩⟩;rw[show a+((i+1:Nat):Int)=a+i+1 by omega];exact hs1.pic (f:=wipP S.pic S.ink S.w a (a+i+1))
  .rintro _ O1 ⟨v,rfl,hb1,hs1⟩
   refine hR1 _ _ ⟨_,rfl,hb1,?_⟩;by_cases hab:a<=b
   .rw[show a+(((b-a).toNat:Nat):Int)=b by omega]at hs1
    exact hs1
   .rw[show a+(((b-a).toNat:Nat):Int)=a by omega,Qy]at hs1
    rw[zhp (by omega)];exact hs1
 rintro _ O1 ⟨v,rfl,hb1,hs1⟩;have hx1:=hs1.x;walk_at "wd";walk_at "!hx1 zV";exact .inl (h _ (hs1.fld (S':=wipS a b S) rfl rfl rfl) (hb1.trans But.ux))
theorem zhU(F:Fun K "wipe" "wipe" (top 51) f fd)(T:Txt P w K mg C bw)(xo:Cal P w K mg base 2 "wipe_places" [] (za K (zaO C))):FnOk P w K mg base CX0 3 f fd ["state","way"] (za K (Uy C)):=by
 have nd:=KF.nd;apply F.okU KF (by walk_at "ln") (λhr=>(zc (zY 2 nd (zt xt (fl K (pv 0)) (fl K (pv 0)))) (zc (zY 3 nd (zt yc (pv 2) (fl K (pv 0)))) (zc (zY 4 nd (zt yc (pv 2) (fl K (pv 0)))) (zc (zY 5 nd (zt xt (fl K (pv 0)) (fl K (pv 0)))) (zc (zY 6 nd (zgC (vW zd (yb (qc (pv 4) (qc (pv 3) qn))) (vW zd (yb (qc (pv 2) (qc (zt yc (pv 4) zd) qn))) (vW zd (yb (qc (pv 2) (qc (pv 3) qn))) (vW zd (yb (qc (pv 4) (qc (pv 5) qn))) (vW zd (yb (qc zd (qc (zt yc (pv 4) zd) qn))) (vW zd (yb (qc zd (qc (pv 5) qn))) zgB)))))) rfl rfl (by decide) (by decide))) (zc (zY 7 nd (zdW (zfA hr) (pv 6) (yH (zU u8 (pv 1) yG) zd (pv 1)) (yb (qc zd (qc zd qn))) ⟨rfl,rfl,rfl,rfl⟩)) (zb (zQ (zo xo hr (qc (pv 0) (qc (z9 (yn (K:=K) rfl) (pv 7) zd) (qc (z9 (yn (K:=K) rfl) (pv 7) zd) qn)))))))))))))
 .walk_at "ref"
 rintro _ O R ⟨x,dx,p,st,kp,S,m,rfl,hm,hs,hB,h⟩;have hx:=hs.x;obtain⟨q0,q1,q2⟩:=zjI hB;have w2:=hB.w2;have h2:=hB.h2;have r0:=hB.r0;have r1:=hB.r1;refine Ux (λρ' O'=>ρ'=[some (.own x),some (.d m),some (.d (.int (S.row*S.w))),some (.d (.int (S.row*S.w+S.w))),none,none,none,none]/\O=O') (λR1 hR1=>?_) ?_
 .walk_at "wd"
  walk_at "!hx";exact⟨mulL (by omega) (by omega),hR1 _ _ ⟨rfl,rfl⟩⟩
 rintro _ _ ⟨rfl,rfl⟩;refine Ux (λρ' O'=>ρ'=[some (.own x),some (.d m),some (.d (.int (S.row*S.w))),some (.d (.int (S.row*S.w+S.w))),some (.d (.int (S.row*S.w+S.col))),some (.d (.int (S.w*S.h))),none,none]/\O=O') (λR1 hR1=>?_) ?_
 .walk_at "wd"
  walk_at "!hx";exact⟨mulL (by omega) (by omega),hR1 _ _ ⟨rfl,rfl⟩⟩
 rintro _ _ ⟨rfl,rfl⟩;refine ye (λρ' O'=>∃b,O b=none/\ρ'=[some (.own x),some (.d m),some (.d (.int (S.row*S.w))),some (.d (.int (S.row*S.w+S.w))),some (.d (.int (S.row*S.w+S.col))),some (.d (.int (S.w*S.h))),some (.own b),none]/\O'=updO O b (.dK [(Sum.inl 0,.d (.tuple [.int (S.row*S.w+S.col),.int (S.row*S.w+S.w)])),(Sum.inl 1,.d (.tuple [.int (S.row*S.w),.int (S.row*S.w+S.col+1)])),(Sum.inl 2,.d (.tuple [.int (S.row*S.w),.int (S.row*S.w+S.w)])),(Sum.inl 3,.d (.tuple [.int (S.row*S.w+S.col),.int (S.w*S.h)])),(Sum.inl 4,.d (.tuple [.int 0,.int (S.row*S.w+S.col+1)])),(Sum.inl 5,.d (.tuple [.int 0,.int (S.w*S.h)]))])) (λR1 hR1=>?_) ?_
 .walk_at "wd"
  intro b hb;exact⟨_,rfl,by show(6:Nat)<=15;decide,hR1 _ _ ⟨b,hb,rfl,rfl⟩⟩
 rintro _ O1 ⟨b,hb,rfl,rfl⟩;have ob:Old O (updO O b (.dK [(Sum.inl 0,.d (.tuple [.int (S.row*S.w+S.col),.int (S.row*S.w+S.w)])),(Sum.inl 1,.d (.tuple [.int (S.row*S.w),.int (S.row*S.w+S.col+1)])),(Sum.inl 2,.d (.tuple [.int (S.row*S.w),.int (S.row*S.w+S.w)])),(Sum.inl 3,.d (.tuple [.int (S.row*S.w+S.col),.int (S.w*S.h)])),(Sum.inl 4,.d (.tuple [.int 0,.int (S.row*S.w+S.col+1)])),(Sum.inl 5,.d (.tuple [.int 0,.int (S.w*S.h)]))])):=Old.refl.upd hb;refine ye (λρ' O'=>ρ'=[some (.own x),some (.d m),some (.d (.int (S.row*S.w))),some (.d (.int (S.row*S.w+S.w))),some (.d (.int (S.row*S.w+S.col))),some (.d (.int (S.w*S.h))),some (.own b),some (.d (.tuple [.int (spI (wayD m) S).1,.int (spI (wayD m) S).2]))]/\Old O O') (λR1 hR1=>?_) ?_
 .have key:∀y:Int,(Ze [((Sum.inl 0:Key),W.d (.tuple [.int (S.row*S.w+S.col),.int (S.row*S.w+S.w)])),(Sum.inl 1,.d (.tuple [.int (S.row*S.w),.int (S.row*S.w+S.col+1)])),(Sum.inl 2,.d (.tuple [.int (S.row*S.w),.int (S.row*S.w+S.w)])),(Sum.inl 3,.d (.tuple [.int (S.row*S.w+S.col),.int (S.w*S.h)])),(Sum.inl 4,.d (.tuple [.int 0,.int (S.row*S.w+S.col+1)])),(Sum.inl 5,.d (.tuple [.int 0,.int (S.w*S.h)]))] (Sum.inl y)).getD (.d (.tuple [.int 0,.int 0]))=.d (.tuple [.int (spI y S).1,.int (spI y S).2]):=λy=>by
   unfold spI Ze;by_cases e0:y= 0
   .subst e0;rfl
   by_cases e1:y= 1
   .subst e1;rfl
   by_cases e2:y= 2
   .subst e2;rfl
   by_cases e3:y= 3
   .subst e3;rfl
   by_cases e4:y= 4
   .subst e4;rfl
   by_cases e5:y= 5
   .subst e5;rfl
   simp[e0,e1,e2,e3,e4,e5,mN,Ne.symm e0,Ne.symm e1,Ne.symm e2,Ne.symm e3,Ne.symm e4,Ne.symm e5]
  rcases hm.cs with rfl|⟨i,rfl,_,_⟩
  .walk_at "wd"
   simp only[key];exact hR1 _ _ ⟨rfl,ob⟩
  .walk_at "wd"
   simp only[key];exact hR1 _ _ ⟨rfl,ob⟩
 rintro _ O2 ⟨rfl,o2⟩;obtain⟨i0,i1,i2,i3,i4⟩:=zjJ hB (wayD m);walk_at "wd";refine⟨_,rfl,_,rfl,_,_,i0,i1,i2,i3,x,dx,p,st,kp,S,rfl,hs.old o2,⟨hB,by rw[Int.mul_comm];exact i4⟩,λO' h1 h2=>.inl (h O' h1 λc c1 c2 c3=>?_)⟩;rw[h2 c c1 c2];exact o2 c c3
theorem Jv(F:Fun K "cut_cells" "cut_cells" (top 48) f fd)(T:Txt P w K mg C bw)(ub:Cal P w K mg base 1 "at_least_one" [] (za K vG))(wk:Cal P w K mg base 2 "move_cells" [] (za K (sMvC C))):FnOk P w K mg base CX0 3 f fd ["state","many"] (za K (zaN C)):=by
 apply F.okU Q0 (by walk_at "ln") (λhr=>(zb (zQ (zo wk hr (qc (pv 0) (qc (zo ub hr (qc (pv 1) qn)) qn))))))
 .walk_at "ref"
 rintro _ O R ⟨n,hn,x,dx,p,st,kp,S,rfl,hs,hB,h⟩;have o1:=@xa n;have o2:=xU hn;walk_at "wd";exact⟨hn,_,by omega,by omega,x,dx,p,st,kp,S,rfl,hs,hB,λO' h1 h2=>.inl (h O' h1 h2)⟩
theorem Ul(F:Fun K "wipe_cells" "wipe_cells" (top 50) f fd)(T:Txt P w K mg C bw)(ub:Cal P w K mg base 1 "at_least_one" [] (za K vG))(xo:Cal P w K mg base 2 "wipe_places" [] (za K (zaO C))):FnOk P w K mg base CX0 3 f fd ["state","many"] (za K (zaP C)):=by
 have nd:=kK.nd;apply F.okU kK (by walk_at "ln") (λhr=>(zc (zY 2 nd (zt xt (fl K (pv 0)) (fl K (pv 0)))) (zc (zY 3 nd (yd (uo rfl) (by rfl) T.n_min (by rfl) (QA.pa (qc (zt yc (fl K (pv 0)) (zo ub hr (qc (pv 1) qn))) (qc (fl K (pv 0)) qn))))) (zb (zQ (zo xo hr (qc (pv 0) (qc (zt yc (pv 2) (fl K (pv 0))) (qc (zt yc (pv 2) (pv 3)) qn)))))))))
 .walk_at "ref"
 rintro _ O R ⟨n,hn,x,dx,p,st,kp,S,rfl,hs,hB,h⟩;have hx:=hs.x;have o1:=@xa n;have o2:=xU hn;walk_at "wd";walk_at "!hx";have r0:=hB.r0;have r1:=hB.r1;have c0:=hB.c0;have c1:=hB.c1;have w2:=hB.w2;have h2:=hB.h2;have m0:0<=S.row*(S.w:Int):=Int.mul_nonneg r0 (by omega);have m1:(S.row+1)*(S.w:Int)<=(S.h:Int)*S.w:=Int.mul_le_mul_of_nonneg_right (by omega) (by omega);have m2:(S.h:Int)*S.w<=12*24:=Int.mul_le_mul (by omega) (by omega) (by omega) (by omega);rw[Int.add_mul]at m1;refine⟨mulL (by omega) (by omega),hn,_,_,by omega,by omega,by split<;>omega,by split<;>omega,x,dx,p,st,kp,S,rfl,hs,⟨hB,by split<;>omega⟩,λO' h1 h2=>.inl (h O' h1 h2)⟩
theorem Jw(F:Fun K "roll_down" "roll_down" (top 63) f fd)(T:Txt P w K mg C bw)(wj:Cal P w K mg base 2 "roll_rows" [] (za K (sRoll C))):FnOk P w K mg base CX0 3 f fd ["state","first","times"] (za K (sRollD C)):=by
 apply F.okU Q5 (by walk_at "ln") (λhr=>(zb (zQ (zo wj hr (qc (pv 0) (qc (pv 1) (qc (KW zbA (pv 2)) qn)))))))
 .walk_at "ref"
 rintro _ O R ⟨a,s,s1,s2,x,dx,p,st,kp,S,rfl,hs,hp,h⟩;walk_at "wd";exact⟨a,-s,by omega,by omega,x,dx,p,st,kp,S,rfl,hs,hp,λO' h1 h2=>.inl (h O' h1 h2)⟩
theorem Jx(F:Fun K "put_lines" "put_lines" (top 65) f fd)(T:Txt P w K mg C bw)(ub:Cal P w K mg base 1 "at_least_one" [] (za K vG))(aa:Cal P w K mg base 3 "roll_down" [] (za K (sRollD C))):FnOk P w K mg base CX0 4 f fd ["state","many"] (za K (sPutL C)):=by
 apply F.okU Q7 (by walk_at "ln") (λhr=>(zc (zT (xI yR yR (fl K (pv 0)) (fl K (pv 0)) (fl K (pv 0))) (zb (zQ (zo aa hr (qc (pv 0) (qc (fl K (pv 0)) (qc (zo ub hr (qc (pv 1) qn)) qn)))))) zX) (zb (fs K (pv 0) yC))))
 .walk_at "ref"
 rintro _ O R ⟨n,hn,x,dx,p,st,kp,S,rfl,hs,hB,h⟩;have hx:=hs.x;have o1:=@xa n;have o2:=xU hn;have:=hB.r0;simp only[lineS]at h;walk_at "wd";walk_at "!hx hn zV";split
 .rename_i e
  rw[lg e]at h;refine⟨_,_,by omega,by omega,x,dx,p,st,kp,S,rfl,hs,⟨hB,by omega,e.2⟩,λO' h1 h2=>?_⟩;have hx1:=h1.x;walk_at "!hx1 zV";exact .inl (h _ (h1.fld rfl rfl rfl) (h2.trans But.ux))
 .rename_i e
  rw[l8 e]at h;exact .inl (h _ (hs.fld rfl rfl rfl) But.ux)
theorem Jy(F:Fun K "cut_lines" "cut_lines" (top 66) f fd)(T:Txt P w K mg C bw)(ub:Cal P w K mg base 1 "at_least_one" [] (za K vG))(w8:Cal P w K mg base 3 "roll_up" [] (za K (sRoll C))):FnOk P w K mg base CX0 4 f fd ["state","many"] (za K (sCutL C)):=by
 apply F.okU Q8 (by walk_at "ln") (λhr=>(zc (zT (xI yR yR (fl K (pv 0)) (fl K (pv 0)) (fl K (pv 0))) (zb (zQ (zo w8 hr (qc (pv 0) (qc (fl K (pv 0)) (qc (zo ub hr (qc (pv 1) qn)) qn)))))) zX) (zb (fs K (pv 0) yC))))
 .walk_at "ref"
 rintro _ O R ⟨n,hn,x,dx,p,st,kp,S,rfl,hs,hB,h⟩;have hx:=hs.x;have o1:=@xa n;have o2:=xU hn;have:=hB.r0;simp only[lineS]at h;walk_at "wd";walk_at "!hx hn zV";split
 .rename_i e
  rw[lg e]at h;refine⟨_,_,by omega,by omega,x,dx,p,st,kp,S,rfl,hs,⟨hB,by omega,e.2⟩,λO' h1 h2=>?_⟩;have hx1:=h1.x;walk_at "!hx1 zV";exact .inl (h _ (h1.fld rfl rfl rfl) (h2.trans But.ux))
 .rename_i e
  rw[l8 e]at h;exact .inl (h _ (hs.fld rfl rfl rfl) But.ux)
theorem zhV(F:Fun K "roll" "roll" (top 64) f fd)(T:Txt P w K mg C bw)(ub:Cal P w K mg base 1 "at_least_one" [] (za K vG))(w8:Cal P w K mg base 3 "roll_up" [] (za K (sRoll C)))(aa:Cal P w K mg base 3 "roll_down" [] (za K (sRollD C))):FnOk P w K mg base CX0 4 f fd ["state","letter","many"] (za K (Qz C)):=by
 apply F.okU zhF (by walk_at "ln") (λhr=>(zc (zT (zU z7 (pv 1) zS) (zb (zQ (zo w8 hr (qc (pv 0) (qc (fl K (pv 0)) (qc (zo ub hr (qc (pv 2) qn)) qn)))))) (zb (zT (zU z7 (pv 1) zS) (zb (zQ (zo aa hr (qc (pv 0) (qc (fl K (pv 0)) (qc (zo ub hr (qc (pv 2) qn)) qn)))))) zX))) (zb (fs K (pv 0) yC))))
 .walk_at "ref"
 rintro _ O R ⟨up,n,hn,x,dx,p,st,kp,S,rfl,hs,hB,h⟩;have hx:=hs.x;have o1:=@xa n;have o2:=xU hn;have t0:=hB.t0;have tb:=hB.tb;have e1:∀O',StAt O' C x dx p st kp (rollS S.top (if up=true then oneD n else -(oneD n)) S)->StAt (updO O' x (.ins C dx (fldW p st kp (rollT up n S)))) C x dx p st kp (rollT up n S):=λO' h1=>h1.fld rfl rfl rfl;cases up with
 |true=>
  have z1:zaQ true=Str.ofString "R":=rfl;rw[z1];walk_at "wd";walk_at "!hx hn zV";refine⟨_,_,by omega,by omega,x,dx,p,st,kp,S,rfl,hs,⟨hB,by omega,tb⟩,λO' h1 h2=>?_⟩;have hx1:=h1.x;walk_at "!hx1 zV";exact .inl (h _ (e1 _ h1) (h2.trans But.ux))
 |false=>
  have z1:zaQ false=Str.ofString "D":=rfl;have z2:¬(Str.ofString "D" =Str.ofString "R"):=by decide
  rw[z1];walk_at "wd";walk_at "!hx hn z2 zV";refine⟨_,_,by omega,by omega,x,dx,p,st,kp,S,rfl,hs,⟨hB,by omega,tb⟩,λO' h1 h2=>?_⟩;have hx1:=h1.x;walk_at "!hx1 zV";exact .inl (h _ (e1 _ h1) (h2.trans But.ux))
end
abbrev EF(K:W.Frag)(mg:Str->Option Value)(x:Str)(st:Stmt):Prop:=∃f fd,Fun K x x st f fd/\mg x=some (.ref f)
theorem fk{oc kV doc pm cd ct:Value}{od an:Option Addr}{sl:Array (Option Value)}(X:K.In h)(G:h.Ns mainGlobals mg)
  (a:W.nsIn K mainGlobals x=some (some (.ref f)):=by k_is)(l:K.lookup f=some ⟨oc,od,.func (W.fnOf x x (defArgs st) (defBody st) (defScope st) .none kV doc pm an cd ct),sl⟩:=by k_is)(c:W.codeIn K cd x=true:=by k_is)(k:W.keepIn K (.ref f)=true:=by k_is) :
  EF K mg x st:=⟨f,_,UN (st:=st) l c k,W.mg_of X G a⟩
theorem fkD{D:Addr}{oc kV doc pm cd ct:Value}{od an:Option Addr}{sl:Array (Option Value)}{oD:Obj}{ds:List Value}(X:K.In h)(G:h.Ns mainGlobals mg)
  (a:W.nsIn K mainGlobals x=some (some (.ref f)):=by k_is)(l:K.lookup f=some ⟨oc,od,.func (W.fnOf x x (defArgs st) (defBody st) (defScope st) (.ref D) kV doc pm an cd ct),sl⟩:=by k_is)(c:W.codeIn K cd x=true:=by k_is)(k:W.keepIn K (.ref f)=true:=by k_is)
  (t:K.lookup D=some oD:=by k_is)(e:oD.data=.seq ds.toArray n:=by rfl):∃f fd,FunD K x x st ds f fd/\mg x=some (.ref f):=⟨f,_,⟨⟨oc,od,kV,doc,pm,an,cd,ct,sl,D,oD,n,rfl,l,c,t,e⟩,k⟩,W.mg_of X G a⟩
theorem zfk{q:Str}{ps:List Str}(hl:ps.length= 1)(hb:∀kV doc pm an cdv ct a0,bindArgs (W.fnOf x q (defArgs st) (defBody st) (defScope st) .none kV doc pm an cdv ct) ⟨[a0],[]⟩=pure (ps.zip [a0])):∀kV doc pm an cdv ct us,us.length=ps.length->bindArgs (W.fnOf x q (defArgs st) (defBody st) (defScope st) .none kV doc pm an cdv ct) ⟨us,[]⟩=pure (ps.zip us):=λ_ _ _ _ _ _ us h=>match us,h.trans hl with|[a0],_=>hb _ _ _ _ _ _ _
theorem zfl{q:Str}{ps:List Str}(hl:ps.length= 2)(hb:∀kV doc pm an cdv ct a0 a1,bindArgs (W.fnOf x q (defArgs st) (defBody st) (defScope st) .none kV doc pm an cdv ct) ⟨[a0,a1],[]⟩=pure (ps.zip [a0,a1])):∀kV doc pm an cdv ct us,us.length=ps.length->bindArgs (W.fnOf x q (defArgs st) (defBody st) (defScope st) .none kV doc pm an cdv ct) ⟨us,[]⟩=pure (ps.zip us):=λ_ _ _ _ _ _ us h=>match us,h.trans hl with|[a0,a1],_=>hb _ _ _ _ _ _ _ _
theorem zfm{q:Str}{ps:List Str}(hl:ps.length= 3)(hb:∀kV doc pm an cdv ct a0 a1 a2,bindArgs (W.fnOf x q (defArgs st) (defBody st) (defScope st) .none kV doc pm an cdv ct) ⟨[a0,a1,a2],[]⟩=pure (ps.zip [a0,a1,a2])):∀kV doc pm an cdv ct us,us.length=ps.length->bindArgs (W.fnOf x q (defArgs st) (defBody st) (defScope st) .none kV doc pm an cdv ct) ⟨us,[]⟩=pure (ps.zip us):=λ_ _ _ _ _ _ us h=>match us,h.trans hl with|[a0,a1,a2],_=>hb _ _ _ _ _ _ _ _ _
theorem zfn{q:Str}{ps:List Str}(hl:ps.length= 4)(hb:∀kV doc pm an cdv ct a0 a1 a2 a3,bindArgs (W.fnOf x q (defArgs st) (defBody st) (defScope st) .none kV doc pm an cdv ct) ⟨[a0,a1,a2,a3],[]⟩=pure (ps.zip [a0,a1,a2,a3])):∀kV doc pm an cdv ct us,us.length=ps.length->bindArgs (W.fnOf x q (defArgs st) (defBody st) (defScope st) .none kV doc pm an cdv ct) ⟨us,[]⟩=pure (ps.zip us):=λ_ _ _ _ _ _ us h=>match us,h.trans hl with|[a0,a1,a2,a3],_=>hb _ _ _ _ _ _ _ _ _ _
theorem zR(P:Program)(w:World)(base:Heap){k:Nat}{ps:List Str}{sp:Sp}(e:EF K mg x st)(ok:∀{f fd},Fun K x x st f fd->FnOk P w K mg base CX0 k f fd ps sp)(hb:∀kV doc pm an cdv ct us,us.length=ps.length->bindArgs (W.fnOf x x (defArgs st) (defBody st) (defScope st) .none kV doc pm an cdv ct) ⟨us,[]⟩=pure (ps.zip us):=by first|exact zfk rfl λ_ _ _ _ _ _ _=>rfl|exact zfl rfl λ_ _ _ _ _ _ _ _=>rfl|exact zfm rfl λ_ _ _ _ _ _ _ _ _=>rfl|exact zfn rfl λ_ _ _ _ _ _ _ _ _ _=>rfl):Cal P w K mg base k x [] sp:=by
 obtain⟨f,fd,F,m⟩:=e;exact⟨f,fd,ps,[],ok F,m,F.kp,F.binds hb,.nil⟩
abbrev EM(K:W.Frag)(C:Addr)(x q:Str)(st:Stmt):Prop:=∃f fd,Meth K C x f/\Fun K x q st f fd
abbrev EI(K:W.Frag)(C:Addr)(q:Str)(st:Stmt):Prop:=∃f fd,Mk K C f/\Fun K "__init__" q st f fd
theorem yv{k:Nat}{q:Str}{ps:List Str}{sp:Sp}(hc:Cls K C)(e:EM K C x q st)(ok:∀{f fd},Fun K x q st f fd->FnOk P w K mg base CX0 k f fd ps sp)(hb:∀kV doc pm an cdv ct us,us.length=ps.length->bindArgs (W.fnOf x q (defArgs st) (defBody st) (defScope st) .none kV doc pm an cdv ct) ⟨us,[]⟩=pure (ps.zip us):=by first|exact zfk rfl λ_ _ _ _ _ _ _=>rfl|exact zfl rfl λ_ _ _ _ _ _ _ _=>rfl|exact zfm rfl λ_ _ _ _ _ _ _ _ _=>rfl|exact zfn rfl λ_ _ _ _ _ _ _ _ _ _=>rfl):CalT P w K mg base k x C sp:=by
 obtain⟨f,fd,M,F⟩:=e;exact⟨f,fd,ps,hc,M,ok F,F.binds hb⟩
theorem jO(P:Program)(w:World)(base:Heap){k:Nat}{q:Str}{ps:List Str}{sp:Sp}(hm:mg x=some (.ref C))(e:EI K C q st)(ok:∀{f fd},Fun K "__init__" q st f fd->FnOk P w K mg base CX0 k f fd ps sp)(hb:∀kV doc pm an cdv ct us,us.length=ps.length->bindArgs (W.fnOf "__init__" q (defArgs st) (defBody st) (defScope st) .none kV doc pm an cdv ct) ⟨us,[]⟩=pure (ps.zip us):=by first|exact zfk rfl λ_ _ _ _ _ _ _=>rfl|exact zfl rfl λ_ _ _ _ _ _ _ _=>rfl|exact zfm rfl λ_ _ _ _ _ _ _ _ _=>rfl|exact zfn rfl λ_ _ _ _ _ _ _ _ _ _=>rfl):CalM P w K mg base k x C sp:=by
 obtain⟨f,fd,M,F⟩:=e;exact⟨f,fd,ps,M,ok F,hm,F.binds hb⟩
theorem ei_mk{q:Str}{oc kV doc pm cd ct:Value}{od an:Option Addr}{sl:Array (Option Value)}(mk:W.makesIn K C=true:=by k_is)(a1:W.findIn K (.ref C) "__init__" =some (some (.ref f)):=by k_is)(i1:W.isFn K (.ref f)=true:=by k_is)(kc:W.keepIn K (.ref C)=true:=by k_is)
  (l:K.lookup f=some ⟨oc,od,.func (W.fnOf "__init__" q (defArgs st) (defBody st) (defScope st) .none kV doc pm an cd ct),sl⟩:=by k_is)(c:W.codeIn K cd q=true:=by k_is)(k:W.keepIn K (.ref f)=true:=by k_is):EI K C q st:=⟨f,_,⟨mk,a1,i1,kc⟩,UN (st:=st) l c k⟩
theorem em_mk{q:Str}{oc kV doc pm cd ct:Value}{od an:Option Addr}{sl:Array (Option Value)}(a1:W.findIn K (.ref C) x=some (some (.ref f)):=by k_is)(i1:W.isFn K (.ref f)=true:=by k_is)
  (l:K.lookup f=some ⟨oc,od,.func (W.fnOf x q (defArgs st) (defBody st) (defScope st) .none kV doc pm an cd ct),sl⟩:=by k_is)(c:W.codeIn K cd q=true:=by k_is)(k:W.keepIn K (.ref f)=true:=by k_is):EM K C x q st:=⟨f,_,⟨a1,i1,k⟩,UN (st:=st) l c k⟩
theorem Jz{d:Value}(F:FunD K "blank_row" "blank_row" (top 23) [d] f fd):Binds K fd ["wide","ink"] []:=
 F.binds λT kV doc pm an cdv ct us hl=>match us,hl with|[_,_],_=>⟨_,rfl,rfl⟩
theorem Um{d:Value}(F:FunD K "blank_row" "blank_row" (top 23) [d] f fd):Binds K fd ["wide","ink"] [d]:=
 F.binds λT kV doc pm an cdv ct us hl=>by
  have h2:us.length= 1:=by simpa using hl
  match us,h2 with
  |[_],_=>exact⟨_,rfl,rfl⟩
theorem YS{d:Value}(F:FunD K "blank_picture" "blank_picture" (top 24) [d] f fd):Binds K fd ["wide","high","ink"] []:=
 F.binds λT kV doc pm an cdv ct us hl=>match us,hl with|[_,_,_],_=>⟨_,rfl,rfl⟩
theorem Yg{d:Value}(F:FunD K "blank_picture" "blank_picture" (top 24) [d] f fd):Binds K fd ["wide","high","ink"] [d]:=
 F.binds λT kV doc pm an cdv ct us hl=>by
  have h2:us.length= 2:=by simpa using hl
  match us,h2 with
  |[_,_],_=>exact⟨_,rfl,rfl⟩
theorem zdx{d:Value}(F:FunD K "ink_of" "ink_of" (top 12) [d] f fd):Binds K fd ["fore","back","marks"] []:=
 F.binds λT kV doc pm an cdv ct us hl=>match us,hl with|[_,_,_],_=>⟨_,rfl,rfl⟩
theorem zbs{d:Value}(F:FunD K "ink_of" "ink_of" (top 12) [d] f fd):Binds K fd ["fore","back","marks"] [d]:=
 F.binds λT kV doc pm an cdv ct us hl=>by
  have h2:us.length= 2:=by simpa using hl
  match us,h2 with
  |[_,_],_=>exact⟨_,rfl,rfl⟩
theorem all_mk{fa bw cQ cS cL cT cR cN cD:Addr}(T:Txt P w K mg C bw)(TR:TxtR K mg cQ)(D:Dds K mg cD cS cL cT cR)(N:TxtS K mg cN)(n_Line:CalN K mg "Line" cL)(n_Tab:CalN K mg "Tab" cT)(hfa:mg "law" =some (.ref fa))
  (zmT:EM K C "begin" "State.begin" uE)
  (zmS:EI K C "State.__init__" vt)
  (zmx:EI K cQ "Reader.__init__" x4)
  (zmE:EI K cN "Screen.__init__" x6)
  (zmz:EM K cQ "open_row" "Reader.open_row" x5)
  (zmy:EM K cQ "end_row" "Reader.end_row" vv)
  (zmB:EM K cQ "read_sign" "Reader.read_sign" xO)
  (zmA:EM K cQ "read" "Reader.read" uL)
  (zmQ:EI K cS "Sign.__init__" vK)
  (zmC:EI K cR "Row.__init__" uf)
  (zmR:EM K cS "do" "Sign.do" ZF)
  (zmw:EM K cL "do" "Line.do" ZG)
  (zmU:EM K cT "do" "Tab.do" YG)
  (zmD:EM K cR "do" "Row.do" YH)
  (zmG:EM K cN "feed" "Screen.feed" uM)
  (zmN:EM K cN "told_picture" "Screen.told_picture" yT)
  (zmF:EM K cN "cursor" "Screen.cursor" vL)
  (zmH:EM K cN "is_late" "Screen.is_late" vw)
  (zmM:EM K cN "told_ink" "Screen.told_ink" x8)
  (zmK:EM K cN "modes" "Screen.modes" ug)
  (zmP:EM K cN "window" "Screen.window" vM)
  (zmO:EM K cN "told_stops" "Screen.told_stops" xl)
  (zmJ:EM K cN "many_kept" "Screen.many_kept" xP)
  (zmL:EM K cN "open_row" "Screen.open_row" x9)
  (zmI:EM K cN "lines" "Screen.lines" xX)
  (zni:∃t f fd,FunD K "blank_row" "blank_row" (top 23) [.int 0 t] f fd/\mg "blank_row" =some (.ref f))
  (znh:∃t f fd,FunD K "blank_picture" "blank_picture" (top 24) [.int 0 t] f fd/\mg "blank_picture" =some (.ref f))
  (zny:∃t f fd,FunD K "ink_of" "ink_of" (top 12) [.int 0 t] f fd/\mg "ink_of" =some (.ref f))
  (zm7:EF K mg "_law_size" (top 104))
  (zm0:EF K mg "_law_mixed" (top 103))
  (zmW:EF K mg "_law_at" (top 102))
  (znD:EF K mg "is_whole" (top 8))
  (znC:EF K mg "is_size" (top 22))
  (znv:EF K mg "first_stops" (top 30))
  (zm1:EF K mg "_law_number" (top 105))
  (zm2:EF K mg "_law_numbers" (top 106))
  (zm5:EF K mg "_law_row" (top 107))
  (zm6:EF K mg "_law_signs" (top 108))
  (zm3:EF K mg "_law_part" (top 110))
  (zm9:EF K mg "_law_text" (top 111))
  (zm4:EF K mg "_law_pieces" (top 112))
  (znB:EF K mg "is_letter" (top 95))
  (znL:EF K mg "parted" (top 96))
  (znA:EF K mg "is_figure" (top 94))
  (znW:EF K mg "sign_alone" (top 97))
  (znn:EF K mg "deed_of" (top 89))
  (znu:EF K mg "edges" (top 31))
  (zn3:EF K mg "to_left_edge" (top 36))
  (znj:EF K mg "copied" (top 25))
  (zng:EF K mg "blank_of" (top 33))
  (znR:EF K mg "roll_rows" (top 61))
  (znS:EF K mg "roll_up" (top 62))
  (znG:EF K mg "line_end" (top 75))
  (znc:EF K mg "at_least_one" (top 32))
  (znI:EF K mg "move_cells" (top 46))
  (znM:EF K mg "put_cells" (top 47))
  (znO:EF K mg "put_sign" (top 76))
  (znK:EF K mg "on_tab" (top 40))
  (zn5:EF K mg "told_place" (top 57))
  (zn6:EF K mg "told_size" (top 58))
  (znw:EF K mg "fore_of" (top 9))
  (znd:EF K mg "back_of" (top 10))
  (znz:EF K mg "ink_text" (top 18))
  (znb:EF K mg "asked" (top 59))
  (znJ:EF K mg "number_at" (top 79))
  (znV:EF K mg "set_stop" (top 42))
  (znZ:EF K mg "take_stop" (top 43))
  (zn0:EF K mg "take_stops" (top 44))
  (znE:EF K mg "keep" (top 54))
  (znY:EF K mg "take_back" (top 55))
  (zob:EF K mg "wipe_places" (top 49))
  (zn9:EF K mg "wipe" (top 51))
  (znf:EF K mg "begin_anew" (top 56))
  (znr:EF K mg "do_without_number" (top 80))
  (znx:EF K mg "go" (top 35))
  (zne:EF K mg "back_tab" (top 41))
  (zna:EF K mg "again" (top 77))
  (znQ:EF K mg "roll_down" (top 63))
  (znP:EF K mg "roll" (top 64))
  (znN:EF K mg "put_lines" (top 65))
  (znm:EF K mg "cut_lines" (top 66))
  (znl:EF K mg "cut_cells" (top 48))
  (zoa:EF K mg "wipe_cells" (top 50))
  (znp:EF K mg "do_with_one" (top 81))
  (znk:EF K mg "counted" (top 37))
  (zn4:EF K mg "to_place" (top 38))
  (znX:EF K mg "span" (top 68))
  (zn2:EF K mg "to_home" (top 39))
  (znU:EF K mg "set_rows" (top 69))
  (znT:EF K mg "set_columns" (top 70))
  (znq:EF K mg "do_with_two" (top 82))
  (zoe:EF K mg "with_mark" (top 15))
  (zof:EF K mg "without_mark" (top 16))
  (zn8:EF K mg "turned_marks" (top 17))
  (znH:EF K mg "marks_of" (top 11))
  (zod:EF K mg "with_fore" (top 13))
  (zoc:EF K mg "with_back" (top 14))
  (znt:EF K mg "dyed" (top 71))
  (zns:EF K mg "dye" (top 72))
  (zn7:EF K mg "turn_modes" (top 73))
  (zno:EF K mg "do_with_all" (top 83))
  (zmY:EF K mg "_law_fed" (top 113))
  (zn1:EF K mg "text_of" (top 26))
  (zmV:EF K mg "_law_all" (top 109))
  (zmX:EF K mg "_law_by_parts" (top 114))
  (zmZ:EF K mg "_law_is_at" (top 115))
  (zm8:EF K mg "_law_spoilt" (top 116))
  (znF:EF K mg "law" (top 117)) :
  ∃fd:FuncData,(∀(s:Shared) (v:Value),BindsTo s fd ⟨[v],[]⟩ [("_law_script",v)])/\∀base:Heap,K.In base->base.Ns mainGlobals mg->FnOk P w K mg base CX0 11 fa fd ["_law_script"] (za K sLaw22):=by
 obtain⟨zoj,zmv,zl1,zon⟩:=znF;obtain⟨zop,zoh,zmt,zlZ,zol⟩:=zni;obtain⟨zoo,zog,zms,zlY,zok⟩:=znh;obtain⟨zoq,zoi,zmu,zl0,zom⟩:=zny;rw[hfa]at zon;cases zon;refine⟨zmv,λs v=>?_,λbase _ _=>?_⟩
 .obtain⟨oc,od,kV,doc,pm,an,cdv,ct,osl,rfl,_⟩:=zl1.ex
  exact .of_eq rfl
 have cq:=zR P w base zm7 (JZ · T);have ue:=zR P w base zm0 (Jp · T);have af:=zR P w base zmW (zdk · T);have ab:=zR P w base znD (JP · T);have ai:=zR P w base znC (zbd · T ab);have zmo:Cal P w K mg base 1 "blank_row" [] (za K sBlankRow):=⟨zoh,zmt,_,[],ZU zlZ T,zol,zlZ.kp,Jz zlZ,.nil⟩;have zmp:Cal P w K mg base 1 "blank_row" [.int 0] (za K sBlankRow):=⟨zoh,zmt,_,_,ZU zlZ T,zol,zlZ.kp,Um zlZ,.cons ⟨zop,rfl⟩ .nil⟩;have zmm:Cal P w K mg base 3 "blank_picture" [] (za K sBlankPic):=⟨zog,zms,_,[],qF zlY T ai zmo,zok,zlY.kp,YS zlY,.nil⟩;have zmn:Cal P w K mg base 3 "blank_picture" [.int 0] (za K sBlankPic):=⟨zog,zms,_,_,qF zlY T ai zmo,zok,zlY.kp,Yg zlY,.cons ⟨zoo,rfl⟩ .nil⟩;have d3:=zR P w base znv (Vw · T);have zmk:CalT P w K mg base 2 "begin" C (za K (Z6 C)):=yv T.st.cl zmT (Vx · T d3);have ww:=jO P w base T.mgC zmS (Uk · T zmn zmk);have wx:=jO P w base TR.mgC zmx (Vr · TR);have ag:=jO P w base N.mgC zmE (Vu · T N ww wx);have ce:=zR P w base zm1 (Uf · T);have cf:=zR P w base zm2 (Vq · T ce);have cm:=zR P w base zm5 (zbm · T cf);have cn:=zR P w base zm6 (Jq · T);have cp:=zR P w base zm3 (J1 · T cm cn);have cr:=zR P w base zm9 (J2 · T cp ue);have cv:=zR P w base zm4 (Ui · T ue);have ci:=zR P w base znB (Js · TR);have cg:=zR P w base znL (zdl · TR);have zl4:CalT P w K mg base 1 "open_row" cQ (za K (Zl cQ)):=yv TR.st.cl zmz (ZR · TR);have zl3:CalT P w K mg base 2 "end_row" cQ (za K (zaE cQ)):=yv TR.st.cl zmy (Ye · TR cg zl4);have cj:=zR P w base znA (Jr · TR);have ck:=zR P w base znW (Ug · TR);have zl6:CalT P w K mg base 3 "read_sign" cQ (za K (Qt cQ)):=yv TR.st.cl zmB (kS · TR ci zl3 cj ck);have zl5:CalT P w K mg base 4 "read" cQ (za K (Xg cQ)):=yv TR.st.cl zmA (Vs · TR zl6);have c8:=jO P w base D.m_Sign zmQ (Jo · T D);have cc:=jO P w base D.m_Row zmC (JY · T D);have ud:=zR P w base znn (zbl · T D c8 n_Line n_Tab cc);have uc:=zR P w base znu (zfd · T);have wm:=zR P w base zn3 (Xx · T uc);have wb:=zR P w base znj (zdd · T);have vf:=zR P w base zng (JR · T);have wj:=zR P w base znR (Jg · T wb vf);have w8:=zR P w base znS (zbh · T wj);have wn:=zR P w base znG (JU · T wm w8);have ub:=zR P w base znc (Xu · T);have wk:=zR P w base znI (Ub · T uc vf);have wo:=zR P w base znM (Jh · T ub wk);have wq:=zR P w base znO (JV · T wn wo uc);have zmj:CalT P w K mg base 6 "do" cS (za K (sDeedDo C (aS cS))):=yv D.k_S.cl zmR (zbj · T D wq);have zl2:CalT P w K mg base 5 "do" cL (za K (sDeedDo C (aL cL))):=yv D.k_L.cl zmw (zbk · T wn);have wt:=zR P w base znK (zde · T uc ub);have zml:CalT P w K mg base 3 "do" cT (za K (sDeedDo C (aT cT))):=yv D.k_T.cl zmU (zdh · T wt);have bp:=zR P w base zn5 (Ue · T);have bq:=zR P w base zn6 (Jm · T);have wa:=zR P w base znw (zbe · T);have w9:=zR P w base znd (zbf · T);have bt:=zR P w base znz (JX · T wa w9);have bu:=zR P w base znb (zfg · T bp bq bt);have ae:=zR P w base znJ (Jn · T);have ar:=zR P w base znV (J0 · T);have au:=zR P w base znZ (Jj · T);have aw:=zR P w base zn0 (Ud · T);have ax:=zR P w base znE (zhM · T);have ay:=zR P w base znY (Jl · T);have xo:=zR P w base zob (Vy · T vf);have wu:=zR P w base zn9 (zhU · T xo);have az:=zR P w base znf (Uh · T zmk wu);have bx:=zR P w base znr (kE · T wm ar au aw ax ay az);have ba:=zR P w base znx (zk0 · T ub uc);have bd:=zR P w base zne (JW · T uc ub);have be:=zR P w base zna (zfe · T ub wq);have aa:=zR P w base znQ (Jw · T wj);have bf:=zR P w base znP (zhV · T ub w8 aa);have bg:=zR P w base znN (Jx · T ub aa);have bh:=zR P w base znm (Jy · T ub w8);have bi:=zR P w base znl (Jv · T ub wk);have bj:=zR P w base zoa (Ul · T ub xo);have bz:=zR P w base znp (Vn · T ba wt bd be bf bg bh wo bi bj wu);have we:=zR P w base znk (zbc · T ub);have wf:=zR P w base zn4 (JS · T we);have wg:=zR P w base znX (zhH · T ub);have uh:=zR P w base zn2 (zbg · T wf);have bm:=zR P w base znU (JT · T wg uh);have bn:=zR P w base znT (Vm · T wg uh);have c6:=zR P w base znq (Vo · T wf bm bn);have aj:=zR P w base zoe (Jd · T);have ak:=zR P w base zof (Xw · T);have am:=zR P w base zn8 (Xv · T);have zmq:Cal P w K mg base 1 "ink_of" [] (za K jA):=⟨zoi,zmu,_,[],V2 zl0 T,zom,zl0.kp,zdx zl0,.nil⟩;have zmr:Cal P w K mg base 1 "ink_of" [.int 0] (za K jA):=⟨zoi,zmu,_,_,V2 zl0 T,zom,zl0.kp,zbs zl0,.cons ⟨zoq,rfl⟩ .nil⟩;have wc:=zR P w base znH (JQ · T);have ao:=zR P w base zod (Je · T zmq w9 wc);have ap:=zR P w base zoc (Jf · T zmq wa wc);have aq:=zR P w base znt (zhI · T aj ak am ao ap);have bo:=zR P w base zns (zj4 · T aq);have ad:=zR P w base zn7 (Uc · T uh);have c7:=zR P w base zno (Vp · T bo ad);have zl7:CalT P w K mg base 8 "do" cR (za K (sDeedDo C (aR cR))):=yv D.k_R.cl zmD (zdi · T D bu ae bx bz c6 c7);have zl9:CalT P w K mg base 9 "feed" cN (za K (sFeed cN C cQ)):=yv N.st.cl zmG (Vv · T N D zl5 ud zmj zl2 zml zl7);have ah:=zR P w base zmY (zbr · T zl9);have zmg:CalT P w K mg base 2 "told_picture" cN (za K (sTellN cN C cQ tPic)):=yv N.st.cl zmN (jq · T N wb);have zl8:CalT P w K mg base 1 "cursor" cN (za K (sTellN cN C cQ tCur)):=yv N.st.cl zmF (YN · T N);have zma:CalT P w K mg base 1 "is_late" cN (za K (sTellN cN C cQ tLate)):=yv N.st.cl zmH (Yf · T N);have zmf:CalT P w K mg base 1 "told_ink" cN (za K (sTellN cN C cQ tInk)):=yv N.st.cl zmM (ZS · T N);have zmd:CalT P w K mg base 1 "modes" cN (za K (sTellN cN C cQ tMod)):=yv N.st.cl zmK (XB · T N);have zmi:CalT P w K mg base 1 "window" cN (za K (sTellN cN C cQ tWin)):=yv N.st.cl zmP (YO · T N);have zmh:CalT P w K mg base 1 "told_stops" cN (za K (sTellN cN C cQ tStp)):=yv N.st.cl zmO (kI · T N);have zmc:CalT P w K mg base 1 "many_kept" cN (za K (sTellN cN C cQ tKep)):=yv N.st.cl zmJ (kT · T N);have zme:CalT P w K mg base 2 "open_row" cN (za K (sTellN cN C cQ tOpn)):=yv N.st.cl zmL (ZT · T N zl4);have wy:=zR P w base zn1 (zbn · T);have zmb:CalT P w K mg base 2 "lines" cN (za K (sTellN cN C cQ tLin)):=yv N.st.cl zmI (XC · T N wy);have wz:=zR P w base zmV (zbp · T zmg zl8 zma zmf zmd zmi zmh zmc zme zmb);have cw:=zR P w base zmX (XE · T D zl5 ud zmj zl2 zml zl7);have cx:=zR P w base zmZ (Ju · T zmg zl8 zmd zma zmf zme zl4);have d6:=zR P w base znj (zbo · T);have d7:CalT P w K mg base 2 "told_picture" cN (za K (sTellO cN C cQ λS=>.grid (genG S.h S.w S.pic))):=yv N.st.cl zmN (qG · T N d6);have d8:CalT P w K mg base 1 "told_stops" cN (za K (sTellO cN C cQ λS=>.lst (((srt S.stops).map .int).map .d))):=yv N.st.cl zmO (jN · T N);have d9:CalT P w K mg base 2 "lines" cN (za K (sTellO cN C cQ λS=>.lst (((linT S).map .str).map .d))):=yv N.st.cl zmI (YQ · T N wy);have cy:=zR P w base zm8 (Uj · T d7 d8 d9);exact zka zl1 T cq ue af ag wx ww cr cv ah wz cw cx cy zl8 zmi zmd zma
theorem mn(X:K.In h)(G:h.Ns mainGlobals mg)(a:W.nsIn K mainGlobals x=some none:=by k_is):mg x=none:=W.mg_none_of X G a
theorem mv{v:Value}(X:K.In h)(G:h.Ns mainGlobals mg)(a:W.nsIn K mainGlobals x=some (some v):=by k_is):mg x=some v:=W.mg_of X G a
theorem na(a:W.findIn K (.ref C) x=some none:=by k_is):NoAttr K C x:=a
theorem cls_mk(pg:W.plainGet K C Str.empty=true:=by k_is)(hd:W.hasDictIn K C=true:=by k_is)(po:W.plainOver K C=true:=by k_is)(sa:W.findIn K (.ref C) "__setattr__" =some (some (.builtin "object.__setattr__")):=by k_is):Cls K C:=⟨pg,hd,po,sa⟩
theorem isk_mk(pg:W.plainGet K C Str.empty=true:=by k_is)(hd:W.hasDictIn K C=true:=by k_is)(po:W.plainOver K C=true:=by k_is)(sa:W.findIn K (.ref C) "__setattr__" =some (some (.builtin "object.__setattr__")):=by k_is)(ha:W.findIn K (.ref C) "__class__" =some (some (.builtin "object.__class__")):=by k_is)(hn:W.specialIn K (.builtin "object.__class__") "__get__" =some (some (.builtin "getset_descriptor.__get__")):=by k_is)(tk:W.takesIn K (.builtin "object.__class__")=some true:=by k_is)(hm:W.mroIn K C (.type "object")=some true:=by k_is):IsK K C:=⟨⟨pg,hd,po,sa⟩,ha,hn,tk,hm⟩
theorem caln_mk(X:K.In h)(G:h.Ns mainGlobals mg)(a:W.nsIn K mainGlobals x=some (some (.ref C)):=by k_is)(mk:W.makesIn K C=true:=by k_is)(a1:W.findIn K (.ref C) "__init__" =some (some (.builtin "object.__init__")):=by k_is)(kc:W.keepIn K (.ref C)=true:=by k_is):CalN K mg x C:=⟨⟨mk,a1,kc⟩,W.mg_of X G a⟩
end K22
namespace PySem.W.Fast
def tw3635793495743107298:=()
def tw5166634957256411691:=()
def tw11940852910685828053:=()
def tw4908873294421709695:=()
def tw13121941517914827659:=()
def tw10570420896097160801:=()
def tw3355634556097368849:=()
def tw7064936382127235849:=()
def tw6819127428722429690:=()
def tw11025863964507980346:=()
def tw11483893435566318050:=()
def tw1699962587260975711:=()
def tw12275358516402024731:=()
def tw15284417297029953049:=()
def tw623454200244116303:=()
def tw4493196233885831776:=()
def tw16841140527830448860:=()
def tw18030512087233085736:=()
def tw3852888690647400860:=()
def tw303964649096117481:=()
def tw6257091220934342611:=()
def tw11242194986849105452:=()
def tw15504156204509995470:=()
def tw888407526628239997:=()
def tw1603147734154027118:=()
def tw17915935155715113472:=()
def tw17607218558005821165:=()
def tw8244099950195050954:=()
def tw8672358625100528904:=()
def tw10713211718850446019:=()
def tw15707620512317177258:=()
def tw2466894876206783802:=()
def tw6446762416841810002:=()
def tw14919741788896081941:=()
def tw9390639835770799112:=()
def tw3685814057143970144:=()
def tw2967125255850380436:=()
def tw9158821036216406682:=()
def tw5029946438218130565:=()
def tw17619188141301297499:=()
def tw9209304345063958763:=()
def tw16537350482083482386:=()
def tw3171593958309289396:=()
def tw5042042937518609542:=()
def tw13585235583974326921:=()
def tw14451122973963894276:=()
def tw10713561752847532215:=()
def tw12563207377937755999:=()
def tw6724829432447597417:=()
def tw11725286848786434710:=()
def tw10005912439319525497:=()
def tw4876543754735172347:=()
def tw6533680764780001362:=()
def tw17720961644017430587:=()
def tw234900556099275292:=()
def tw13554438288098366257:=()
def tw17173185944426602826:=()
def tw2665718171795084953:=()
def tw8721201690694814244:=()
def tw5509983161902369523:=()
def tw12798207192664092267:=()
def tw9312950864083460210:=()
def tw1689596783738539393:=()
def tw17143057069069408229:=()
def tw16305788260173828433:=()
def tw16816658733022937439:=()
def tw1470487168324001512:=()
def tw5222891048649261598:=()
def tw5530383080652231580:=()
def tw2265740563036779626:=()
def tw13928695273200924442:=()
def tw3741405359526808158:=()
def tw14499193355968869800:=()
def tw10956839643183670079:=()
def tw7125330740938181584:=()
def tw10599152265377598139:=()
def tw2735550916004553666:=()
def tw5376923196623532963:=()
def tw9678639548447740757:=()
def tw11416323568721114562:=()
def tw9238397439331537425:=()
def tw15349226144874458734:=()
def tw17569080234092193994:=()
def tw13341392570155426703:=()
def tw3250782741597917573:=()
def tw11387826357595700134:=()
def tw14830184772471801686:=()
def tw4415111299720369462:=()
def tw17847061501992658196:=()
def tw9489324047778768733:=()
def tw4694776547488263558:=()
def tw4659915169175031983:=()
def tw17217034266077413313:=()
def tw2170683529093328641:=()
def tw12602163422469059336:=()
def tw3962494144730436772:=()
def tw8906208268036652168:=()
def tw17596384328621000689:=()
def tw1937197238475003531:=()
def tw10741077121330943095:=()
def tw7526601477069973984:=()
def tw827668721971081395:=()
def tw5283317048703431620:=()
def tw12512212502140022393:=()
def tw18205412285583849722:=()
def tw14498720702654303301:=()
def tw10507847827562302779:=()
def tw11809508938489416149:=()
def tw10602788920660960077:=()
def tw4194673757921956669:=()
def tw13693862469258730480:=()
def tw15055785505626945727:=()
def tw10255637341088850926:=()
def tw7575243474133246335:=()
def tw8767744148146421546:=()
def tw232678843152044153:=()
def tw2412831170196038591:=()
def tw3106296426239434075:=()
def tw5978669590061667886:=()
def tw13075921529840511329:=()
def tw11082904048042484191:=()
def tw9728474384573436352:=()
def tw14306223304421260623:=()
def tw18098269444521042523:=()
def tw12269469932197197446:=()
def tw10223239361779593851:=()
def tw16430942173709394234:=()
def tw7589059450550498797:=()
def tw15113056813764597520:=()
def tw3517293490512710778:=()
def tw5551825441244684701:=()
def tw1374196800631554223:=()
def tw4959965064083965247:=()
def tw7939225159243353762:=()
def tw11953320188290022086:=()
def tw1293257475957640685:=()
def tw3398223452433992880:=()
def tw12632176975518952760:=()
def tw7937625549597354746:=()
def tw11647819987943517520:=()
def tw15473447718413057086:=()
def tw5178572431664778322:=()
def tw2700285306295204334:=()
def tw5041357370891485001:=()
def tw3192323675622733650:=()
def tw1709501193851129482:=()
def tw15014173240240025623:=()
def tw7527829837759588274:=()
def tw12148797599637987088:=()
def tw18235753218292937795:=()
def tw8986446795561643839:=()
def tw6548081601112938891:=()
def tw16085471067128248793:=()
def tw11144406593522369126:=()
def tw6939324237702255656:=()
def tw15746862215873666961:=()
def tw2378409481210486869:=()
def tw9905198733706642319:=()
def tw15842463255344553839:=()
def tw6732768383620170654:=()
def tw9500414274013275908:=()
def tw5398309979724318827:=()
def tw8011796927681362673:=()
def tw12126635171033332351:=()
def tw10599815335505135382:=()
def tw10709151462831167697:=()
def tw10507857280110739687:=()
def tw7158737103489410967:=()
def tw4117770430625976117:=()
def tw10778893743337234497:=()
def tw8068056814240034396:=()
def tw6079767607988045916:=()
def tw2727920529174632783:=()
def tw7368342043719833770:=()
def tw10145090477873792275:=()
def tw11745718139437408004:=()
def tw10503162405387514810:=()
def tw6156518266763384878:=()
def tw9822288291846193814:=()
def tw11760967150338175438:=()
def tw4691516610666025823:=()
def tw2003768065360133692:=()
def tw3041343808473834590:=()
def tw13462280525824315693:=()
def tw14138826935384700702:=()
def tw17462695587058648543:=()
def tw879462322709506246:=()
def tw13898644906168627637:=()
def tw15615417984629990500:=()
def tw6771042577363783797:=()
def tw4609253389034037419:=()
def tw9022076541539991361:=()
def tw9497898126332968544:=()
def tw724504295712993208:=()
def tw13951415356728662155:=()
def tw9594412800676492589:=()
def tw2306762679923919250:=()
def tw13555826941558825079:=()
def tw11666999344372382651:=()
def tw16377600986087606020:=()
def tw12799538867673092404:=()
def tw10332140341120735364:=()
def tw181098847109221552:=()
def tw5367646424170584001:=()
def tw12735266854226520422:=()
def tw10188275337341320509:=()
def tw3548248623107764468:=()
def tw12603276946825859825:=()
def tw2854992882783234328:=()
def tw16958096396770785461:=()
def tw4870725699039581082:=()
def tw2344394756130801440:=()
def tw12642651343327747897:=()
def tw10527877788886155182:=()
def tw3638105803107344956:=()
def tw14830037207831669359:=()
def tw17473029234667329512:=()
def tw13188055234813109826:=()
def tw17147034462571281025:=()
def tw8532009614327693224:=()
def tw17751974419030979496:=()
def tw17958219930862562768:=()
def tw14016265704076110491:=()
def tw5699920422770565918:=()
def tw11049690133026849350:=()
def tw9533231496140816968:=()
def tw16222987441137777064:=()
def tw7581453536588472515:=()
def tw9921613238179771547:=()
def tw1418410653864373028:=()
def tw7887729906447722231:=()
def tw14779946767537514895:=()
def tw2322686950985644968:=()
def tw1002989571410989528:=()
def tw250609958266346648:=()
def tw8591482356964045472:=()
def tw7468047617854083470:=()
def tw5924930902146517394:=()
def tw17968998929335465541:=()
def tw4505931239735707123:=()
def tw2895336720156177293:=()
def tw16342542585807662432:=()
def tw7394518486474976273:=()
def tw10812507873532158649:=()
def tw16432878809388704274:=()
def tw9388507736710998819:=()
def tw5679879851793454308:=()
def tw4375832027355476035:=()
def tw2436209783595169563:=()
def tw8516877789907592435:=()
def tw1347593736680416609:=()
def tw13476423905461413727:=()
def tw14209700415952772976:=()
def tw4974853770427965892:=()
def tw14633535433388919903:=()
def tw13294089563244535138:=()
def tw17189504962050286580:=()
def tw6748495250651885732:=()
def tw7477657053921916947:=()
def tw15536122262934019521:=()
def tw16012621387162553009:=()
def tw14656553792210753757:=()
def tw17638205179072216387:=()
def tw12839207385580162817:=()
def tw2946134752901476488:=()
def tw13481321984521468271:=()
def tw17203207239972660697:=()
def tw17691085434909642525:=()
def tw8797963054095802106:=()
def tw7425233042515377122:=()
def tw14586819278908607371:=()
def tw14680640989754717544:=()
def tw112688016463348577:=()
def tw5254730635860962052:=()
def tw6629474506080725606:=()
def tw15496207205430936927:=()
def tw12478998909879454201:=()
def tw14631300306048370039:=()
def tw6146147245024965722:=()
def tw18266465050327286566:=()
def tw7833271616254655260:=()
def tw14177096996503438792:=()
def tw8059484603924801957:=()
def tw7063975462531210823:=()
def tw1925098321933197025:=()
def tw17635297370108551633:=()
def tw5039425064751354503:=()
def tw9057795073764430941:=()
def tw9967341898653312881:=()
def tw2465494345126528766:=()
def tw4629122242680287393:=()
def tw7273279816027359628:=()
def tw4190968886064147710:=()
def tw3184190997558847024:=()
def tw8760751639045473838:=()
def tw14090954250006548043:=()
def tw16443858932083427092:=()
def tw10747276346979107548:=()
def tw6288487495032548945:=()
def tw5100763044216301517:=()
def tw17443305599172111544:=()
def tw5272523491508096576:=()
def tw3670817122165509182:=()
def tw7982902000214716479:=()
def tw14272069376577003838:=()
def tw6804851242028085368:=()
def tw1073931860653229414:=()
def tw7892688159931725053:=()
def tw1504353274195778518:=()
def tw13152270134133079855:=()
def tw8894394825282547997:=()
def tw14234988630497539517:=()
def tw15152445574144094371:=()
def tw2827871544561871254:=()
def tw3583943584962396558:=()
def tw353323919631747938:=()
def tw6215099647120959002:=()
def tw12382132306582977350:=()
def tw3523590278683564183:=()
def tw11893932483821379237:=()
def tw5050522734526403021:=()
def tw10990743868513525479:=()
def tw14960584292608302008:=()
def tw6711991311342954071:=()
def tw13368349885381553880:=()
def tw12836577796067322867:=()
def tw16878440163744056685:=()
def tw9882694134229216688:=()
def tw6850736757004463152:=()
def tw10533048799821356079:=()
def tw16098529282091121390:=()
def tw8409658243642009637:=()
def tw3937925613500742135:=()
def tw11830844210093653337:=()
def tw17037143884172786656:=()
def tw6529153842713091978:=()
def tw17235415923293615468:=()
def tw9631165722347683727:=()
def tw10799351132027905143:=()
def tw4569527755456865819:=()
def tw11725173288003877575:=()
def tw12816345486570514859:=()
def tw15350229197154631103:=()
def tw8551777379278267410:=()
def tw10079040977101366280:=()
def tw15664725751325874456:=()
def tw12622824118008259319:=()
def tw18229186244277806119:=()
def tw8985308011480925201:=()
def tw18382176744738744853:=()
def tw9312129991998977097:=()
def tw8300550932261118228:=()
def tw2179282896360200668:=()
def tw7569099724041694594:=()
def tw15020312248965275317:=()
def tw5868945693873233820:=()
def tw12849746263824310259:=()
def tw10162307152348766011:=()
def tw6331867099081324669:=()
def tw9722108834326196394:=()
def tw17310022056188597296:=()
def tw8315197312248810492:=()
def tw386740795851312153:=()
def tw8092587907825009752:=()
def tw2977457091723984927:=()
def tw8694359030948147613:=()
def tw11496076985744196354:=()
def tw14736470957105137522:=()
def tw13413947492064022824:=()
def tw4756954337359960446:=()
def tw14966046452484808737:=()
def tw16176343469666710848:=()
def tw18434103252834345088:=()
def tw6290886588791027363:=()
def tw6691339329182056986:=()
def tw13630083740071466155:=()
def tw11283526198498556196:=()
def tw4174915297778829880:=()
def tw14570298888002050555:=()
def tw179897301364720798:=()
def tw12644693682428181409:=()
def tw6633281199309724668:=()
def tw8584059998149392855:=()
def tw9620163481702507791:=()
def tw6800572674164291497:=()
def tw3874285540129291402:=()
def tw11179935806105462016:=()
def tw156830207036023569:=()
def tw14669592131484135833:=()
def tw4186945911967271253:=()
def tw16069221819820670240:=()
def tw12993663467283716049:=()
def tw17111486509807156579:=()
def tw422764736492389534:=()
def tw11806220795093234105:=()
def tw10224650524748389414:=()
def tw8643361005119835964:=()
def tw878146247144213821:=()
def tw4324594720517085619:=()
def tw12923663356524277756:=()
def tw9497567502143126408:=()
def tw11247945955261721504:=()
def tw16819116903055876533:=()
def tw12892995731233693535:=()
def tw4155316189784487873:=()
def tw9733289293437256218:=()
def tw8710416262510426784:=()
def tw5295916306629877021:=()
def tw287145565328244349:=()
def tw18119018222123566405:=()
def tw17515804069474611136:=()
def tw1396401229054164195:=()
def tw5388217481837632513:=()
def tw9609068269269486831:=()
def tw16990855866630976203:=()
def tw4568769871637280365:=()
def tw1633809638823519880:=()
def tw13292189865663752710:=()
def tw1248487625425425409:=()
def tw14133788812134994151:=()
def tw1336807862303636015:=()
def tw16338327729737142310:=()
def tw7671634476510831112:=()
def tw2822822400045337984:=()
def tw6442382684533979704:=()
def tw2808024046143960909:=()
def tw12906452873920408530:=()
def tw8120766863126677899:=()
def tw4161527909038627638:=()
def tw9445127812803817419:=()
def tw3644860566295435016:=()
def tw12759607106390825336:=()
def tw2431492675142798177:=()
def tw9420931501792068400:=()
def tw4189128405640729202:=()
def tw16092569651547363336:=()
def tw98195801271474236:=()
def tw7471583379335788233:=()
def tw6275580277621384088:=()
def tw12057210060935869076:=()
def tw15570536693478886778:=()
def tw12213725746391110934:=()
def tw8701246073034545681:=()
def tw3789213622620262862:=()
def tw4691271492655886713:=()
def tw14579648002120838922:=()
def tw8371336531065681359:=()
def tw5087843939156993945:=()
def tw16680313340839497878:=()
def tw9738350024780383645:=()
def tw6833607780039532410:=()
def tw12624531188868410841:=()
def tw10568504764218194695:=()
def tw4422925694930121016:=()
def tw4061349120769006152:=()
def tw10363315294363156051:=()
def tw16196776249093072190:=()
def tw1916350031765682738:=()
def tw6402065571545071669:=()
def tw17349287658407143340:=()
def tw6530474573907850655:=()
def tw10736219757099577466:=()
def tw17711591656126994066:=()
def tw8599365543522382227:=()
def tw5014044990905516058:=()
def tw5756121691563437095:=()
def tw8077793959780850502:=()
def tw7756690608872696392:=()
def tw9509877551265675891:=()
def tw17104362146569385815:=()
def tw5692564487135722089:=()
def tw7967617739649922907:=()
def tw15256087406367569817:=()
def tw5875759781680706167:=()
def tw5884015447465542214:=()
def tw8172791561409621261:=()
def tw1499720517676313400:=()
def tw14316087225108000654:=()
def tw17580376618309656082:=()
def tw9406321696810087309:=()
def tw12572382115083798696:=()
def tw7831200499328924712:=()
def tw2973378436108030083:=()
def tw6438633388644543909:=()
def tw12958150614377081155:=()
def tw6111526213028806725:=()
def tw4455818288284885317:=()
def tw5383504468382312932:=()
def tw8604320420337789838:=()
def tw659012952753328152:=()
def tw18273912213087304689:=()
def tw12143891972901386438:=()
def tw11252160349015478077:=()
def tw14735678611788522455:=()
def tw3821865354625440752:=()
def tw5003878885401589008:=()
def tw13382810059714107902:=()
def tw7529341169056271323:=()
def tw2429352867738066685:=()
def tw3058686009603004971:=()
def tw14670784381961065435:=()
def tw2545772802390029234:=()
def tw1323044152223599404:=()
def tw3063151866881716829:=()
def tw11614507624614560395:=()
def tw12822469011571610870:=()
def tw404124668446336727:=()
def tw3199063191719905938:=()
def tw2206082856862275237:=()
def tw9872603313018056622:=()
def tw11884142352110524288:=()
def tw1277994053314845961:=()
def tw1948021309492578895:=()
def tw9754793489618202492:=()
def tw12379314632004565031:=()
def tw13497411835807728726:=()
def tw2288093596957747277:=()
def tw2217096426549666204:=()
def tw16030392335829266556:=()
def tw9425352202788515768:=()
def tw4276656824263654452:=()
def tw10742971867041993738:=()
def tw13343336945576534423:=()
def tw12363466351815933867:=()
def tw3692414848303038907:=()
def tw13439793810530668913:=()
def tw5399637178004066822:=()
def tw4780727908206920245:=()
def tw16661427316881840555:=()
def tw15317624879906931615:=()
def tw7790422779940088137:=()
def tw9526845128110851612:=()
def tw13615614018081153725:=()
def tw13200766864388300019:=()
def tw8373540215280241886:=()
def tw1765299785623274739:=()
def tw11364060547167388348:=()
def tw3503240883303856317:=()
def tw12551185352995802795:=()
def tw8139684062585317370:=()
def tw1643204787954854747:=()
def tw12870656688771941776:=()
def tw17535204735879200996:=()
def tw6329320194158896975:=()
def tw8935766973167083269:=()
def tw16670518034934484000:=()
def tw5828170966905115828:=()
def tw2911656270537153670:=()
def tw18100281115021185577:=()
def tw17394551595795656957:=()
def tw6002497565748048196:=()
def tw438415068850973577:=()
def tw1059834062634552407:=()
def tw18311165108348993109:=()
def tw2634428536543379819:=()
def tw15945095941192628503:=()
def tw8862156214566289802:=()
def tw7780964141930229589:=()
def tw992963767508282301:=()
def tw16625454919833132978:=()
def tw14282001945376215229:=()
def tw1331618910317369118:=()
def tw15358813614227638654:=()
def tw5389319385619247246:=()
def tw12089282755469657960:=()
def tw14456196106336090742:=()
def tw7732419637474996706:=()
def tw3307082921255261884:=()
def tw10900659632577496322:=()
def tw1088476987955136240:=()
def tw4624782112690668963:=()
def tw15024631611018969245:=()
def tw16849314007259932271:=()
def tw5806497653032896689:=()
def tw14086773591408583276:=()
def tw5808596323607783665:=()
def tw8095590988242098034:=()
def tw5322232995867898342:=()
def tw10911207141318372017:=()
def tw13152488678018726212:=()
def tw15219436939959356493:=()
def tw14364560081988595246:=()
def tw4496537936156120943:=()
def tw11214161130444085543:=()
def tw13904889824972493612:=()
def tw9249471181738332106:=()
def tw14991954665745369929:=()
def tw14165745780223386125:=()
def tw17160114857122766748:=()
def tw1700662236990202700:=()
def tw16430445715808224313:=()
def tw9599139501021609496:=()
def tw14246331983045525062:=()
def tw11818833799731615641:=()
end PySem.W.Fast
open PySem PySem.W PyProof.Rows
set_option maxRecDepth 100000 in
set_option maxHeartbeats 0 in
theorem PySem.Challenge.cw_signscreen_k22_whole_pieces_do_holds : PySem.Challenge.rw_signscreen_k22_whole_pieces_do.Holds := by
 w_on;o_law;k_head;(case hw=>w_witness2)
 k_fill
 refine L2.walkW (l:=PySem.Challenge.rw_signscreen_k22_whole_pieces_do) (n:=63) (k:=11) (x:="_law_script") (s:=K22.sLaw22) rfl (by decide) rfl ⟨rfl,by decide,by decide,rfl⟩ (fun w h Y=>PySem.W.kIn_of Y) ?F (fun ns O R hl hb hR=>⟨ns,rfl,hl,hR⟩)
 case F=>
  intro w mg fa h KX G hmg
  refine' K22.all_mk ?T ?TR ?D ?SN ?n_Line ?n_Tab hmg ?_ ?_ ?_ ?_ ?_ ?_ ?_ ?_ ?_ ?_ ?_ ?_ ?_ ?_ ?_ ?_ ?_ ?_ ?_ ?_ ?_ ?_ ?_ ?_ ?_ ?_ ?_ ?_ ?_ ?_ ?_ ?_ ?_ ?_ ?_ ?_ ?_ ?_ ?_ ?_ ?_ ?_ ?_ ?_ ?_ ?_ ?_ ?_ ?_ ?_ ?_ ?_ ?_ ?_ ?_ ?_ ?_ ?_ ?_ ?_ ?_ ?_ ?_ ?_ ?_ ?_ ?_ ?_ ?_ ?_ ?_ ?_ ?_ ?_ ?_ ?_ ?_ ?_ ?_ ?_ ?_ ?_ ?_ ?_ ?_ ?_ ?_ ?_ ?_ ?_ ?_ ?_ ?_ ?_ ?_ ?_ ?_ ?_ ?_ ?_ ?_ ?_ ?_ ?_ ?_ ?_ ?_ ?_
  (case T=>exact⟨K22.mn KX G,K22.mn KX G,K22.mn KX G,K22.mn KX G,K22.mn KX G,K22.mn KX G,K22.mn KX G,K22.mn KX G,K22.mn KX G,K22.mn KX G,K22.mn KX G,K22.mn KX G,K22.mn KX G,K22.mn KX G,K22.mn KX G,K22.mn KX G,⟨_,K22.mv KX G⟩,⟨_,K22.mv KX G⟩,⟨_,K22.mv KX G⟩,⟨_,K22.mv KX G⟩,⟨_,K22.mv KX G⟩,⟨_,K22.mv KX G,by rfl⟩,K22.mv KX G,L2.DS.of (by kernel_rfl) (by decide +kernel) (by kernel_rfl),K22.mv KX G,⟨K22.cls_mk,K22.na,K22.na,K22.na,K22.na,K22.na,K22.na,K22.na,K22.na,K22.na,K22.na,K22.na,K22.na,K22.na,K22.na,K22.na,K22.na,K22.na⟩⟩)
  (case TR=>exact⟨K22.mn KX G,K22.mn KX G,K22.mn KX G,K22.mn KX G,⟨_,K22.mv KX G⟩,⟨_,K22.mv KX G⟩,⟨_,K22.mv KX G⟩,K22.mv KX G,⟨K22.cls_mk,K22.na⟩⟩)
  (case D=>exact⟨K22.mv KX G,K22.mv KX G,K22.mv KX G,K22.mv KX G,K22.mv KX G,K22.isk_mk,K22.isk_mk,K22.isk_mk,K22.isk_mk,K22.na,K22.na,K22.na,by kit_is,by kit_is,by kit_is,by kit_is,by kit_is,by kit_is,by kit_is,by kit_is,by kit_is,by kit_is,by kit_is,by kit_is,by kit_is,by kit_is,by kit_is,by kit_is,by kit_is,by kit_is,by kit_is,by kit_is⟩)
  (case SN=>exact⟨K22.mv KX G,⟨K22.cls_mk,K22.na,K22.na⟩⟩)
  (case n_Line=>exact K22.caln_mk KX G)
  (case n_Tab=>exact K22.caln_mk KX G)
  exact K22.em_mk
  exact K22.ei_mk
  exact K22.ei_mk
  exact K22.ei_mk
  exact K22.em_mk
  exact K22.em_mk
  exact K22.em_mk
  exact K22.em_mk
  exact K22.ei_mk
  exact K22.ei_mk
  exact K22.em_mk
  exact K22.em_mk
  exact K22.em_mk
  exact K22.em_mk
  exact K22.em_mk
  exact K22.em_mk
  exact K22.em_mk
  exact K22.em_mk
  exact K22.em_mk
  exact K22.em_mk
  exact K22.em_mk
  exact K22.em_mk
  exact K22.em_mk
  exact K22.em_mk
  exact K22.em_mk
  exact⟨_,K22.fkD KX G⟩
  exact⟨_,K22.fkD KX G⟩
  exact⟨_,K22.fkD KX G⟩
  all_goals exact K22.fk KX G
end
