import PyProof.Rows.All
import Wide.All
import KE.KDictOf
import KE.KDictSum
import KE.KEqDict
import KE.KIntText
import KE.KMinBuiltin
import KE.KPairComp
import KE.KTabLook
import KE.KxBytes
import KE.LcSums
import KE.RegKIsAll
import KE.RegKTryMore
import Wide.FinOn
import PySem.Challenge.RW_signscreen_k30_signs_lead
set_option compiler.extract_closed false
set_option bootstrap.genMatcherCode false
set_option Elab.async false
set_option linter.all false
set_option maxRecDepth 100000
set_option maxHeartbeats 4000000
inductive ξ (α:Type):Prop|mk
def ζ(p:Prop):=p
instance:Coe Nat (ξ Nat):=⟨fun _=>.mk⟩
theorem η{α:Type}(x:False)(_:α)(_:ξ α):False:=x
theorem θ{p:Prop}(f:ζ p)(_:False->False):p:=f
theorem χ{p:Prop}(h:p):ζ p:=h
def ψ(x:Lean.Syntax):Lean.MacroM Lean.Syntax:=pure (x.rewriteBottomUp (·.setInfo .none))
local macro_rules|`(def $i:declId $s:optDeclSig $v:declVal)=>do
 let s:=s.raw;if s[1].getNumArgs=0 then Lean.Macro.throwUnsupported
 let v<-match v with|`(declVal|:=by $t)=>if(t.raw.getRange?.map (·.bsize)).getD 0<500 then pure v else`(declVal|:=by refine @θ _ ?a ?_;simp only[↓(@χ _ (by $t):type_of% ?a)];intro x;simpa only using η x 5 Nat.zero)|_=>pure v
 ψ (<-`(theorem $i $(⟨.node .none ``Lean.Parser.Command.declSig #[s[0],s[1][0]]⟩):declSig $v:declVal))
local macro_rules|`(abbrev $i:declId $s:optDeclSig $v:declVal)=>do ψ (<-`(noncomputable def $i $s $v:declVal))
local macro_rules|`(/---/abbrev $i:declId $s:optDeclSig $v:declVal)=>do ψ (<-`(noncomputable abbrev $i $s $v:declVal))
local macro_rules|`(⋯)=>`(by lia)
local macro_rules|`(∅)=>`(by decide)
local macro_rules|`(f!$i:interpolatedStr)=>match i.raw[0].isInterpolatedStrLit? with|some "s"=>`(by walk_at "sc")|some "l"=>`(by walk_at "ln")|some "i"=>`(by omega)|_=>`(by decide +kernel)
local macro_rules|`(m!"")=>`(by simp)
local macro_rules|`(s!$i:interpolatedStr)=>do
 let some t:=i.raw[0].isInterpolatedStrLit?|Lean.Macro.throwUnsupported
 `(PySem.Str.ofString $(Lean.quote t))
def l6:=@PySem.wpAny_bind
def l7:=@if_neg
def l8:=@List.length_map
def l9:=@if_pos
def lf:=@List.mem_singleton
def lg:=@List.mem_cons_of_mem
def lh:=@List.mem_cons_self
def li:=@PySem.Heap.get?_push_of_some
def ll:=@Nat.le_refl
def lp:=@List.getElem?_eq_getElem
def ls:=@List.mem_append
def lu:=@List.mem_cons
def lv:=@List.getElem?_eq_some_iff
def lw:=@List.getElem?_map
def lx:=@List.length_append
def lz:=@PySem.wpAny_pure
def lC:=@List.size_toArray
def lD:=@PySem.Heap.lt_size
def lE:=@List.mem_of_getElem?
def lF:=@List.not_mem_nil
def lG:=@List.map_cons
def lH:=@List.mem_map
def lI:=@PySem.sizeLine_eq
def lJ:=@PySem.Paired.length
def lK:=@Nat.ne_of_lt
def lL:=@PySem.Heap.get?_push_size
def lM:=@decide_eq_true
def lN:=@Bool.false_ne_true
def lO:=@Int.eq_ofNat_of_zero_le
def lP:=@Nat.lt_of_lt_of_le
def lQ:=@List.length_cons
def lR:=@decide_eq_false
def lS:=@List.map_append
def lT:=@List.map_map
def lU:=@List.length_eq_one_iff
def lV:=@Option.some.inj
def lW:=@List.mem_append_right
def lX:=@List.length_take
def lY:=@Nat.zero_le
def lZ:=@List.getD_eq_getElem?_getD
def m5:=@PySem.F.plainAttrs_list
def m6:=@PySem.PassesOwn.never
def m7:=@Nat.le_trans
def m8:=@Int.emod_lt_of_pos
def m9:=@List.length_drop
def ma:=@or_false
def md:=@List.mem_of_mem_take
def mf:=@List.length_replicate
def mh:=@List.getElem?_eq_none
def mi:=@List.replicate_succ
def mj:=@PySem.wpAny_truthy_bool
def mm:=@List.append_nil
def mo:=@PySem.F.slot_list_append
def mr:=@PySem.F.type_list_append
def mw:=@Int.emod_nonneg
def my:=@List.take_length
def mz:=@List.getElem?_append_left
def mB:=@List.filterMap_cons
def mC:=@of_decide_eq_true
def mD:=@PySem.wpAny_holding
def mE:=@PySem.W.kia_one
def mF:=@PyProof.Rows.callWith_type1
def mG:=@List.length_eq_zero_iff
def mH:=@congrArg
def mI:=@Bool.and_eq_true
def mJ:=@List.getElem?_append_right
def mK:=@PySem.Heap.get?_update_other
def mL:=@List.length_range
def mM:=@beq_eq_false_iff_ne
def mN:=@Array.length_toList
def mO:=@List.getElem?_range
def mP:=@List.getElem?_take_of_lt
def mQ:=@List.getElem?_cons_succ
def mR:=@List.flatten_cons
def mS:=@List.append_assoc
def mT:=@List.foldl_append
def mU:=@List.foldl_cons
def mV:=@PySem.Heap.SameBut.update
def mW:=@Option.map_eq_some_iff
def mX:=@PySem.F.plainAttrs_str
def mY:=@List.any_cons
def mZ:=@List.all_eq_true
def n4:=@PySem.wpAny_Call_Name_kw
def n5:=@PySem.Heap.get?_update_self
def n6:=@Array.getElem?_toList
def n8:=@iff_of_eq
def n9:=@List.mem_append_left
def nc:=@PySem.wpAny_mono
def ng:=@List.nodup_cons
def ni:=@PySem.call_meets
def nj:=@PySem.Around.under_plainId
def nl:=@List.mem_of_mem_drop
def np:=@not_or
def nq:=@Int.toNat_natCast
def nr:=@decide_eq_true_eq
def nu:=@List.nodup_append
def nv:=@List.take_add_one
def nw:=@List.map_congr_left
def ny:=@List.getElem_mem
def nz:=@List.nil_append
def nA:=@Option.map_some
def nB:=@List.find?_cons
def nE:=@List.length_nil
def nG:=@PySem.F.slot_str_join
def nH:=@PySem.F.type_str_join
def nI:=@Nat.lt_irrefl
def nJ:=@PySem.plainId_quiet
def nK:=@PySem.wpAny_newObj_type
def nL:=@Classical.byContradiction
def nM:=@Nat.le_succ
def nN:=@PySem.wpAny_tryCatch
def nO:=@Option.isSome_iff_exists
def nP:=@Nat.lt_trans
def nQ:=@PySem.F.plain_min_loop
def nR:=@List.eq_of_mem_replicate
def nS:=@Option.bind_some
def nT:=@PySem.mem_of_lookup
def nU:=@List.getElem?_replicate
def nV:=@PySem.wpAny_getItem_str_slice
def nW:=@List.getElem?_cons_zero
def nX:=@Int.natCast_nonneg
def nY:=@List.getElem?_drop
def nZ:=@PySem.codeAny_builtin
def o0:=@PySem.Calls.callWith_builtin
def o5:=@PySem.F.slot_str_split
def o6:=@List.take_of_length_le
def o7:=@List.ext_getElem?
def o8:=@PySem.wpAny_dictEntries
def o9:=@List.flatMap_cons
def og:=@PySem.wpAny_seqItems
def oh:=@List.getElem?_zipWith
def oj:=@beq_iff_eq
def om:=@List.any_eq_true
def oq:=@PySem.Obj.data_mapDictKeys
def ou:=@List.mem_filter
def ow:=@PySem.wpAny_passesOwn
def ox:=@Bool.eq_iff_iff
def oy:=@List.length_set
def oz:=@List.filterMap_map
def oA:=@PySem.wpAny_typeOf
def oB:=@List.pairwise_cons
def oC:=@PySem.F.args_str_split_2
def oE:=@PySem.typeIs_str
def oF:=@PySem.F.plainAttrs_dict
def oG:=@PySem.F.entry_str_split
def oH:=@PySem.wpAny_pyIter_list
def oI:=@PySem.wpAny_pyIter_enum
def oJ:=@Nat.le_succ_of_le
def oK:=@PySem.atKey_none_of_get
def oM:=@Function.comp_def
def oN:=@List.getElem?_set_self
def oP:=@PySem.wpAny_pyNext_list_item
def oQ:=@PyProof.Rows.subscriptTail_builtinR
def oR:=@PySem.wpAny_Call_method_late
def oS:=@List.sum_cons
def oV:=@Nat.lt_succ_self
def oW:=@Array.all_eq_true_iff_forall_mem
def oX:=@List.cons_append
def oY:=@and_assoc
def oZ:=@PySem.wpAny_pyNext_list_end
def p7:=@if_true
def p8:=@List.length_singleton
def p9:=@PySem.wpAny_notOrdered_dict
def pe:=@PyProof.Rows.slot_tuple_getitem
def pf:=@List.eraseIdxIfInBounds_toArray
def ph:=@Nat.le_of_lt
def pi:=@List.getElem?_set_ne
def pj:=@Nat.ne_of_gt
def pp:=@Array.mem_toList_iff
def pq:=@PySem.wpAny_loadPart'
def pw:=@PySem.Calls.evalArgs_plain
def py:=@PySem.F.slot_int_rmul
def pz:=@List.map_nil
def pG:=@List.mem_iff_getElem
def pH:=@PySem.post_val_or_str
def pI:=@PySem.W.plainGet_of
def pJ:=@PySem.W.callWith_K0
def pK:=@PySem.Obj.isFreed_of_dict
def pL:=@Int.toNat_of_nonneg
def pM:=@List.mem_range
def pN:=@PySem.Heap.size_push
def pO:=@if_false
def pP:=@List.nodup_nil
def pQ:=@PyProof.Rows.join_cons_cons
def pR:=@Int.le_refl
def pS:=@PySem.Calls.Constant_str
def pT:=@PySem.Calls.spliced_cons
def pU:=@PySem.W.callWith_K
def pV:=@Nat.lt_of_le_of_lt
def pW:=@PySem.tupleKind_room_in1
def pX:=@Bool.false_eq_true
def pY:=@PySem.StrLaws.split_free
def pZ:=@PySem.StrLaws.join_split
def qa:=@PySem.wpAny_standAt
def qb:=@PySem.typeIs_int
def qh:=@PySem.wpAny_rule
def qE:=@PySem.codeAny_mono
def qG:=@PySem.Txt.slice_le
section
local macro_rules | `(tactic| walk_at $s:str) => do
 unless s.getString.startsWith "!" do Lean.Macro.throwUnsupported
 let a <- ((((s.getString.drop 1).toString++" oY yM T.st.cl T.st.n_picture T.st.n_wide T.st.n_high T.st.n_row T.st.n_column T.st.n_late T.st.n_ink T.st.n_wrap T.st.n_putting T.st.n_home T.st.n_top T.st.n_bottom T.st.n_left T.st.n_right T.st.n_stops T.st.n_kept T.st.n_last ya xc xf xz yn yX xB yY yb yZ xC yo y0 yC yr y6 xD xi yd yI xj yJ zY yK xm ye yL yt y7").splitOn " ").filter (·!="")).toArray.mapM fun n=>`(Lean.Parser.Tactic.simpLemma|$(Lean.mkIdent n.toName):ident)
 `(tactic|simp[$a,*])
namespace L2
universe u0 u1 u2 u3 u4 u5 u6 u7 u8 u9 u10 u11
inductive Ex1 {a:Sort u0}(p:a->Prop):Prop
 |mk (b:a) (h:p b)
inductive Ex2 {a:Sort u0}{b:Sort u1}(p:a->b->Prop):Prop
 |mk (c:a) (d:b) (h:p c d)
inductive Ex3 {a:Sort u0}{b:Sort u1}{c:Sort u2}(p:a->b->c->Prop):Prop
 |mk (d:a) (e:b) (f:c) (h:p d e f)
inductive Ex4 {a:Sort u0}{b:Sort u1}{c:Sort u2}{d:Sort u3}(p:a->b->c->d->Prop):Prop
 |mk (e:a) (f:b) (g:c) (i:d) (h:p e f g i)
inductive Ex5 {a:Sort u0}{b:Sort u1}{c:Sort u2}{d:Sort u3}{e:Sort u4}(p:a->b->c->d->e->Prop):Prop
 |mk (f:a) (g:b) (i:c) (j:d) (k:e) (h:p f g i j k)
inductive Ex6 {a:Sort u0}{b:Sort u1}{c:Sort u2}{d:Sort u3}{e:Sort u4}{f:Sort u5}(p:a->b->c->d->e->f->Prop):Prop
 |mk (g:a) (i:b) (j:c) (k:d) (l:e) (m:f) (h:p g i j k l m)
inductive Ex8 {a:Sort u0}{b:Sort u1}{c:Sort u2}{d:Sort u3}{e:Sort u4}{f:Sort u5}{g:Sort u6}{i:Sort u7}(p:a->b->c->d->e->f->g->i->Prop):Prop
 |mk (j:a) (k:b) (l:c) (m:d) (n:e) (o:f) (q:g) (r:i) (h:p j k l m n o q r)
inductive An2 (a b:Prop):Prop
 |mk (c:a) (d:b)
inductive An3 (a b c:Prop):Prop
 |mk (d:a) (e:b) (f:c)
inductive An4 (a b c d:Prop):Prop
 |mk (e:a) (f:b) (g:c) (h:d)
inductive An5 (a b c d e:Prop):Prop
 |mk (f:a) (g:b) (h:c) (i:d) (j:e)
inductive An6 (a b c d e f:Prop):Prop
 |mk (g:a) (h:b) (i:c) (j:d) (k:e) (l:f)
inductive An7 (a b c d e f g:Prop):Prop
 |mk (h:a) (i:b) (j:c) (k:d) (l:e) (m:f) (n:g)
inductive An8 (a b c d e f g h:Prop):Prop
 |mk (i:a) (j:b) (k:c) (l:d) (m:e) (n:f) (o:g) (p:h)
end L2
variable {K:PySem.W.Frag}{mg:PySem.Str->Option PySem.Value}{E Q:PySem.Value->PySem.Shared->Prop}{π:List (PySem.Addr×PySem.Obj)}{w:PySem.World}{a C f p b dx bw:PySem.Addr}{P prog:PySem.Program}{s:PySem.Shared}{fd:PySem.FuncData}{ds:List PySem.PyData}{A:PySem.Around}{us:List PySem.Value}{n i:Nat}{x z:PySem.Str}{pos:PySem.Pos}{es:List PySem.Expr}{N:List PySem.Str}{e tg:PySem.Expr}{u:PySem.Value}{st:PySem.Stmt}{h:PySem.Heap}
namespace L2
open PySem PySem.Spec PyProof.Rows
/---/abbrev Key:=Sum Int Str
abbrev jR:Key->Value->Bool
 |.inl k,v=>Value.isInt k v
 |.inr x,v=>Value.isStrOf x v
abbrev zpl(w:World):Key->Int
 |.inl k=>hashInt k
 |.inr x=>hashStr w x
def yh:∀{k:Key}{v:Value},jR k v=true->(∃i t,k=Sum.inl i/\v=Value.int i t)\/(∃x t,k=Sum.inr x/\v=Value.str x t)
 |.inl i,v,h=>by obtain⟨t,e⟩:=Value.isInt_shape (k:=i) (v:=v) h;exact .inl ⟨i,t,rfl,e⟩
 |.inr x,v,h=>by obtain⟨t,e⟩:=Value.isStrOf_shape (x:=x) (v:=v) h;exact .inr ⟨x,t,rfl,e⟩
def zfL(i:Int)(t:Tok):jR (.inl i) (.int i t)=true:=by simp[jR,Value.isInt]
def zfM(x:Str)(t:Tok):jR (.inr x) (.str x t)=true:=by simp[jR,Value.isStrOf]
def zlR(a b:Int):decide ((Sum.inl a:Key)=Sum.inl b)=(a==b):=by
 by_cases e:a=b
 .subst e;simp
 .have h:¬(Sum.inl a:Key)=Sum.inl b:=λq=>e (Sum.inl.inj q);rw[lR h];exact(mM.mpr e).symm
def zlS(a b:Str):decide ((Sum.inr a:Key)=Sum.inr b)=decide (a=b):=by
 by_cases e:a=b
 .subst e;simp
 .have h:¬(Sum.inr a:Key)=Sum.inr b:=λq=>e (Sum.inr.inj q);rw[lR h,lR e]
def zlT(a:Int)(b:Str):decide ((Sum.inl a:Key)=Sum.inr b)=false:=lR (λq=>nomatch q)
def zlU(a:Str)(b:Int):decide ((Sum.inr a:Key)=Sum.inl b)=false:=lR (λq=>nomatch q)
abbrev zK(prog:Program)(w:World):PySem.KeyKind prog w Key where
 is:=jR
 hash:=zpl w
 inj:=λv a b f d=>by
  rcases yh f with⟨i,t,rfl,rfl⟩|⟨x,t,rfl,rfl⟩
  .rcases yh d with⟨j,u,rfl,e⟩|⟨y,u,rfl,e⟩
   .injection e with e1 _;rw[e1]
   .exact nomatch e
  .rcases yh d with⟨j,u,rfl,e⟩|⟨y,u,rfl,e⟩
   .exact nomatch e
   .injection e with e1 _;rw[e1]
 byValue:=λk v h=>by
  rcases yh h with⟨i,t,rfl,rfl⟩|⟨x,t,rfl,rfl⟩<;>rfl
 pyHash:=λc h=>by
  rcases yh c with⟨i,t,rfl,rfl⟩|⟨x,t,rfl,rfl⟩
  .exact wpAny_pyHash_int h
  .exact wpAny_pyHash_str h
 eqBool:=λg c h=>by
  rcases yh g with⟨i,t,rfl,rfl⟩|⟨x,t,rfl,rfl⟩
  .rcases yh c with⟨j,u,rfl,rfl⟩|⟨y,u,rfl,rfl⟩
   .rw[zlR]at h;exact wpAny_eqBool_int h
   .rw[zlT]at h;exact SeqAt.EqAt.int_str i t y u _ _ _ _ h
  .rcases yh c with⟨j,u,rfl,rfl⟩|⟨y,u,rfl,rfl⟩
   .rw[zlU]at h;exact SeqAt.EqAt.str_int x t j u _ _ _ _ h
   .rw[zlS]at h;exact wpAny_eqBool_str h
 «strs»:=λk x t v h=>by
  rcases yh h with⟨i,u,rfl,e⟩|⟨y,u,rfl,e⟩
  .exact nomatch e
  .injection e with e1 _
   subst e1
   cases v<;>rfl
def zcr(prog:Program)(w:World)(i:Int)(t:Tok):(zK prog w).is (.inl i) (.int i t)=true:=zfL i t
def zcs(prog:Program)(w:World)(x:Str)(t:Tok):(zK prog w).is (.inr x) (.str x t)=true:=zfM x t
inductive V where
 |non|bl (b:Bool)|int (i:Int)|str (x:Str)|byt (b:Array UInt8)|flt (b:UInt64)|ref (a:Addr)|ty (n:String)
 deriving DecidableEq
abbrev RelV:V->Value->Prop
 |.non,u=>u=Value.none
 |.bl b,u=>u=Value.bool b
 |.int i,u=>∃t,u=Value.int i t
 |.str x,u=>∃t,u=Value.str x t
 |.byt b,u=>∃t,u=Value.bytes b t
 |.flt b,u=>∃t,u=Value.float b t
 |.ref a,u=>u=Value.ref a
 |.ty n,u=>u=Value.type n
/---/abbrev Vals:List V->List Value->Prop:=Paired RelV
def Vals.length{a:List V}(r:Vals a us):a.length=us.length:=lJ r
def Vals.get:∀{a:List V}{us:List Value}{i:Nat}{x:V},Vals a us->a[i]? =some x->∃u,us[i]? =some u/\RelV x u
 |_,_,_,_,.nil,e=>by simp at e
 |_,_,0,_,.cons r _,e=>by simp at e;subst e;exact⟨_,rfl,r⟩
 |_,_,i+1,x,.cons _ t,e=>by obtain⟨u,b,c⟩:=Vals.get (i:=i) (x:=x) t (by simpa using e);exact⟨u,by simpa using b,c⟩
def Vals.set{x:V}(r:RelV x u):∀{a:List V}{us:List Value}(i:Nat),Vals a us->Vals (a.set i x) (us.set i u)
 |_,_,_,.nil=>.nil
 |_,_,0,.cons _ t=>.cons r t
 |_,_,i+1,.cons q t=>.cons q (Vals.set r i t)
def Vals.append:∀{a b:List V}{us ws:List Value},Vals a us->Vals b ws->Vals (a++b) (us++ws)
 |_,_,_,_,.nil,s=>s
 |_,_,_,_,.cons r t,s=>.cons r (Vals.append t s)
def Vals.take:∀{a:List V}{us:List Value}(n:Nat),Vals a us->Vals (a.take n) (us.take n)
 |_,_,0,_=>.nil
 |_,_,_+1,.nil=>.nil
 |_,_,n+1,.cons r t=>.cons r (Vals.take n t)
def Vals.drop:∀{a:List V}{us:List Value}(n:Nat),Vals a us->Vals (a.drop n) (us.drop n)
 |_,_,0,r=>r
 |_,_,_+1,.nil=>.nil
 |_,_,n+1,.cons _ t=>Vals.drop n t
abbrev vg:Option V->Option Value->Prop
 |some v,some u=>RelV v u
 |none,none=>True
 |_,_=>False
abbrev KV{κ:Type}:List (κ×V)->List (κ×Value)->Prop:=Paired λ(p:κ×V) (q:κ×Value)=>p.1=q.1/\RelV p.2 q.2
abbrev kV:Key->V
 |.inl i=>.int i
 |.inr x=>.str x
inductive HO where
 |lst (a:List V)
 |tup (a:List V)
 |dK (kvs:List (Key×V))|dT (kvs:List (List Key×V))
 |set (S:Int->Bool) (n:Nat)
 |ins (C dx:Addr) (fs:List (Str×V))
 |own (x:Addr)
 |xd (fs:List (Str×V))
 |met (f x:Addr)
 |rng (lo b:Int)
 |frz (o:Obj) (u:HO)
 |tbl (c:Array Value)
 |ext (φ:Heap->Prop)
/---/abbrev Hp:=Addr->Option HO
abbrev upd(H:Hp)(a:Addr)(o:HO):Hp:=λb=>if b=a then some o else H b
def zu{H:Hp}{o:HO}:upd H a o a=some o:=by unfold upd;rw[l9 rfl]
def zi{H:Hp}{o:HO}(h:b≠a):upd H a o b=H b:=by unfold upd;rw[l7 h]
def zki{H:Hp}{o u:HO}:upd (upd H a o) a u=upd H a u:=by
 funext b;unfold upd;split<;>rfl
def zju{H:Hp}{o u:HO}(h:H a=some o)(h':H b=some u)(d:o≠u):a≠b:=by
 intro e;subst e;rw[h]at h';exact d (lV h')
def zW{H:Hp}{o:HO}(h:H a=some o)(h':H b=none):a≠b:=by
 intro e;subst e;rw[h]at h';cases h'
section
variable (P:Program)(w:World)
abbrev zN(H:Hp)(h:Heap)(a:Addr):HO->Prop
 |.lst c=>c.length<=sizeLine/\∃(b:List Value) (n:Nat),Vals c b/\h.get? a=some { cls:=.type "list",data:=.seq b.toArray n }
 |.tup c=>c.length<=sizeLine/\∃b:List Value,Vals c b/\IsTup h a b.toArray
 |.dK kvs=>kvs.length<=sizeLine/\(a==sysModules)=false/\∃vs,KV kvs vs/\h.DictOf (zK P w) a vs
 |.dT kvs=>kvs.length<=sizeLine/\(a==sysModules)=false/\∃c:List (List Key×Addr×Value),
   Paired (λ(p:List Key×V) (q:List Key×Addr×Value)=>p.1=q.1/\H q.2.1=some (.tup (p.1.map kV))/\RelV p.2 q.2.2) kvs c/\
   ∃o es ep,h.get? a=some o/\o.ExactDict/\o.data=.dict es ep/\es.toList=c.map (entryOfKey (tupleKind (zK P w)))/\(c.map (·.1)).Nodup
 |.set S n=>h.SetOf (intKind P w) a S n
 |.ins C dx fs=>H dx=some (.own a)/\fs.length<=1000/\dx≠a/\h.get? a=some (PySem.W.instObj C dx)/\
   ∃d,h.Ns1 dx d/\(∀f,vg (fs.lookup f) (d f))/\PySem.Within d (fs.map (·.1))
 |.own _=>∃o,h.get? a=some o
 |.xd fs=>∃d,h.Ns1 a d/\∀f,vg (fs.lookup f) (d f)
 |.rng lo hi=>∃t u v,h.get? a=some { cls:=.type "range",data:=.fields #[.int lo t,.int hi u,.int 1 v] }
 |.frz o u=>h.get? a=some o/\zN H h a u
 |.tbl ps=>h.get? a=some { cls:=.none,data:=.fields ps }
 |.met f x=>h.get? a=some (PySem.W.methodObj (.ref f) (.ref x))
 |.ext φ=>φ h/\(∃o,h.get? a=some o)/\∀e g:Heap,φ e->(∀o,e.get? a=some o->g.get? a=some o)->φ g
abbrev HOk(H:Hp)(h:Heap):Prop:=∀a o,H a=some o->zN P w H h a o
end
section
variable {H H':Hp}{h':Heap}{o:HO}
def zN.lt(x:zN P w H h a o):a<h.objs.size:=by
 cases o with
 |lst xs=>obtain⟨_,_,_,_,e⟩:=x;exact lD e
 |tup xs=>obtain⟨_,_,_,p⟩:=x;exact p.lt
 |dK kvs=>obtain⟨_,_,_,_,o,_,_,e,_⟩:=x;exact lD e
 |dT kvs=>obtain⟨_,_,_,_,o,_,_,e,_⟩:=x;exact lD e
 |set S n=>obtain⟨o,_,_,_,e,_⟩:=x;exact lD e
 |ins C dx fs=>obtain⟨_,_,_,e,_⟩:=x;exact lD e
 |own y=>obtain⟨_,e⟩:=x;exact lD e
 |xd fs=>obtain⟨_,⟨_,_,_,e,_⟩,_⟩:=x;exact lD e
 |rng lo hi=>obtain⟨_,_,_,e⟩:=x;exact lD e
 |frz ob u=>obtain⟨e,_⟩:=x;exact lD e
 |tbl ps=>exact lD (show h.get? a=some _ from x)
 |met f y=>exact lD (show h.get? a=some _ from x)
 |ext φ=>obtain⟨_,⟨_,e⟩,_⟩:=x;exact lD e
def Paired.mapP{α β:Type}{F G:α->β->Prop}:∀{c:List α}{d:List β},Paired F c d->(∀a b,F a b->G a b)->Paired G c d
 |_,_,.nil,_=>.nil
 |_,_,.cons r t,f=>.cons (f _ _ r) (Paired.mapP t f)
def Paired.imp'{α β:Type}{F G:α->β->Prop}(f:∀a b,F a b->G a b){c:List α}{l₂:List β}(r:Paired F c l₂):Paired G c l₂:=Paired.mapP r f
def zN.stay(x:zN P w H h a o)(k:∀b u,(b=a\/H b=some (.own a))->h.get? b=some u->h'.get? b=some u)
  (A:∀b,H b=some (.own a)->H' b=some (.own a))(B:∀b j,H b=some (.tup j)->H' b=some (.tup j)):zN P w H' h' a o:=by
 induction o with
 |lst j=>obtain⟨z,i,n,r,e⟩:=x;exact⟨z,i,n,r,k _ _ (.inl rfl) e⟩
 |tup j=>obtain⟨z,i,r,g,e,c⟩:=x;exact⟨z,i,r,g,k _ _ (.inl rfl) e,c⟩
 |dK kvs=>obtain⟨z,y,vs,r,g,es,ep,e,c⟩:=x;exact⟨z,y,vs,r,g,es,ep,k _ _ (.inl rfl) e,c⟩
 |dT kvs=>obtain⟨z,y,j,r,g,es,ep,e,c⟩:=x;exact⟨z,y,j,Paired.mapP r λp q z=>⟨z.1,B _ _ z.2.1,z.2.2⟩,g,es,ep,k _ _ (.inl rfl) e,c⟩
 |set S n=>obtain⟨g,es,ep,t,e,c⟩:=x;exact⟨g,es,ep,t,k _ _ (.inl rfl) e,c⟩
 |ins C dx fs=>obtain⟨d,z,D,e,l,⟨m,es,ep,s,c⟩,r⟩:=x;exact⟨A _ d,z,D,k _ _ (.inl rfl) e,l,⟨m,es,ep,k _ _ (.inr d) s,c⟩,r⟩
 |own y=>obtain⟨g,e⟩:=x;exact⟨g,k _ _ (.inl rfl) e⟩
 |xd fs=>obtain⟨l,⟨m,es,ep,e,c⟩,r⟩:=x;exact⟨l,⟨m,es,ep,k _ _ (.inl rfl) e,c⟩,r⟩
 |rng lo hi=>obtain⟨t,u,v,e⟩:=x;exact⟨t,u,v,k _ _ (.inl rfl) e⟩
 |frz g u ih=>obtain⟨e,q⟩:=x;exact⟨k _ _ (.inl rfl) e,ih q⟩
 |tbl ps=>have e:h.get? a=some { cls:=.none,data:=.fields ps }:=x;show h'.get? a=some { cls:=.none,data:=.fields ps };exact k a _ (.inl rfl) e
 |met f y=>have e:h.get? a=some (PySem.W.methodObj (.ref f) (.ref y)):=x;show h'.get? a=some (PySem.W.methodObj (.ref f) (.ref y));exact k a _ (.inl rfl) e
 |ext φ=>obtain⟨p,⟨o,e⟩,st⟩:=x;exact⟨st _ _ p λo q=>k _ _ (.inl rfl) q,⟨o,k _ _ (.inl rfl) e⟩,st⟩
def HOk.lt(x:HOk P w H h)(e:H a=some o):a<h.objs.size:=(x a o e).lt
def HOk.fresh(x:HOk P w H h)(e:h.objs.size<=a):H a=none:=by
 cases q:H a with
 |none=>rfl
 |some u=>exact absurd (lP (x.lt q) e) (nI _)
def HOk.kept(x:HOk P w H h)(k:∀b u,h.get? b=some u->h'.get? b=some u):HOk P w H h':=λa o e=>
 (x a o e).stay (λb u _ q=>k b u q) (λ_ q=>q) λ_ _ q=>q
def HOk.laid(x:HOk P w H h)(k:∀b u,h.get? b=some u->h'.get? b=some u)(g:h.objs.size<=a)(d:zN P w (upd H a o) h' a o):HOk P w (upd H a o) h':=λb u e=>by
 have f:=x.fresh g;by_cases hb:b=a
 .subst hb;rw[zu]at e;cases e;exact d
 .rw[zi hb]at e;exact(x b u e).stay (λc v _ q=>k c v q) (λc q=>by rw[zi (zW q f)];exact q) λc i q=>by rw[zi (zW q f)];exact q
end
abbrev Rd(H:Hp)(a:Addr)(u:HO):Prop:=H a=some u\/∃o,H a=some (.frz o u)
def Rd.ok{H:Hp}{u:HO}(r:Rd H a u)(x:HOk P w H h):zN P w H h a u:=by
 rcases r with r|⟨o,r⟩
 .exact x a u r
 .obtain⟨_,q⟩:=x a _ r;exact q
abbrev Mut:Option HO->Prop
 |some (.lst _)=>True
 |some (.dK _)=>True
 |some (.dT _)=>True
 |some (.set _ _)=>True
 |some (.ins _ _ _)=>True
 |some (.ext _)=>True
 |_=>False
section
variable {H:Hp}{h':Heap}{x e:Addr}{o':HO}
def HOk.write(o:HOk P w H h)(f:Mut (H x))(l:e=x\/H e=some (.own x))(k:∀b u,b≠e->h.get? b=some u->h'.get? b=some u)(i:∃u,h'.get? e=some u)
  (j:zN P w (upd H x o') h' x o'):HOk P w (upd H x o') h':=λb u q=>by
 have a:∀c y,H c=some (.own y)->c≠x:=λc y r z=>by subst z;rw[r]at f;exact f
 have d:∀c g,H c=some (.tup g)->c≠x:=λc g r z=>by subst z;rw[r]at f;exact f
 by_cases hb:b=x
 .subst hb;rw[zu]at q;cases q;exact j
 .rw[zi hb]at q;by_cases hbe:b=e
  .have m:H b=some (.own x):=by
    rcases l with z|z
    .exact absurd (hbe.trans z) hb
    .rw[hbe];exact z
   rw[q]at m;cases m;obtain⟨v,n⟩:=i;exact⟨v,by rw[hbe];exact n⟩
  .refine(o b u q).stay (λc v hc r=>k c v ?_ r) (λc r=>by rw[zi (a c b r)];exact r) λc g r=>by rw[zi (d c g r)];exact r
   rcases hc with rfl|hc
   .exact hbe
   .rintro rfl;rcases l with z|z
    .exact a c b hc z
    .rw[hc]at z;cases z;exact hb rfl
end
structure Un (fs ex:List Addr) (H H':Hp) (h h':Heap):Prop where
 keep:∀b o,h.get? b=some o->H b=none->b∉fs->b∉ex->h'.get? b=some o
 slot:∀b o,h.get? b=some o->H b=none->b∈fs->b∉ex->∃sl,h'.get? b=some { o with slots:=sl }
 free:∀b o,h.get? b=some o->H b=none->b∉ex->H' b=none
 there:∀b o,h.get? b=some o->b∉ex->∃o',h'.get? b=some o'
 tups:∀b xs,H b=some (.tup xs)->H' b=some (.tup xs)
 frzs:∀b o u,H b=some (.frz o u)->H' b=some (.frz o u)
 tbls:∀b ps,H b=some (.tbl ps)->∃more,H' b=some (.tbl (ps++more))
section
variable {fs fs' ex ex':List Addr}{H H1 H2:Hp}{h1 h2 h':Heap}{x e:Addr}{o:HO}
def Un.any(u:Un fs ex H H1 h h1){a:Obj}(q:h.get? b=some a)(n:H b=none)(hx:b∉ex):∃c,h1.get? b=some { a with slots:=c }:=by
 by_cases hb:b∈fs
 .exact u.slot b a q n hb hx
 .exact⟨a.slots,u.keep b a q n hb hx⟩
def Un.kept(k:∀b u,h.get? b=some u->h'.get? b=some u):Un fs ex H H h h':=
 ⟨λb a q _ _ _=>k b a q,λb a q _ _ _=>⟨a.slots,k b a q⟩,λ_ _ _ n _=>n,λb a q _=>⟨a,k b a q⟩,λ_ _ q=>q,λ_ _ _ q=>q,λ_ c q=>⟨#[],by rw[q];simp⟩⟩
def Un.refl:Un fs ex H H h h:=Un.kept λ_ _ q=>q
def Un.laid(k:∀b u,h.get? b=some u->h'.get? b=some u)(d:h.objs.size<=a)(c:H a=none):Un fs ex H (upd H a o) h h' where
 keep:=λb u q _ _ _=>k b u q
 slot:=λb u q _ _ _=>⟨u.slots,k b u q⟩
 free:=λb u q n _=>by rw[zi (lK (lP (lD q) d))];exact n
 there:=λb u q _=>⟨u,k b u q⟩
 tups:=λb e q=>by rw[zi (zW q c)];exact q
 frzs:=λb u e q=>by rw[zi (zW q c)];exact q
 tbls:=λb f q=>⟨#[],by rw[zi (zW q c),q];simp⟩
def Un.write(a:Mut (H x))(g:e=x\/H e=some (.own x))(k:∀b u,b≠e->h.get? b=some u->h'.get? b=some u)(c:∃u,h'.get? e=some u):Un fs ex H (upd H x o) h h':=by
 have hx:∀b,H b=none->b≠x:=λb n z=>by subst z;rw[n]at a;exact a
 have f:∀b,H b=none->b≠e:=λb n z=>by
  subst z;rcases g with r|r
  .exact hx b n r
  .rw[n]at r;cases r
 have d:∀b u,H b=some u->¬Mut (some u)->b≠x:=λb u q i z=>by subst z;rw[q]at a;exact i a
 refine⟨fun b u q n _ _=>k b u (f b n) q,fun b u q n _ _=>⟨u.slots,k b u (f b n) q⟩,fun b u q n _=>by rw [zi (hx b n)];exact n,fun b u q _=>?_,
  λb j q=>by rw[zi (d b _ q λz=>z)];exact q,λb u j q=>by rw[zi (d b _ q λz=>z)];exact q,λb l q=>⟨#[],by rw[zi (d b _ q λz=>z),q];simp⟩⟩
 by_cases hbe:b=e
 .subst hbe;exact c
 .exact⟨u,k b u hbe q⟩
end
abbrev trk(h:Heap)(H:Hp):List Addr:=(List.range h.objs.size).filter λa=>(H a).isSome
abbrev Zn(h:Heap)(H:Hp):Heap:=PySem.W.hideAll h (trk h H)
def zfN(h:Heap)(H:Hp):(Zn h H).objs.size=h.objs.size:=PySem.W.hideAll_size _ _
def zhD{H:Hp}{o:Obj}(e:h.get? b=some o)(n:H b=none):(Zn h H).get? b=some o:=
 PySem.W.hideAll_get _ e λa=>by have q:(H b).isSome=true:=(ou.mp a).2;rw[n]at q;simp at q
def zkj{H:Hp}{o:Obj}(e:(Zn h H).get? b=some o):h.get? b=some o/\H b=none:=by
 have a:h.get? b=some o:=PySem.W.of_hideAll (trk h H) e;refine⟨a,?_⟩;cases q:H b with
 |none=>rfl
 |some x=>have c:b∈trk h H:=ou.mpr ⟨pM.mpr (lD a),by simp[q]⟩;have z:(Zn h H).get? b=none:=PySem.W.hideAll_none (trk h H) c;rw[z]at e;cases e
structure Mod (K:W.Frag) (mg:Str->Option Value) (base:Heap):Prop where
 kin:K.In base
 glob:base.Ns mainGlobals mg
 blt:∃mb,base.Ns builtinsNs mb/\∀x:Str,x≠"__name__"->mb x=bootBuiltins x
 nolimit:base.NoLimit
structure Cx where
 prog:Program
 w:World
 K:W.Frag
 mg:Str->Option Value
 base:Heap
 A:Around
 N:List Str
 s₀:Shared
 H₀:Hp
 env:Env
 outer:List Env
 stack:List Env
 ex:List Addr
 fn:Str->Bool
 calm:Bool
 pn:List (Addr×Obj)
 xe:Value->Shared->Prop
abbrev frs(l:List Env):List Addr:=l.filterMap (·.frame)
/---/abbrev Cx.fs(X:Cx):List Addr:=frs X.outer
abbrev Vis(a:Scope)(x:Str):Prop:=a.names.lookup x=some .local\/a.names.lookup x=some .cell\/a.names.lookup x=some .free
abbrev Loc(a:Scope)(x:Str):Prop:=a.names.lookup x=some .local\/a.names.lookup x=some .cell
abbrev Look(a:Env)(h:Heap)(m:Str->Option Value)(x:Str)(u:Value):Prop:=
 (a.kindOf x=some .local/\m x=some u)\/((a.kindOf x=some .cell\/a.kindOf x=some .free)/\Ex1 λc=>An2 (a.cells.lookup x=some c) (h.IsCell c (some u)))
structure Cx.Ok (X:Cx):Prop where
 mod:Mod X.K X.mg X.base
 kind:X.env.scope.kind=.function
 glob:X.env.globals=mainGlobals
 blt:X.env.builtins=builtinsNs
 above:X.s₀.heap.objs.size<=X.env.locals
 inj:∀x y c,X.env.cells.lookup x=some c->X.env.cells.lookup y=some c->x=y
 has:∀x,(X.env.kindOf x=some .cell\/X.env.kindOf x=some .free)->∃c,X.env.cells.lookup x=some c
 cab:∀x c,X.fn x=true->X.env.cells.lookup x=some c->X.s₀.heap.objs.size<=c
 hd:X.calm=true->X.A.handled=none
 frames:X.A.frames=some X.stack
 stk:X.stack=X.outer\/(X.stack=X.env::X.outer/\X.env.frame=some X.env.locals)
 exf:∀b∈X.ex,b≠X.env.locals/\∀x c,X.env.cells.lookup x=some c->c≠b
 bs:∀b o,X.base.get? b=some o->X.s₀.heap.get? b=some o/\X.H₀ b=none
 bsz:X.base.objs.size<=X.s₀.heap.objs.size
 noex:∀b o,X.base.get? b=some o->b∉X.ex
 exfs:∀b∈X.ex,b∉X.fs
 funs:X.s₀.heap.FunFrames X.base X.outer
 frf:∀b∈X.fs,X.H₀ b=none
structure Inv (X:Cx) (π:List (Addr×Obj)) (σ:List (Option V)) (H:Hp) (s:Shared):Prop where
 ok:X.Ok
 os:s.os=X.s₀.os
 bare:AllBare s.gens
 base:Un X.fs X.ex X.H₀ H X.s₀.heap s.heap
 loc:∃m,s.heap.Ns X.env.locals m/\∀(i:Nat) (x:Str) (v:V),X.N[i]? =some x->σ[i]? =some (some v)->Vis X.env.scope x->∃u,RelV v u/\Look X.env s.heap m x u
 cell:∀x c,X.env.cells.lookup x=some c->∃v,s.heap.IsCell c v
 free:H X.env.locals=none
 freeC:∀x c,X.env.cells.lookup x=some c->H c=none
 pin:∀p∈X.pn++π,s.heap.get? p.1=some p.2/\H p.1=none/\p.1≠X.env.locals/\p.1∉X.fs/\∀v,p.2.data≠.cell v
 hok:HOk X.prog X.w H s.heap
 len:σ.length=X.N.length
section
variable {X:Cx}{σ:List (Option V)}{H H':Hp}{h':Heap}
def Cx.Ok.nofr(c:X.Ok){o:Obj}(e:X.base.get? b=some o):b∉X.fs:=λa=>by
 have:=(c.funs.mem a).1;rw[e]at this;cases this
def Inv.bs(I:Inv X π σ H s):∀b o,X.base.get? b=some o->s.heap.get? b=some o/\H b=none:=λb o e=>
 ⟨I.base.keep b o (I.ok.bs b o e).1 (I.ok.bs b o e).2 (I.ok.nofr e) (I.ok.noex b o e),I.base.free b o (I.ok.bs b o e).1 (I.ok.bs b o e).2 (I.ok.noex b o e)⟩
def Inv.bk(I:Inv X π σ H s):∀b o,X.base.get? b=some o->s.heap.get? b=some o:=λb o e=>(I.bs b o e).1
def Inv.mod(I:Inv X π σ H s):Mod X.K X.mg X.base:=I.ok.mod
def Inv.kIn(I:Inv X π σ H s):X.K.In s.heap:=I.ok.mod.kin.keeps I.bk
def Inv.lt(I:Inv X π σ H s):X.env.locals<s.heap.objs.size:=let⟨_,hn,_⟩:=I.loc;hn.lt
def Inv.sz(I:Inv X π σ H s):X.s₀.heap.objs.size<=s.heap.objs.size:=m7 I.ok.above (ph I.lt)
def Inv.nofs(I:Inv X π σ H s)(h:s.heap.objs.size<=a):a∉X.fs:=λb=>by
 obtain⟨_,o,c,_⟩:=I.ok.funs.mem b;exact absurd (lP (lD c) (m7 I.sz h)) (nI _)
def Inv.cne(I:Inv X π σ H s):∀x c,X.env.cells.lookup x=some c->c≠X.env.locals:=λx c e z=>by
 obtain⟨v,o,f,d⟩:=I.cell x c e;obtain⟨m,⟨g,es,ep,b,a,_⟩,_⟩:=I.loc;rw[z,b]at f;cases f;rw[a]at d;cases d
def Inv.funs(I:Inv X π σ H s):s.heap.FunFrames X.base X.outer:=by
 have all:∀(l:List Env),(∀b∈frs l,b∈X.fs)->X.s₀.heap.FunFrames X.base l->s.heap.FunFrames X.base l:=by
  intro l;induction l with
  |nil=>intro _ _;trivial
  |cons env r ih=>intro f i;obtain⟨h,⟨L,o,d,j,k,g⟩,m⟩:=i;have a:L∈X.fs:=f L (by unfold frs;rw[mB,d];exact lh);obtain⟨n,e⟩:=I.base.slot L o k (I.ok.frf L a) a λz=>I.ok.exfs L z a;exact⟨h,⟨L,_,d,j,e,g⟩,ih (λb c=>f b (by unfold frs;rw[mB,d];exact lg _ c)) m⟩
 exact all X.outer (λ_ c=>c) I.ok.funs
def Inv.stack(I:Inv X π σ H s):s.heap.FunFrames X.base X.stack:=by
 rcases I.ok.stk with e|⟨e,hf⟩
 .rw[e];exact I.funs
 .rw[e];obtain⟨m,a,_⟩:=I.loc;refine .cons (by rw[I.ok.kind];decide) hf a ?_ I.funs;exact Heap.get?_none_of_le (m7 I.ok.bsz I.ok.above)
def Inv.stkSub(I:Inv X π σ H s):∀b∈frs X.stack,b∈X.env.locals::X.fs:=λb a=>by
 rcases I.ok.stk with e|⟨e,hf⟩
 .rw[e]at a;exact lg _ a
 .rw[e]at a;unfold frs at a;rw[mB,hf]at a;exact a
def Inv.stkFree(I:Inv X π σ H s):∀b∈frs X.stack,H b=none:=λb hb=>by
 rcases lu.mp (I.stkSub b hb)with e|hb
 .rw[e];exact I.free
 .obtain⟨_,o,a,_⟩:=I.ok.funs.mem hb;exact I.base.free b o a (I.ok.frf b hb) λz=>I.ok.exfs b z hb
def Inv.step{g':Array GenState}{t':Nat}{d':Drawn}{ch:List Addr}(I:Inv X π σ H s)
  (f:∀b∈ch,(b∈X.ex\/X.s₀.heap.objs.size<=b)/\b≠X.env.locals/\(∀x c,X.env.cells.lookup x=some c->c≠b)/\∀p∈X.pn++π,p.1≠b)
  (g:∀b o,b≠X.env.locals->b∉X.fs->b∉ch->s.heap.get? b=some o->H b=none->h'.get? b=some o)
  (slot:∀b o,b≠X.env.locals->b∈X.fs->b∉ch->s.heap.get? b=some o->H b=none->∃O,h'.get? b=some { o with slots:=O })(a:∀b o,b∉ch->s.heap.get? b=some o->H b=none->H' b=none)
  (B:∀b o,b∉ch->s.heap.get? b=some o->∃G,h'.get? b=some G)
  (K:∀b y,H b=some (.tup y)->H' b=some (.tup y))(E:∀b o u,H b=some (.frz o u)->H' b=some (.frz o u))(J:∀b L,H b=some (.tbl L)->∃more,H' b=some (.tbl (L++more)))
  (ns:∀m,s.heap.Ns X.env.locals m->h'.Ns X.env.locals m)(N:HOk X.prog X.w H' h')(U:AllBare g') :
  Inv X π σ H' { s with heap:=h',gens:=g',drawn:=d',toks:=t' }:=by
 have F:∀b o,X.s₀.heap.get? b=some o->b≠X.env.locals:=λb o e=>lK (lP (lD e) I.ok.above);have t:∀b o,X.s₀.heap.get? b=some o->b∉X.ex->b∉ch:=λb o e hx A=>by
  rcases(f b A).1 with z|z
  .exact hx z
  .exact absurd (lP (lD e) z) (nI _)
 have cellK:∀x c,X.env.cells.lookup x=some c->∀v,s.heap.IsCell c v->h'.IsCell c v:=λx c e v ⟨o,C,M⟩=>by
  have h:c∉ch:=λz=>(f c z).2.2.1 x c e rfl;by_cases hc:c∈X.fs
  .obtain⟨O,q⟩:=slot c o (I.cne x c e) hc h C (I.freeC x c e);exact⟨_,q,M⟩
  .exact⟨o,g c o (I.cne x c e) hc h C (I.freeC x c e),M⟩
 refine⟨I.ok,I.os,U,⟨λb o e n A hx=>?_,λb o e n A hx=>?_,λb o e n hx=>?_,λb o e hx=>?_,λb y e=>K b y (I.base.tups b y e),λb o y e=>E b o y (I.base.frzs b o y e),λb L e=>?_⟩,?_,λx c e=>?_,?_,λx c e=>?_,λp Q=>?_,N,I.len⟩
 .exact g b o (F b o e) A (t b o e hx) (I.base.keep b o e n A hx) (I.base.free b o e n hx)
 .obtain⟨O,j⟩:=I.base.slot b o e n A hx;obtain⟨P,D⟩:=slot b _ (F b o e) A (t b o e hx) j (I.base.free b o e n hx);exact⟨P,D⟩
 .obtain⟨G,j⟩:=I.base.there b o e hx;exact a b G (t b o e hx) j (I.base.free b o e n hx)
 .obtain⟨G,j⟩:=I.base.there b o e hx;exact B b G (t b o e hx) j
 .obtain⟨Y,j⟩:=I.base.tbls b L e;obtain⟨Z,D⟩:=J b _ j;exact⟨Y++Z,by rw[D,Array.append_assoc]⟩
 .obtain⟨m,W,V⟩:=I.loc;refine⟨m,ns m W,λi x v j D T=>?_⟩;obtain⟨u,r,l⟩:=V i x v j D T;refine⟨u,r,?_⟩;rcases l with l|⟨k,c,e,z⟩
  .exact .inl l
  .exact .inr ⟨k,c,e,cellK x c e _ z⟩
 .obtain⟨v,z⟩:=I.cell x c e;exact⟨v,cellK x c e v z⟩
 .obtain⟨m,⟨o,_,_,C,_⟩,_⟩:=I.loc;exact a _ o (λz=>(f _ z).2.1 rfl) C I.free
 .obtain⟨v,o,C,M⟩:=I.cell x c e;exact a c o (λz=>(f c z).2.2.1 x c e rfl) C (I.freeC x c e)
 .obtain⟨e,n,R,S,d⟩:=I.pin p Q;have h:p.1∉ch:=λz=>(f p.1 z).2.2.2 p Q rfl;exact⟨g p.1 p.2 R S h e n,a p.1 p.2 h e n,R,S,d⟩
def Inv.un{t':Nat}(I:Inv X π σ H s)(u:Un X.fs [] H H' s.heap h')(g:HOk X.prog X.w H' h'):Inv X π σ H' { s with heap:=h',toks:=t' }:=by
  obtain⟨m,⟨o,es,ep,h,r⟩,_⟩:=id I.loc;obtain⟨q,i⟩:=u.any h I.free m!"";exact I.step (g':=s.gens) (d':=s.drawn) (ch:=[]) (fun _ z=>nomatch z) (fun b o _ f _ e n=>u.keep b o e n f m!"") (fun b o _ f _ e n=>u.slot b o e n f m!"") (fun b o _ e n=>u.free b o e n m!"") (fun b o _ e=>u.there b o e m!"") u.tups u.frzs u.tbls (fun l j=>by
    obtain⟨p,d,c,a,k⟩:=j;rw[h]at a;cases a;exact⟨_,d,c,i,k⟩) g I.bare
def Inv.call{g':Array GenState}{t':Nat}{d':Drawn}{ch:List Addr}(I:Inv X π σ H s)(u:Un (frs X.stack) ch H H' s.heap h')(j:HOk X.prog X.w H' h')(q:AllBare g')
    (d:∀b∈ch,(b∈X.ex\/X.s₀.heap.objs.size<=b)/\b≠X.env.locals/\(∀x c,X.env.cells.lookup x=some c->c≠b)/\∀p∈X.pn++π,p.1≠b) :
    Inv X π σ H' { s with heap:=h',gens:=g',drawn:=d',toks:=t' }:=by
  obtain⟨m,⟨o,es,ep,k,r⟩,_⟩:=id I.loc;obtain⟨B,i⟩:=u.any k I.free λz=>(d _ z).2.1 rfl;exact I.step (ch:=ch) d (fun b o i l a e n=>u.keep b o e n (fun z=>(lu.mp (I.stkSub b z)).elim i l) a) (fun b o _ _ a e n=>u.any e n a) (fun b o a e n=>u.free b o e n a) (fun b o a e=>u.there b o e a) u.tups u.frzs u.tbls (fun y t=>by
    obtain⟨A,h,g,f,v⟩:=t;rw[k]at f;cases f;exact⟨_,h,g,i,v⟩) j q
def Inv.turned{t':Nat}{it:Addr}(I:Inv X π σ H s)(k:∀b o,b≠it->s.heap.get? b=some o->h'.get? b=some o)(t:H it=none)(f:it≠X.env.locals)
  (g:it∈X.ex\/X.s₀.heap.objs.size<=it)(h:∀x c,X.env.cells.lookup x=some c->c≠it)(i:∀p∈X.pn++π,p.1≠it):Inv X π σ H { s with heap:=h',toks:=t' }:=by
 have d:∀b u,H b=some u->b≠it:=λb u e z=>by rw[z,t]at e;cases e
 refine I.step (g':=s.gens) (d':=s.drawn) (ch:=[it]) (λb j=>?_) (λb o _ _ a e _=>k b o (λz=>a (by simp[z])) e) (λb o _ _ a e _=>⟨o.slots,k b o (λz=>a (by simp[z])) e⟩) (λ_ _ _ _ n=>n)
  (λb o a e=>⟨o,k b o (λz=>a (by simp[z])) e⟩) (λ_ _ e=>e) (λ_ _ _ e=>e) (λb y e=>⟨#[],by rw[e];simp⟩) (λm l=>?_) (λb u e=>?_) I.bare
 .have e:b=it:=by simpa using j
  subst e;exact⟨g,f,h,i⟩
 .obtain⟨o,es,ep,w,r⟩:=l;exact⟨o,es,ep,k _ o (Ne.symm f) w,r⟩
 .refine(I.hok b u e).stay (λc v a q=>k c v ?_ q) (λ_ q=>q) λ_ _ q=>q;rcases a with z|z
  .rw[z];exact d b u e
  .exact d c _ z
def Inv.tok(I:Inv X π σ H s)(t:Nat):Inv X π σ H { s with toks:=t }:=I.un (h':=s.heap) (t':=t) Un.refl I.hok
def Inv.kept{t':Nat}(I:Inv X π σ H s)(k:∀b u,s.heap.get? b=some u->h'.get? b=some u):Inv X π σ H { s with heap:=h',toks:=t' }:=I.un (Un.kept k) (I.hok.kept k)
def Inv.laid{o:HO}{t':Nat}(I:Inv X π σ H s)(k:∀b u,s.heap.get? b=some u->h'.get? b=some u)(c:s.heap.objs.size<=a)(d:zN X.prog X.w (upd H a o) h' a o) :
  Inv X π σ (upd H a o) { s with heap:=h',toks:=t' }:=I.un (Un.laid k c (I.hok.fresh c)) (I.hok.laid k c d)
def Inv.write{x e:Addr}{o:HO}{t':Nat}(I:Inv X π σ H s)(f:Mut (H x))(d:e=x\/H e=some (.own x))(k:∀b u,b≠e->s.heap.get? b=some u->h'.get? b=some u)(a:∃u,h'.get? e=some u)
  (c:zN X.prog X.w (upd H x o) h' x o):Inv X π σ (upd H x o) { s with heap:=h',toks:=t' }:=I.un (Un.write f d k a) (I.hok.write f d k a c)
def Inv.pins_of{a:List (Addr×Obj)}(I:Inv X π σ H s)(h:∀p∈a,s.heap.get? p.1=some p.2/\H p.1=none/\p.1≠X.env.locals/\p.1∉X.fs/\∀v,p.2.data≠.cell v):Inv X a σ H s:=
 ⟨I.ok,I.os,I.bare,I.base,I.loc,I.cell,I.free,I.freeC,λp b=>(ls.mp b).elim (λz=>I.pin p (n9 _ z)) (h p),I.hok,I.len⟩
def K1(e:N.Nodup){j:Nat}(a:N[i]? =some x)(b:N[j]? =some x):i=j:=by
 obtain⟨f,c⟩:=lv.mp a;obtain⟨g,d⟩:=lv.mp b;exact(List.getElem_inj e).mp (c.trans d.symm)
def Js{M:Model}{v:V}{Q:Unit->Shared->Prop}(I:Inv X π σ H s)(hN:X.N.Nodup)(L:X.N[i]? =some x)(hx:Loc X.env.scope x)(r:RelV v u)
  (h:∀s',Inv X π (σ.set i (some v)) H s'->(∃a,Heap.SameBut a s.heap s'.heap/\(a=X.env.locals\/X.env.cells.lookup x=some a))->Q () s')(hf:X.fn x=true\/X.env.scope.names.lookup x=some .local:=by first|exact .inl rfl|exact .inr rfl|assumption):wpAny M A (storeName X.env x u) Q E s:=by
 obtain⟨m,W,hl⟩:=id I.loc;have K:(X.env.scope.kind == .class||(X.env.scope.kind == .module&&X.env.locals != X.env.globals))=false:=by rw[I.ok.kind];rfl
 have C:i<σ.length:=by rw[I.len];exact(lv.mp L).1
 have D:=I.cne;have l:∀{a:Addr}{h':Heap},(∃o,s.heap.get? a=some o/\H a=none)->Heap.SameBut a s.heap h'->HOk X.prog X.w H h':=λ{a h'} ha f b ob e=>by
  obtain⟨_,_,t⟩:=ha;refine(I.hok b ob e).stay (λc T hc q=>(f.2 c ?_).trans q) (λ_ q=>q) λ_ _ q=>q;rintro rfl;rcases hc with rfl|hc
  .rw[t]at e;cases e
  .rw[t]at hc;cases hc
 rcases hx with hk|hk
 .refine wpAny_storeName_local hk W (λh' Y f=>?_) K;obtain⟨oL,_,_,Z,_⟩:=id W;refine h _ ⟨I.ok,I.os,I.bare,⟨λb o e n F hx=>?_,λb o e n F hx=>?_,I.base.free,λb o e hx=>?_,I.base.tups,I.base.frzs,I.base.tbls⟩,⟨_,Y,λj y v' g B U=>?_⟩,λy c e=>?_,I.free,I.freeC,λp hp=>?_,l ⟨oL,Z,I.free⟩ f,by simpa using I.len⟩ ⟨_,f,.inl rfl⟩
  .exact(f.2 b (lK (lP (lD e) I.ok.above))).trans (I.base.keep b o e n F hx)
  .obtain⟨sl,g⟩:=I.base.slot b o e n F hx;exact⟨sl,(f.2 b (lK (lP (lD e) I.ok.above))).trans g⟩
  .obtain⟨o',g⟩:=I.base.there b o e hx;exact⟨o',(f.2 b (lK (lP (lD e) I.ok.above))).trans g⟩
  .by_cases hj:j=i
   .subst hj;rw[L]at g;cases g;rw[oN C]at B;cases B;exact⟨u,r,.inl ⟨hk,m!""⟩⟩
   .rw[pi (Ne.symm hj)]at B;obtain⟨u',r',q⟩:=hl j y v' g B U;refine⟨u',r',?_⟩;rcases q with⟨k,e⟩|⟨k,c,e,z⟩
    .refine .inl ⟨k,?_⟩;have:y≠x:=λe=>hj (K1 hN g (e▸L));simp[this,e]
    .exact .inr ⟨k,c,e,z.sameBut f (D y c e)⟩
  .obtain⟨T,z⟩:=I.cell y c e;exact⟨T,z.sameBut f (D y c e)⟩
  .obtain⟨e,n,S,nf,d⟩:=I.pin p hp;exact⟨(f.2 p.1 S).trans e,n,S,nf,d⟩
 .have G:X.fn x=true:=by
   rcases hf with z|z
   .exact z
   .rw[z]at hk;cases hk
  obtain⟨c,hc⟩:=I.ok.has x (.inl hk);obtain⟨T,z⟩:=I.cell x c hc;refine wpAny_storeName_cell I.ok.kind hk hc z (λh' J f=>?_);obtain⟨oc,O,P⟩:=id z;refine h { s with heap:=h' } ⟨I.ok,I.os,I.bare,⟨λb o e n F hx=>?_,λb o e n F hx=>?_,I.base.free,λb o e hx=>?_,I.base.tups,I.base.frzs,I.base.tbls⟩,⟨m,W.sameBut f (Ne.symm (D x c hc)),λj y v' g B U=>?_⟩,λy R e=>?_,I.free,I.freeC,λp hp=>?_,l ⟨oc,O,I.freeC x c hc⟩ f,by simpa using I.len⟩ ⟨c,f,.inr hc⟩
  .exact(f.2 b (lK (lP (lD e) (I.ok.cab x c G hc)))).trans (I.base.keep b o e n F hx)
  .obtain⟨sl,g⟩:=I.base.slot b o e n F hx;exact⟨sl,(f.2 b (lK (lP (lD e) (I.ok.cab x c G hc)))).trans g⟩
  .obtain⟨o',g⟩:=I.base.there b o e hx;exact⟨o',(f.2 b (lK (lP (lD e) (I.ok.cab x c G hc)))).trans g⟩
  .by_cases hj:j=i
   .subst hj;rw[L]at g;cases g;rw[oN C]at B;cases B;exact⟨u,r,.inr ⟨.inl hk,c,hc,J⟩⟩
   .rw[pi (Ne.symm hj)]at B;obtain⟨u',r',q⟩:=hl j y v' g B U;refine⟨u',r',?_⟩;rcases q with q|⟨k,R,e,z'⟩
    .exact .inl q
    .refine .inr ⟨k,R,e,z'.sameBut f ?_⟩;rintro rfl;exact hj (K1 hN g (I.ok.inj _ _ _ e hc▸L))
  .by_cases hcc:R=c
   .subst hcc;exact⟨_,J⟩
   .obtain⟨w2,z2⟩:=I.cell y R e;exact⟨w2,z2.sameBut f hcc⟩
  .obtain⟨e,n,S,nf,d⟩:=I.pin p hp;refine⟨(f.2 p.1 ?_).trans e,n,S,nf,d⟩;intro q;rw[q,O]at e;have q':oc=p.2:=lV e;exact d T (by rw[<-q'];exact P)
def K2{M:Model}{v:V}{Q:Unit->Shared->Prop}(I:Inv X π σ H s)(b:X.N.Nodup)(d:X.N[i]? =some x)(hx:Loc X.env.scope x)(r:RelV v u)
  (h:∀s',Inv X π (σ.set i (some v)) H s'->Q () s')(c:X.fn x=true\/X.env.scope.names.lookup x=some .local:=by first|exact .inl rfl|exact .inr rfl|assumption):wpAny M A (storeName X.env x u) Q E s:=
 Js I b d hx r (λs' a _=>h s' a) c
def Inv.call'{s':Shared}{ch:List Addr}(I:Inv X π σ H s)(g:s'.os=s.os)(u:Un (frs X.stack) ch H H' s.heap s'.heap)(d:HOk X.prog X.w H' s'.heap)(f:AllBare s'.gens)
  (a:∀b∈ch,(b∈X.ex\/X.s₀.heap.objs.size<=b)/\b≠X.env.locals/\(∀x c,X.env.cells.lookup x=some c->c≠b)/\∀p∈X.pn++π,p.1≠b):Inv X π σ H' s':=by
 obtain⟨h',g',d',t',h⟩:=s';have e:h=s.os:=g;subst e;exact I.call (g':=g') (t':=t') (d':=d') u d f a
end
/---/abbrev XK:=Value->Option Addr->Hp->Prop
/---/abbrev St:=List (Option V)
/---/abbrev VK:=V->Hp->Prop
/---/abbrev TE:=St->Hp->VK->Prop
/---/abbrev TT:=St->Hp->(Bool->Hp->Prop)->Prop
/---/abbrev TA:=St->Hp->(List V->Hp->Prop)->Prop
structure Ends where
 nx:St->Hp->Prop
 rt:VK
 bk:St->Hp->Prop:=λ_ _=>False
 ct:St->Hp->Prop:=λ_ _=>False
/---/abbrev TS:=Ends->St->Hp->Prop
inductive EP (X:Cx) (π:List (Addr×Obj)) (σ:St) (Q:VK) (u:Value) (s':Shared):Prop
 |mk v H':(Inv X π σ H' s')->(RelV v u)->(Q v H')->EP X π σ Q u s'
inductive TP (X:Cx) (π:List (Addr×Obj)) (σ:St) (Q:Bool->Hp->Prop) (b:Bool) (s':Shared):Prop
 |mk H':(Inv X π σ H' s')->(Q b H')->TP X π σ Q b s'
inductive AP (X:Cx) (π:List (Addr×Obj)) (σ:St) (Q:List V->Hp->Prop) (us:List Value) (s':Shared):Prop
 |mk vs H':(Inv X π σ H' s')->(Vals vs us)->(Q vs H')->AP X π σ Q us s'
abbrev SP(X:Cx)(π:List (Addr×Obj))(D:Ends)(f:Flow)(s':Shared):Prop:=
 match f with
 |.next=>Ex2 λa b=>An2 (Inv X π a b s') (D.nx a b)
 |.brk=>Ex2 λa b=>An2 (Inv X π a b s') (D.bk a b)
 |.cont=>Ex2 λa b=>An2 (Inv X π a b s') (D.ct a b)
 |.ret u=>Ex3 λv a b=>An3 (Inv X π a b s') (RelV v u) (D.rt v b)
abbrev PE(X:Cx)(e:Expr)(t:TE):Prop:=
 ∀(π:List (Addr×Obj)) (s:Shared) (σ:St) (H:Hp) (Q:VK),Inv X π σ H s->t σ H Q->wpAny (model X.prog X.w) X.A (eval e X.env) (EP X π σ Q) X.xe s
abbrev PT(X:Cx)(e:Expr)(t:TT):Prop:=
 ∀(π:List (Addr×Obj)) (s:Shared) (σ:St) (H:Hp) (Q:Bool->Hp->Prop),Inv X π σ H s->t σ H Q->wpAny (model X.prog X.w) X.A (isTrue e X.env (eval e X.env)) (TP X π σ Q) X.xe s
abbrev PW(X:Cx)(e:Expr)(t:TT):Prop:=
 ∀(whole:Sem Value) (π:List (Addr×Obj)) (s:Shared) (σ:St) (H:Hp) (Q:Bool->Hp->Prop),Inv X π σ H s->t σ H Q->wpAny (model X.prog X.w) X.A (isTrue e X.env whole) (TP X π σ Q) X.xe s
def PW.pt{X:Cx}{t:TT}(h:PW X e t):PT X e t:=h _
abbrev PA(X:Cx)(es:List Expr)(t:TA):Prop:=
 ∀(pos:Pos) (π:List (Addr×Obj)) (s:Shared) (σ:St) (H:Hp) (Q:List V->Hp->Prop),Inv X π σ H s->t σ H Q->wpAny (model X.prog X.w) X.A (spliced (backTo pos (starEach es X.env))) (AP X π σ Q) X.xe s
abbrev PS(X:Cx)(st:Stmt)(t:TS):Prop:=
 ∀(π:List (Addr×Obj)) (s:Shared) (σ:St) (H:Hp) (D:Ends),Inv X π σ H s->t D σ H->wpAny (model X.prog X.w) X.A (exec st X.env) (SP X π D) X.xe s
abbrev PSs(X:Cx)(st:List Stmt)(t:TS):Prop:=
 ∀(π:List (Addr×Obj)) (s:Shared) (σ:St) (H:Hp) (D:Ends),Inv X π σ H s->t D σ H->wpAny (model X.prog X.w) X.A (execs st X.env) (SP X π D) X.xe s
def thn{α:Type}{t:Sem α}{Q b:α->Shared->Prop}{M:Model}(h:wpAny M A t Q E s)(c:∀a s,Q a s->b a s):wpAny M A t b E s:=nc h c λ_ _ x=>x
section
variable {X:Cx}
abbrev zhE(i:Nat):TE:=λσ H Q=>Ex1 λv=>An2 (σ[i]? =some (some v)) (Q v H)
abbrev tC(v:V):TE:=λ_ H Q=>Q v H
def zlV(f:X.N[i]? =some x)(k:Vis X.env.scope x)(d:(x==("__debug__":Str))=false:=by decide)(b:(x==("__classdict__":Str))=false:=by decide):PE X (.Name x pos) (zhE i):=by
 intro π s σ H Q I h;obtain⟨v,e,h⟩:=h;obtain⟨m,j,g⟩:=I.loc;obtain⟨u,r,l⟩:=g i x v f e k;have a:EP X π σ Q u s:=⟨v,H,I,r,h⟩;rcases l with⟨hk,hm⟩|⟨hk,c,hc,hcell⟩
 .exact wpAny_Name (wpAny_loadName_local I.ok.kind hk j hm a) d
 .rcases hk with hk|hk
  .exact wpAny_Name (wpAny_loadName_cell I.ok.kind hk hc hcell a) d
  .exact wpAny_Name (wpAny_loadName_free I.ok.kind hk hc hcell a b) d
def zb{i j pos}:PE X (.Constant (.int i) j pos) (tC (.int i)):=λ_ _ _ H _ I h=>wpAny_Constant_int ⟨.int i,H,I.tok _,⟨_,rfl⟩,h⟩
def zT{b j pos}:PE X (.Constant (.bool b) j pos) (tC (.bl b)):=λ_ _ _ H _ I h=>Constant_bool ⟨.bl b,H,I,rfl,h⟩
def xh{j pos}:PE X (.Constant .none j pos) (tC .non):=λ_ _ _ H _ I h=>Constant_none ⟨.non,H,I,rfl,h⟩
def zh{x j pos}:PE X (.Constant (.str x) j pos) (tC (.str x)):=λ_ _ _ H _ I h=>pS ⟨.str x,H,I.tok _,⟨_,rfl⟩,h⟩
abbrev Gl(X:Cx)(x:Str):Prop:=X.env.kindOf x=some .globalImplicit
def kW{σ:St}{H:Hp}(I:Inv X π σ H s)(b:Gl X x)(c:X.mg x=some u)(h:Q u s)
  (a:(x==("__debug__":Str))=false:=by decide):wpAny (model X.prog X.w) X.A (eval (.Name x pos) X.env) Q E s:=
 Calls.Name_function_global I.ok.kind b (Calls.loadGlobal_global (by rw[I.ok.glob];exact I.mod.glob.keeps I.bk) c h) a
def vY{σ:St}{H:Hp}(I:Inv X π σ H s)(d:Gl X x)(e:X.mg x=none)(g:bootBuiltins x=some u)(h:Q u s)
  (f:x≠"__name__":=by decide)(c:(x==("__debug__":Str))=false:=by decide):wpAny (model X.prog X.w) X.A (eval (.Name x pos) X.env) Q E s:=by
 obtain⟨i,a,b⟩:=I.mod.blt;exact Calls.Name_function_global I.ok.kind d (Calls.loadGlobal_builtin (by rw[I.ok.glob];exact I.mod.glob.keeps I.bk) e (by rw[I.ok.blt];exact a.keeps I.bk) ((b x f).trans g) h) c
def Y5{v:V}(b:Gl X x)(c:X.mg x=some u)(r:RelV v u)(a:(x==("__debug__":Str))=false:=by decide):PE X (.Name x pos) (tC v):=
 λ_ _ _ H _ I h=>kW I b c ⟨v,H,I,r,h⟩ a
def Qe{v:V}(b:Gl X x)(c:X.mg x=none)(e:bootBuiltins x=some u)(r:RelV v u)(d:x≠"__name__":=by decide)(a:(x==("__debug__":Str))=false:=by decide):PE X (.Name x pos) (tC v):=
 λ_ _ _ H _ I h=>vY I b c e ⟨v,H,I,r,h⟩ d a
variable {a b:Expr}{ta tb:TE}
abbrev PC(X:Cx)(e:CmpOp)(a b:Expr)(t:TE):Prop:=
 ∀(π:List (Addr×Obj)) (s:Shared) (σ:St) (H:Hp) (Q:VK),Inv X π σ H s->t σ H Q->
  wpAny (model X.prog X.w) X.A (eval a X.env) (λv c=>wpAny (model X.prog X.w) X.A (eval b X.env) (λu d=>wpAny (model X.prog X.w) X.A (compareOp e v u) (EP X π σ Q) X.xe d) X.xe c) X.xe s
abbrev tB(t:TE):TT:=λσ H Q=>t σ H λx a=>Ex1 λc=>An2 (x=.bl c) (Q c a)
def zlW{f:CmpOp}{t:TE}(h:PC X f a b t)(e:behindInMarks f b=false:=by first|exact nobehind _ (by decide) (by decide)|rfl):PT X (.Compare a [f] [b] pos) (tB t):=by
 intro π s σ H Q I k;refine wpAny_isTrue_Compare1 (thn (h π s σ H _ I k) λv n e=>thn e λu o j=>thn j λc p ⟨x,g,i,m,l⟩=>?_) e;obtain⟨d,rfl,q⟩:=l;cases m;exact mj ⟨g,i,q⟩
def xy{t:TE}(h:PE X e t)(c:∀whole,isTrue e X.env whole=(do let v<-whole;standAt e.pos;holding [v] (truthy v)):=by intro _;rfl):PT X e (tB t):=by
 intro π s σ H Q I f;refine isTrue_plain (thn (h π s σ H _ I f) λv j ⟨x,a,b,i,g⟩=>?_) (c _);obtain⟨d,rfl,q⟩:=g;cases i;exact mj ⟨a,b,q⟩
variable {tA tB':TT}{rest:List Expr}
abbrev zlX(t u:TT):TT:=λσ H Q=>t σ H λc a=>if c=true then u σ a Q else Q false a
abbrev tOr(t u:TT):TT:=λσ H Q=>t σ H λc a=>if c=true then Q true a else u σ a Q
abbrev zlY(t:TT):TT:=λσ H Q=>t σ H λc a=>Q (!c) a
def Y6(b:PT X a tA):PW X (.BoolOp .And [a] pos) tA:=by
 intro f π s σ H Q I h;refine isTrue_and (thn (b π s σ H Q I h) λc d e=>?_);cases c with
 |true=>exact isTrue_and_nil e
 |false=>exact e
def vZ(b:PT X a tA):PW X (.BoolOp .Or [a] pos) tA:=by
 intro f π s σ H Q I h;refine isTrue_or (thn (b π s σ H Q I h) λc d e=>?_);cases c with
 |false=>exact isTrue_or_nil e
 |true=>exact e
def V0(g:PT X a tA)(i:PW X (.BoolOp .And (b::rest) pos) tB'):PW X (.BoolOp .And (a::b::rest) pos) (zlX tA tB'):=by
 intro k π s σ H Q I h;refine isTrue_and (thn (g π s σ H _ I h) λc j ⟨d,e,f⟩=>?_);cases c with
 |true=>exact i k π j σ d Q e f
 |false=>exact⟨d,e,f⟩
def v0(g:PT X a tA)(i:PW X (.BoolOp .Or (b::rest) pos) tB'):PW X (.BoolOp .Or (a::b::rest) pos) (tOr tA tB'):=by
 intro k π s σ H Q I h;refine isTrue_or (thn (g π s σ H _ I h) λc j ⟨d,e,f⟩=>?_);cases c with
 |true=>exact⟨d,e,f⟩
 |false=>exact i k π j σ d Q e f
def zfO(e:PT X a tA):PT X (.UnaryOp .Not a pos) (zlY tA):=by
 intro π s σ H Q I h;exact isTrue_not (thn (e π s σ H (λc d=>Q (!c) d) I h) λ_ _ ⟨a,b,c⟩=>⟨a,b,c⟩)
abbrev zjv(ta tb:TE):TE:=λσ H Q=>ta σ H λx a=>Ex1 λc=>An2 (x=.bl c) (if c=true then tb σ a Q else Q (.bl false) a)
abbrev zlZ(ta tb:TE):TE:=λσ H Q=>ta σ H λx a=>Ex1 λc=>An2 (x=.bl c) (if c=true then Q (.bl true) a else tb σ a Q)
abbrev zjw(ta:TE):TE:=λσ H Q=>ta σ H λx a=>Ex1 λc=>An2 (x=.bl c) (Q (.bl (!c)) a)
def V1{op}{t:TE}(h:PE X a t):PE X (.BoolOp op [a] pos) t:=λπ s σ H Q I b=>BoolOp_one (h π s σ H Q I b)
def V2(g:PE X a ta)(i:PE X (.BoolOp .And (b::rest) pos) tb):PE X (.BoolOp .And (a::b::rest) pos) (zjv ta tb):=by
 intro π s σ H Q I h;refine BoolOp_and (thn (g π s σ H _ I h) λv k ⟨x,e,f,j,d⟩=>?_);obtain⟨c,rfl,d⟩:=d;cases j;refine mj ?_;cases c with
 |true=>exact i π k σ e Q f d
 |false=>exact⟨.bl false,e,f,rfl,d⟩
def zob(g:PE X a ta)(i:PE X (.BoolOp .Or (b::rest) pos) tb):PE X (.BoolOp .Or (a::b::rest) pos) (zlZ ta tb):=by
 intro π s σ H Q I h;refine BoolOp_or (thn (g π s σ H _ I h) λv k ⟨x,e,f,j,d⟩=>?_);obtain⟨c,rfl,d⟩:=d;cases j;refine mj ?_;cases c with
 |false=>exact i π k σ e Q f d
 |true=>exact⟨.bl true,e,f,rfl,d⟩
def zl0(f:PE X a ta):PE X (.UnaryOp .Not a pos) (zjw ta):=by
 intro π s σ H Q I h;refine UnaryOp_ (thn (f π s σ H _ I h) λv i ⟨x,d,e,g,b⟩=>?_);obtain⟨c,rfl,b⟩:=b;cases g;exact not_of (mj ⟨.bl (!c),d,e,rfl,b⟩)
abbrev tIf(t:TT)(ta tb:TE):TE:=λσ H Q=>t σ H λc a=>if c=true then ta σ a Q else tb σ a Q
def yA{c:Expr}(l:PT X c tA)(j:PE X a ta)(k:PE X b tb):PE X (.IfExp c a b pos) (tIf tA ta tb):=by
 intro π s σ H Q I h;refine wpAny_IfExp (thn (l π s σ H _ I h) λd i ⟨e,f,g⟩=>?_);cases d with
 |true=>exact j π i σ e Q f g
 |false=>exact k π i σ e Q f g
end
abbrev SqL(K:W.Frag)(H:Hp)(a:Addr)(c:List V):Prop:=
 Rd H a (.lst c)\/
  Ex3 λ(o:Obj) (b:Array Value) (n:Nat)=>An6 (K.lookup a=some o) (o.cls=.type "list") (o.dict=none) (o.data=.seq b n) (b.size<=sizeLine) (Vals c b.toList)
abbrev SqT(K:W.Frag)(H:Hp)(a:Addr)(c:List V):Prop:=
 Rd H a (.tup c)\/
  Ex3 λ(o:Obj) (b:Array Value) (n:Nat)=>An5 (K.lookup a=some o) (o.cls=.type "tuple") (o.data=.seq b n) (b.size<=sizeLine) (Vals c b.toList)
abbrev zpm:Value->Option V
 |.none=>some .non
 |.bool b=>some (.bl b)
 |.int i _=>some (.int i)
 |.str x _=>some (.str x)
 |.bytes b _=>some (.byt b)
 |.float b _=>some (.flt b)
 |.ref a=>some (.ref a)
 |.type n=>some (.ty n)
 |_=>none
def RelV.abs{x:V}(r:RelV x u):zpm u=some x:=by
 cases x with
 |non=>cases r;rfl
 |bl _=>cases r;rfl
 |int _=>obtain⟨t,rfl⟩:=r;rfl
 |str _=>obtain⟨t,rfl⟩:=r;rfl
 |byt _=>obtain⟨t,rfl⟩:=r;rfl
 |flt _=>obtain⟨t,rfl⟩:=r;rfl
 |ref _=>cases r;rfl
 |ty _=>cases r;rfl
def RelV.inj{x y:V}(r:RelV x u)(q:RelV y u):x=y:=lV (r.abs.symm.trans q.abs)
def Vals.inj{a ys:List V}(h:Vals a us)(g:Vals ys us):a=ys:=by
 induction h generalizing ys with
 |nil=>cases g;rfl
 |cons r t ih=>cases g with
  |cons q u=>rw[r.inj q,ih u]
section
variable {X:Cx}{σ:St}{H:Hp}{xs ys:List V}
def SqL.of(h:H a=some (.lst xs)):SqL K H a xs:=.inl (.inl h)
def SqT.of(h:H a=some (.tup xs)):SqT K H a xs:=.inl (.inl h)
def Inv.list(I:Inv X π σ H s)(h:SqL X.K H a xs):∃b:List Value,Vals xs b/\PlainL s.heap a b.toArray/\xs.length<=sizeLine:=by
 rcases h with h|⟨o,b,n,hk,hc,hd,hs,hz,r⟩
 .obtain⟨z,b,n,r,e⟩:=h.ok I.hok;exact⟨b,r,⟨_,n,e,rfl,rfl,rfl⟩,z⟩
 .refine⟨b.toList,r,⟨o,n,I.kIn a o hk,hc,hd,by simpa using hs⟩,?_⟩;have e:=r.length;simp only[mN]at e
  lia
def Inv.tuple(I:Inv X π σ H s)(h:SqT X.K H a xs):∃b:List Value,Vals xs b/\IsTup s.heap a b.toArray/\xs.length<=sizeLine:=by
 rcases h with h|⟨o,b,n,hk,hc,hs,hz,r⟩
 .obtain⟨z,b,r,p⟩:=h.ok I.hok;exact⟨b,r,p,z⟩
 .refine⟨b.toList,r,⟨o,I.kIn a o hk,hc,n,by simpa using hs⟩,?_⟩;have e:=r.length;simp only[mN]at e
  lia
def Inv.list_inj(I:Inv X π σ H s)(h:SqL X.K H a xs)(h':SqL X.K H a ys):xs=ys:=by
 obtain⟨b,r,⟨o,n,e,_,_,d⟩,_⟩:=I.list h;obtain⟨its',f,⟨i,g,c,_,_,d'⟩,_⟩:=I.list h';rw[e]at c;cases c;rw[d]at d';injection d' with d1 _;have:b=its':=by simpa using mH Array.toList d1
 subst this;exact r.inj f
def Inv.tuple_inj(I:Inv X π σ H s)(h:SqT X.K H a xs)(h':SqT X.K H a ys):xs=ys:=by
 obtain⟨b,r,⟨o,e,_,n,d⟩,_⟩:=I.tuple h;obtain⟨its',f,⟨i,c,_,g,d'⟩,_⟩:=I.tuple h';rw[e]at c;cases c;rw[d]at d';injection d' with d1 _;have:b=its':=by simpa using mH Array.toList d1
 subst this;exact r.inj f
end
/---/abbrev Cx.wish(X:Cx)(E:Value->Shared->Prop):Cx:={ X with xe:=E }
/---/abbrev Cx.nox(X:Cx):Cx:=X.wish λ_ _=>False
def Cx.Ok.wish{X:Cx}(a:X.Ok)(E:Value->Shared->Prop):(X.wish E).Ok:=
 ⟨a.mod,a.kind,a.glob,a.blt,a.above,a.inj,a.has,a.cab,a.hd,a.frames,a.stk,a.exf,a.bs,a.bsz,a.noex,a.exfs,a.funs,a.frf⟩
def Cx.Ok.unwish{X:Cx}(a:(X.wish E).Ok):X.Ok:=
 ⟨a.mod,a.kind,a.glob,a.blt,a.above,a.inj,a.has,a.cab,a.hd,a.frames,a.stk,a.exf,a.bs,a.bsz,a.noex,a.exfs,a.funs,a.frf⟩
section
variable {X:Cx}{σ:St}{H:Hp}
def Inv.wish(I:Inv X π σ H s)(E:Value->Shared->Prop):Inv (X.wish E) π σ H s:=⟨I.ok.wish E,I.os,I.bare,I.base,I.loc,I.cell,I.free,I.freeC,I.pin,I.hok,I.len⟩
def Inv.unwish(I:Inv (X.wish E) π σ H s):Inv X π σ H s:=⟨I.ok.unwish,I.os,I.bare,I.base,I.loc,I.cell,I.free,I.freeC,I.pin,I.hok,I.len⟩
def SP.unwish{D:Ends}{f:Flow}{s':Shared}(h:SP (X.wish E) π D f s'):SP X π D f s':=by
 cases f with
 |next=>obtain⟨a,b,I,q⟩:=h;exact⟨a,b,I.unwish,q⟩
 |brk=>obtain⟨a,b,I,q⟩:=h;exact⟨a,b,I.unwish,q⟩
 |cont=>obtain⟨a,b,I,q⟩:=h;exact⟨a,b,I.unwish,q⟩
 |ret u=>obtain⟨v,a,b,I,r,q⟩:=h;exact⟨v,a,b,I.unwish,r,q⟩
def PSs.nox{st:List Stmt}{t:TS}(h:PSs X.nox st t):PSs X st t:=λπ s σ H D I a=>
 nc (h π s σ H D (I.wish _) a) (λ_ _ q=>q.unwish) λ_ _ z=>False.elim z
end
section
variable {X:Cx}{rest:List Stmt}{t u:TS}{te:TE}
abbrev zjx:TS:=λD σ H=>D.nx σ H
abbrev zl1(t u:TS):TS:=λD σ H=>t { D with nx:=u D } σ H
def zr:PSs X [] zjx:=λ_ _ σ H _ I h=>wpAny_execs_nil ⟨σ,H,I,h⟩
def zc(d:PS X st t)(e:PSs X rest u):PSs X (st::rest) (zl1 t u):=by
 intro π s σ H D I h;refine wpAny_execs_cons (thn (d π s σ H { D with nx:=u D } I h) λf g q=>?_);cases f with
 |next=>obtain⟨a,b,c,q⟩:=q;exact e π g a b D c q
 |ret v=>exact q
 |brk=>exact q
 |cont=>exact q
def za(a:PS X st t):PSs X [st] t:=by
 intro π s σ H D I h;refine wpAny_execs_cons (thn (a π s σ H D I h) λf b q=>?_);cases f with
 |next=>exact wpAny_execs_nil q
 |ret v=>exact q
 |brk=>exact q
 |cont=>exact q
def Inv.quiet{σ:St}{H:Hp}(I:Inv X π σ H s):interactive X.env=false:=by simp[interactive,I.ok.kind]
abbrev zjy(te:TE):TS:=λD σ H=>te σ H λ_ a=>D.nx σ a
def zm(c:PE X e te)(d:swapsWith e none pos.line X.env=pure false:=by rfl):PS X (.Expr e pos) (zjy te):=by
 intro π s σ H D I h;exact wpAny_Expr_any (thn (c π s σ H _ I h) λv i ⟨x,a,b,g,f⟩=>⟨σ,a,b,f⟩) I.quiet d
abbrev zl2(te:TE):TS:=λD σ H=>te σ H D.rt
def zj(c:PE X e te):PS X (.Return (some e) pos) (zl2 te):=by
 intro π s σ H D I h;exact wpAny_Return_some (thn (c π s σ H _ I h) λv g ⟨x,a,b,f,d⟩=>⟨x,σ,a,b,f,d⟩)
abbrev zl3(c:TT)(t u:TS):TS:=λD σ H=>c σ H λb a=>if b=true then t D σ a else u D σ a
def zn{c:Expr}{a b:List Stmt}{j:TT}(m:PT X c j)(k:PSs X a t)(l:PSs X b u):PS X (.If c a b pos) (zl3 j t u):=by
 intro π s σ H D I h;refine wpAny_If (thn (m π s σ H _ I h) λd i ⟨e,f,g⟩=>?_);cases d with
 |true=>exact k π i σ e D f g
 |false=>exact l π i σ e D f g
abbrev zfP:TS:=λ_ _ _=>False
def zhF:PS X st zfP:=λ_ _ _ _ _ _ h=>h.elim
end
/---/abbrev TG:=V->St->Hp->(St->Hp->Prop)->Prop
/---/abbrev TGs:=List V->St->Hp->(St->Hp->Prop)->Prop
abbrev PG(X:Cx)(a:Expr)(t:TG):Prop:=
 ∀(π:List (Addr×Obj)) (s:Shared) (σ:St) (H:Hp) (v:V) (u:Value) (Q:St->Hp->Prop),Inv X π σ H s->RelV v u->t v σ H Q->
  wpAny (model X.prog X.w) X.A (assign a X.env u) (λ_ s'=>Ex2 λb c=>An2 (Inv X π b c s') (Q b c)) X.xe s
abbrev PGs(X:Cx)(c:List Expr)(t:TGs):Prop:=
 ∀(π:List (Addr×Obj)) (s:Shared) (σ:St) (H:Hp) (vs:List V) (us:List Value) (Q:St->Hp->Prop),Inv X π σ H s->Vals vs us->t vs σ H Q->
  wpAny (model X.prog X.w) X.A (assignInOrder ((assignEach c X.env).map (·.2)) us) (λ_ s'=>Ex2 λa b=>An2 (Inv X π a b s') (Q a b)) X.xe s
/---/abbrev zhG:=V->V->V->Hp->(Hp->Prop)->Prop
abbrev zl4(X:Cx)(t:zhG):Prop:=
 ∀(π:List (Addr×Obj)) (s:Shared) (σ:St) (H:Hp) (o i v:V) (c b u:Value) (Q:Hp->Prop),Inv X π σ H s->RelV o c->RelV i b->RelV v u->t o i v H Q->
  wpAny (model X.prog X.w) X.A (setItem c b u) (λ_ s'=>Ex1 λa=>An2 (Inv X π σ a s') (Q a)) X.xe s
section
variable {X:Cx}
abbrev Zo(i:Nat):TG:=λv σ H Q=>Q (σ.set i (some v)) H
def zy(b:X.N.Nodup)(d:X.N[i]? =some x)(hx:Loc X.env.scope x)(c:X.fn x=true\/X.env.scope.names.lookup x=some .local:=by first|exact .inl rfl|exact .inr rfl|assumption):PG X (.Name x pos) (Zo i):=by
 intro π s σ H v u Q I r h;exact wpAny_assign_Name (K2 I b d hx r (λs' a=>⟨_,H,a,h⟩) c)
abbrev zl5:TGs:=λvs σ H Q=>vs=[]/\Q σ H
abbrev zjz(t:TG)(u:TGs):TGs:=λvs σ H Q=>Ex2 λv r=>An2 (vs=v::r) (t v σ H λa b=>u r a b Q)
def Qf:PGs X [] zl5:=by
 intro π s σ H vs us Q I r h;obtain⟨e,h⟩:=h;subst e;cases r;exact assignInOrder_nil ⟨σ,H,I,h⟩
def uG{t:TG}{u:TGs}(f:PG X e t)(g:PGs X es u)
  (i:(assignEach (e::es) X.env).map (·.2)=assign e X.env::(assignEach es X.env).map (·.2):=by rfl):PGs X (e::es) (zjz t u):=by
 intro π s σ H vs us Q I r h;obtain⟨v,l,d,h⟩:=h;subst d;cases r with
 |cons r rr=>rw[i];refine assignInOrder_cons (thn (f π s σ H _ _ _ I r h) λ_ k ⟨a,b,c,j⟩=>?_);exact g π k a b _ _ Q c rr j
abbrev zhH(K:W.Frag)(n:Nat)(t:TGs):TG:=λv σ H Q=>Ex2 λa b=>An4 (v=.ref a) (SqT K H a b) (b.length=n) (t b σ H Q)
def zl6{k:Nat}{t:TGs}(j:X.calm=true)(h:PGs X es t)
  (m:(assignEach es X.env).length=n:=by rfl)(c:(assignEach es X.env).findIdx? (·.1)=none:=by rfl):PG X (.Tuple es k pos) (zhH X.K n t):=by
 intro π s σ H v u Q I r d;obtain⟨a,x,i,p,l,d⟩:=d;subst i;cases r;obtain⟨w,f,q,hz⟩:=I.tuple p;refine assign_Tuple_tuple (I.ok.hd j) q (by simp[m,<-l,f.length]) c λh' hx=>?_;have g:Inv X π σ H { s with heap:=h' }:=I.kept (t':=s.toks) λb o e=>hx b o (lK (lD e)) e;exact h π _ σ H x _ Q g (by simpa using f) d
abbrev zl7(e d:TE)(t:zhG):TG:=λv σ H Q=>e σ H λo a=>d σ a λi b=>t o i v b λc=>Q σ c
def V3{o i:Expr}{d c:TE}{t:zhG}(p:PE X o d)(n:PE X i c)(q:zl4 X t)
    (m:∀ v,assign (.Subscript o i pos) X.env v=(do
      let a<-holding [v] (eval o X.env);let b<-holding [v,a] (eval i X.env)
      standAt pos
      holding [v,a,b] (setItem a b v)
      release [v,a,b] []):=by intro _;rfl):PG X (.Subscript o i pos) (zl7 d c t):=by
  intro π s σ H v u Q I r h;rw[m];refine l6 (mD (thn (p π s σ H _ I h) λa D ⟨x,e,j,B,w⟩=>?_));refine l6 (mD (thn (n π D σ e _ j w) λb E ⟨y,f,k,C,z⟩=>?_));refine l6 (qa (l6 (mD (thn (q π E σ f x y v a b u _ k B C r z) λ_ F ⟨g,l,A⟩=>?_))));exact wpAny_release ⟨σ,g,l,A⟩
abbrev Qg(b:TE)(g:TG):TS:=λD σ H=>b σ H λx a=>g x σ a D.nx
def V4{a:TE}{g:TG}(f:PE X e a)(i:PG X tg g)(j:swapsWithSole [tg] e pos.line X.env=pure false:=by rfl)(k:swappedStores [tg] e X.env=pure none:=by rfl)
  (d:(assignEach [tg] X.env).map (·.2)=[assign tg X.env]:=by rfl):PS X (.Assign [tg] e pos) (Qg a g):=by
 intro π s σ H D I h;refine wpAny_Assign_stores (thn (f π s σ H _ I h) λv n ⟨x,b,c,m,l⟩=>?_) j k;rw[d];exact thn (i π n σ b x v _ c m l) λ_ o q=>q
def zl8{b:TE}{a:Pos}(g:X.N.Nodup)(l:X.N[i]? =some x)(hx:Loc X.env.scope x)(j:PE X e b)(m:swapsWith e (some (.Name x a)) pos.line X.env=pure false:=by rfl)(k:X.fn x=true\/X.env.scope.names.lookup x=some .local:=by first|exact .inl rfl|exact .inr rfl|assumption) :
  PS X (.Assign [.Name x a] e pos) (Qg b (Zo i)):=by
 intro π s σ H D I h;refine wpAny_Assign_Name (thn (j π s σ H _ I h) λv p ⟨y,c,d,o,n⟩=>?_) m;exact K2 d g l hx o (λq f=>⟨_,c,f,n⟩) k
end
structure It where
 go:Nat->Hp->Prop
 yld:Nat->Hp->V->Hp->Prop
 stop:Nat->Hp->Prop
abbrev FpOk(X:Cx)(π:List (Addr×Obj))(H:Hp)(b:Addr):Prop:=
 H b=none/\b≠X.env.locals/\b∉X.fs/\(b∈X.ex\/X.s₀.heap.objs.size<=b)/\(∀x c,X.env.cells.lookup x=some c->c≠b)/\∀p∈X.pn++π,p.1≠b
def Inv.fpOk{X:Cx}{σ:St}{H d:Hp}(I:Inv X π σ H s)(a:s.heap.objs.size<=b)(f:d b=none):FpOk X π d b:=by
 refine⟨f,pj (lP I.lt a),I.nofs a,.inr (m7 I.sz a),λx c e z=>?_,λp g z=>?_⟩
 .obtain⟨v,q⟩:=I.cell x c e;exact absurd (lP q.lt (by rw[z];exact a)) (nI _)
 .exact absurd (lP (lD (I.pin p g).1) (by rw[z];exact a)) (nI _)
structure Turn (P:Program) (w:World) (K:W.Frag) (tg:Expr) (J:It) (fp:List Addr) (it:Addr) (tn:Nat->Heap->Prop):Prop where
  mem:it∈fp
  obj:∀i h,tn i h->∀b∈fp,∃o,h.get? b=some o/\∀v,o.data≠.cell v
  keep:∀i h h',tn i h->(∀b∈fp,∀o,h.get? b=some o->h'.get? b=some o)->tn i h'
  item:∀(X:Cx),X.prog=P->X.w=w->X.K=K->X.calm=true->∀(i:Nat) (π:List (Addr×Obj)) (s:Shared) (σ:St) (H:Hp) (E:Value->Shared->Prop),Inv X π σ H s->(∀b∈fp,FpOk X π H b)->tn i s.heap->J.go i H->
    wpAny (model P w) X.A (pyNext (.ref it)) (fun r s1=>∃ u,r=some u/\
      wpAny (model P w) X.A (letOwnedTupleGo tg (.ref it) u) (λ_ s2=>∃x H',Inv X π σ H' s2/\RelV x u/\J.yld i H x H'/\tn (i+1) s2.heap/\∀b∈fp,H' b=none) E s1) E s
  done:∀(X:Cx),X.prog=P->X.w=w->X.K=K->X.calm=true->∀(i:Nat) (π:List (Addr×Obj)) (s:Shared) (σ:St) (H:Hp) (E:Value->Shared->Prop),Inv X π σ H s->(∀b∈fp,FpOk X π H b)->tn i s.heap->J.stop i H->
    wpAny (model P w) X.A (pyNext (.ref it)) (λr s1=>r=none/\Inv X π σ H s1) E s
  self:∀(A:Around) (i:Nat) (s:Shared) (Q:Value->Shared->Prop) (E:Value->Shared->Prop),tn i s.heap->Q (.ref it) s->wpAny (model P w) A (pyIter (.ref it)) Q E s
/---/abbrev TI:=St->Hp->(It->Hp->Prop)->Prop
abbrev PIE(X:Cx)(π:List (Addr×Obj))(σ:St)(tg:Expr)(R:It->Hp->Prop)(c:Value)(d:Shared):Prop:=
 Ex5 λ(it:Addr) (fp:List Addr) (e:Nat->Heap->Prop) (J:It) (a:Hp)=>An6 (c=.ref it) (Inv X π σ a d) (Turn X.prog X.w X.K tg J fp it e) (e 0 d.heap) ((∀b∈fp,FpOk X π a b)) (R J a)
abbrev PI(X:Cx)(tg iter:Expr)(b:TI):Prop:=
 ∀(π:List (Addr×Obj)) (s:Shared) (σ:St) (H:Hp) (R:It->Hp->Prop),Inv X π σ H s->b σ H R->
  wpAny (model X.prog X.w) X.A (eval iter X.env) (λv a=>wpAny (model X.prog X.w) X.A (pyIter v) (PIE X π σ tg R) X.xe a) X.xe s
def Y7{M:Model}{it:Addr}{o:Obj}{n:String}{vs:Array Value}{Q:Unit->Shared->Prop}(e:s.heap.get? it=some o)(b:o.cls=.type n)(c:o.data=.fields vs)
    (d:["enumerate","zip","dict_itemiterator","dict_reverseitemiterator","odict_iterator","itertools.zip_longest","itertools.pairwise"].contains n=false)(a:Q () s):wpAny M A (letOwnedTupleGo tg (.ref it) u) Q E s:=by
  unfold letOwnedTupleGo;cases tg<;>first
    |exact lz a
    | (cases u <;> first
        |exact lz a
        | (refine l6 (wpAny_load e ?_)
           rw[b,c];show wpAny M A (if(["enumerate","zip","dict_itemiterator","dict_reverseitemiterator","odict_iterator","itertools.zip_longest","itertools.pairwise"].contains n&&vs[0]? == some (rawInt _))=true then _ else _) Q E s;rw[l7 (by intro h;rw[d,Bool.false_and]at h;cases h)];exact lz a))
abbrev Itl(K:W.Frag)(a:Addr):It:=
 ⟨λi H=>∃b x,SqL K H a b/\b[i]? =some x,λi H x c=>c=H/\∀b,SqL K H a b->b[i]? =some x,λi H=>∃b,SqL K H a b/\b.length<=i⟩
abbrev Itt(K:W.Frag)(a:Addr):It:=
 ⟨λi H=>∃b x,SqT K H a b/\b[i]? =some x,λi H x c=>c=H/\∀b,SqT K H a b->b[i]? =some x,λi H=>∃b,SqT K H a b/\b.length<=i⟩
abbrev Itr(lo:Int)(n:Nat):It:=⟨λi _=>i<n,λi H x a=>a=H/\x=.int (lo+i),λi _=>n<=i⟩
def zfQ(a it:Addr):Turn P w K tg (Itl K a) [it] it (λi h=>h.IsListIter it a i) where
 mem:=m!""
 obj:=λi h st b f=>by
  have e:b=it:=by simpa using f
  subst e;obtain⟨o,e,c,d⟩:=st;exact⟨o,e,λv z=>by rw[d]at z;cases z⟩
 keep:=λi h h' st k=>st.at λo e=>k it m!"" o e
 item:=by intro X A C y G i π s σ H E I j st B;subst A C y;obtain⟨S,x,l,hx⟩:=B;obtain⟨D,F,p,hz⟩:=I.list l;obtain⟨u,N,Q⟩:=F.get hx;obtain⟨m,n,M,q,r,t⟩:=j it m!"";refine oP st p.isList (x:=u) (by simpa using N) λh' g R=>?_;have J:Inv X π σ H { s with heap:=h' }:=I.turned (t':=s.toks) (λb o f e=>(R.2 b f).trans e) m n q r t;obtain⟨o,e,c,d⟩:=id g;exact⟨u,rfl,Y7 (s:={ s with heap:=h' }) e c d ∅ ⟨x,H,J,Q,⟨rfl,λU O=>by rw[I.list_inj O l];exact hx⟩,g,λb f=>(j b f).1⟩⟩
 done:=by intro X A C y G i π s σ H E I j st B;subst A C y;obtain⟨S,l,hx⟩:=B;obtain⟨D,F,p,hz⟩:=I.list l;obtain⟨m,n,M,q,r,t⟩:=j it m!"";have T:=F.length;exact oZ (I.ok.hd G) st p.isList (by simp;lia) λh' L=>⟨rfl,I.turned (t':=s.toks) (λb o f e=>L b o f e) m n q r t⟩
 self:=λ_ _ _ _ _ st h=>wpAny_pyIter_listiter st h
def zdR(a it:Addr):Turn P w K tg (Itt K a) [it] it (λi h=>h.IsTupleIter it a i) where
 mem:=m!""
 obj:=λi h st b f=>by
  have e:b=it:=by simpa using f
  subst e;obtain⟨o,e,c,d⟩:=st;exact⟨o,e,λv z=>by rw[d]at z;cases z⟩
 keep:=λi h h' st k=>st.at λo e=>k it m!"" o e
 item:=by intro X B D A G i π s σ H E I l st C;subst B D A;obtain⟨S,x,m,hx⟩:=C;obtain⟨g,F,p,hz⟩:=I.tuple m;obtain⟨u,N,Q⟩:=F.get hx;obtain⟨n,q,M,r,t,y⟩:=l it m!"";refine wpAny_pyNext_tuple_item st (show s.heap.IsTuple a g.toArray from p) (x:=u) (by simpa using N) λh' j R=>?_;have J:Inv X π σ H { s with heap:=h' }:=I.turned (t':=s.toks) (λb o f e=>(R.2 b f).trans e) n q r t y;obtain⟨o,e,c,d⟩:=id j;exact⟨u,rfl,Y7 (s:={ s with heap:=h' }) e c d ∅ ⟨x,H,J,Q,⟨rfl,λU O=>by rw[I.tuple_inj O m];exact hx⟩,j,λb f=>(l b f).1⟩⟩
 done:=by intro X B D A G i π s σ H E I l st C;subst B D A;obtain⟨S,m,hx⟩:=C;obtain⟨g,F,p,hz⟩:=I.tuple m;obtain⟨n,q,M,r,t,y⟩:=l it m!"";have T:=F.length;exact wpAny_pyNext_tuple_end (I.ok.hd G) st (show s.heap.IsTuple a g.toArray from p) (by simp;lia) λh' L=>⟨rfl,I.turned (t':=s.toks) (λb o f e=>L b o f e) n q r t y⟩
 self:=λ_ _ _ _ _ st h=>wpAny_pyIter_tupleiter st h
def zdS(it:Addr)(lo:Int)(n:Nat):Turn P w K tg (Itr lo n) [it] it (λi h=>IsRangeIter h it (lo+(i:Nat)*1) ((n:Int)-(i:Nat)) 1) where
 mem:=m!""
 obj:=λi h st b a=>by
  have e:b=it:=by simpa using a
  subst e;exact⟨_,st,fun v z=>by
   have G:Data.fields _=Data.cell v:=z;cases G⟩
 keep:=λi h h' st k=>k it m!"" _ st
 item:=by intro X q x p r i π s σ H E I d st u;subst q x p;obtain⟨f,g,C,j,l,m⟩:=d it m!"";have W:=Walks.range (prog:=X.prog) (w:=X.w) (I.ok.hd r) it lo 1 n;refine W.item i s _ _ u st λv h' y D c F=>?_;obtain⟨t,rfl⟩:=D;have A:Inv X π σ H { s with heap:=h',toks:=y }:=I.turned (λb o a e=>F b o (by simpa using a) e) f g j l m;refine⟨_,rfl,Y7 (s:={ s with heap:=h',toks:=y }) (n:="range_iterator") c rfl rfl ∅ ⟨.int (lo+i),H,A,⟨t,?_⟩,⟨rfl,rfl⟩,c,λb a=>(d b a).1⟩⟩;rw[Int.mul_one]
 done:=by intro X q x p r i π s σ H E I d st u;subst q x p;obtain⟨f,g,C,j,l,m⟩:=d it m!"";exact wpAny_pyNext_range_end (I.ok.hd r) st (by have:n<=i:=u;lia) λh' B=>⟨rfl,I.turned (t':=s.toks) (λb o a e=>B b o a e) f g j l m⟩
 self:=λ_ _ _ _ _ st h=>wpAny_pyIter_rangeiter st h
section
variable {X:Cx}
abbrev zdT(K:W.Frag)(c:TE):TI:=λσ H R=>c σ H λx b=>∃a,x=.ref a/\(∃d,SqL K b a d)/\R (Itl K a) b
abbrev zhI(K:W.Frag)(c:TE):TI:=λσ H R=>c σ H λx b=>∃a,x=.ref a/\(∃d,SqT K b a d)/\R (Itt K a) b
def zkk{l:Expr}{f:TE}(j:PE X l f):PI X tg l (zdT X.K f):=by
 intro π s σ H R I h;refine thn (j π s σ H _ I h) λv d ⟨x,g,c,r,n⟩=>?_;obtain⟨a,e,⟨u,k⟩,q⟩:=n;subst e;cases r;obtain⟨m,t,p,hz⟩:=c.list k;refine oH p.isList ?_;refine⟨d.heap.objs.size,[d.heap.objs.size],_,_,g,rfl,c.kept (t':=d.toks) λb o e=>li _ e,zfQ a _,⟨_,lL _ rfl,rfl,rfl⟩,λb i=>?_,q⟩;have e:b=d.heap.objs.size:=by simpa using i
 subst e;exact c.fpOk (ll _) (c.hok.fresh (ll _))
def zl9{l:Expr}{g:TE}(k:PE X l g):PI X tg l (zhI X.K g):=by
 intro π s σ H R I h;refine thn (k π s σ H _ I h) λv c ⟨x,i,d,r,n⟩=>?_;obtain⟨a,e,⟨u,m⟩,q⟩:=n;subst e;cases r;obtain⟨f,t,p,hz⟩:=d.tuple m;refine wpAny_pyIter_tuple (show c.heap.IsTuple a f.toArray from p) ?_;refine⟨c.heap.objs.size,[c.heap.objs.size],_,_,i,rfl,d.kept (t':=c.toks) λb o e=>li _ e,zdR a _,⟨_,lL _ rfl,rfl,rfl⟩,λb j=>?_,q⟩;have e:b=c.heap.objs.size:=by simpa using j
 subst e;exact d.fpOk (ll _) (d.hok.fresh (ll _))
def K3{σ:St}{H:Hp}{R:It->Hp->Prop}{lo a:Int}{t u v:Tok}{d:Nat}(I:Inv X π σ H s)(h:-(2 ^ 62)<=lo)(i:lo<2 ^ 62)(j:-(2 ^ 62)<=a)(k:a<2 ^ 62)
  (q:R (Itr lo (a-lo).toNat) H):wpAny (model X.prog X.w) X.A (pyIter (.ref s.heap.objs.size)) (PIE X π σ tg R) E { s with heap:=s.heap.push { cls:=.type "range",data:=.fields #[.int lo t,.int a u,.int 1 v] },toks:=d }:=by
 refine wpAny_pyIter_range (IsRange.new ..) (small_one h i j k) ?_;have c:Inv X π σ H { s with heap:=s.heap.push { cls:=.type "range",data:=.fields #[.int lo t,.int a u,.int 1 v] },toks:=d }:=I.kept λb o e=>li _ e;refine⟨(s.heap.push { cls:=.type "range",data:=.fields #[.int lo t,.int a u,.int 1 v] }).objs.size,[(s.heap.push { cls:=.type "range",data:=.fields #[.int lo t,.int a u,.int 1 v] }).objs.size],_,_,H,rfl,
  c.kept (t':=d) λb o e=>li _ e,zdS _ lo (a-lo).toNat,?_,λb l=>?_,q⟩
 .have f:lo+((0:Nat):Int)*1 =lo:=m!""
  have g:(((a-lo).toNat:Nat):Int)-((0:Nat):Int)=Builtin.Range.rangeSize lo a 1:=by rw[rangeSize_one];split<;>lia
  show IsRangeIter _ _ (lo+((0:Nat):Int)*1) ((((a-lo).toNat:Nat):Int)-((0:Nat):Int)) 1;rw[f,g];exact lL _ rfl
 .have e:b=(s.heap.push { cls:=.type "range",data:=.fields #[.int lo t,.int a u,.int 1 v] }).objs.size:=by simpa using l
  subst e;exact c.fpOk (ll _) (c.hok.fresh (ll _))
abbrev zjA(b:TA):TI:=λσ H R=>b σ H λvs a=>∃j:Int,vs=[.int j]/\-(2 ^ 62)<=j/\j<2 ^ 62/\R (Itr 0 j.toNat) a
abbrev zjB(b:TA):TI:=λσ H R=>b σ H λvs a=>∃i j:Int,vs=[.int i,.int j]/\(-(2 ^ 62)<=i/\i<2 ^ 62/\-(2 ^ 62)<=j/\j<2 ^ 62)/\R (Itr i (j-i).toNat) a
def yl{a:Expr}{c:TA}{p:Pos}(g:Gl X "range")(i:X.mg "range" =none)(f:PA X [a] c)(k:starEach [a] X.env=[(false,eval a X.env)]:=by rfl):PI X tg (.Call (.Name "range" p) [a] [] pos) (zjA c):=by
 intro π s σ H R I h;refine Call_ (vY I g i boot_range (mF (thn (f pos π s σ H _ I h) λus o ⟨vs,n,d,m,b⟩=>?_) k rfl));obtain⟨j,e,b,l,q⟩:=b;subst e;cases m with
 |cons r rr=>cases rr;obtain⟨t,rfl⟩:=r;exact call_range_1 (K3 d ⋯ ⋯ b l (by simpa using q))
def Z4{a b:Expr}{f:TA}{p:Pos}(l:Gl X "range")(m:X.mg "range" =none)(k:PA X [a,b] f)(n:starEach [a,b] X.env=[(false,eval a X.env),(false,eval b X.env)]:=by rfl)(c:starEach [b] X.env=[(false,eval b X.env)]:=by rfl) :
  PI X tg (.Call (.Name "range" p) [a,b] [] pos) (zjB f):=by
 intro π s σ H R I h;refine Call_ (vY I l m boot_range (mF (thn (k pos π s σ H _ I h) λus y ⟨vs,x,g,w,d⟩=>?_) (by rw[n,c]) (by rw[c];rfl)));obtain⟨i,j,e,⟨d,o,u,v⟩,q⟩:=d;subst e;cases w with
 |cons r rr=>
  cases rr with
  |cons r' rr=>cases rr;obtain⟨t,rfl⟩:=r;obtain⟨t',rfl⟩:=r';exact call_range_2 (K3 g d o u v q)
abbrev zma(j:TI)(g:TG)(h:TS):TS:=λD σ H=>j σ H λJ e=>∃W:Nat->Nat->St->Hp->Prop,(∃m,W 0 m σ e)/\∀i m σ H,W i m σ H->
 (J.stop i H/\D.nx σ H)\/(J.go i H/\∃N:St->Hp->Prop,(∀b a,N b a->∃d,d<m/\W (i+1) d b a)/\∀x a,J.yld i H x a->g x σ a λc f=>h { D with nx:=N,ct:=N,bk:=D.nx } c f)
abbrev Z5(fp:List Addr)(h:Heap):List (Addr×Obj):=fp.filterMap λb=>(h.get? b).map λo=>(b,o)
def qW{fp:List Addr}{o:Obj}(a:b∈fp)(e:h.get? b=some o):(b,o)∈Z5 fp h:=List.mem_filterMap.mpr ⟨b,a,by rw[e];rfl⟩
def zfR{fp:List Addr}{p:Addr×Obj}(d:p∈Z5 fp h):p.1∈fp/\h.get? p.1=some p.2:=by
 obtain⟨b,c,e⟩:=List.mem_filterMap.mp d;cases q:h.get? b with
 |none=>rw[q]at e;cases e
 |some o=>rw[q]at e;have a:(b,o)=p:=lV e;subst a;exact⟨c,q⟩
def Inv.pinned{σ:St}{H:Hp}{fp:List Addr}(I:Inv X π σ H s)(i:∀b∈fp,FpOk X π H b)(j:∀b∈fp,∃o,s.heap.get? b=some o/\∀v,o.data≠.cell v):Inv X (π++Z5 fp s.heap) σ H s:=
 I.pins_of λp k=>(ls.mp k).elim (λz=>I.pin p (lW _ z)) λz=>by obtain⟨c,e⟩:=zfR z;obtain⟨f,g,h,_⟩:=i p.1 c;obtain⟨o,a,d⟩:=j p.1 c;rw[e]at a;cases a;exact⟨e,f,g,h,d⟩
def Inv.unpinned{pl:List (Addr×Obj)}{σ:St}{H:Hp}(I:Inv X (π++pl) σ H s):Inv X π σ H s:=I.pins_of λp a=>I.pin p (lW _ (n9 _ a))
def yD{iter:Expr}{t:List Stmt}{wi:TI}{g:TG}{tb:TS}(C:PassesOwn (model X.prog X.w) X.A X.env X.xe)(Y:X.calm=true)(hi:PI X tg iter wi)(hg:PG X tg g)(k:PSs X t tb)
  (hs:∀x,foldedSetIterable iter X.env x=pure x:=by intro _;rfl):PS X (.For tg iter t [] pos) (zma wi g tb):=by
 intro π s σ H D I h;refine wpAny_For (thn (hi π s σ H _ I h) λv s1 h1=>thn h1 λzs s2 h2=>?_) hs;obtain⟨it,fp,tn,J,H2,e,I2,T,Q,V,W,⟨m0,w0⟩,G⟩:=h2;subst e;have l:∀{H':Hp},(∀b∈fp,H' b=none)->∀b∈fp,FpOk X π H' b:=λhn b k=>⟨hn b k,(V b k).2⟩;refine codeAny_forLoop_any (λn s'=>∃i p H',Inv X π p H' s'/\tn i s'.heap/\(∀b∈fp,H' b=none)/\W i n p H') ?_ m0 ⟨0,σ,H2,I2,Q,λb k=>(V b k).1,w0⟩;rintro n Z ⟨i,q,K,U,F,B,w3⟩;rcases G i n q K w3 with⟨stop,qn⟩|⟨go,N,hN,step⟩
 .refine ow C (thn (T.done X rfl rfl rfl Y i π Z q K X.xe U (l B) F stop) λr s4 ⟨O,I4⟩=>?_);subst O;exact wpAny_execs_nil ⟨q,K,I4,qn⟩
 .refine ow C (thn (T.item X rfl rfl rfl Y i π Z q K X.xe U (l B) F go) λr s4 ⟨u,O,h4⟩=>?_);subst O;refine ow C (thn h4 λ_ s5 ⟨x,S,I5,r5,y5,z,M⟩=>?_);have L:=I5.pinned (l M) (T.obj _ _ z);refine ow C (thn (hg _ s5 q S x u _ L r5 (step x S y5)) λ_ s6 ⟨R,H6,I6,q6⟩=>?_);refine ow C (thn (k _ s6 R H6 _ I6 q6) λf P y=>?_);have again:∀{a:St}{c:Hp},Inv X (π++Z5 fp s5.heap) a c P->N a c->∃m,m<n/\∃i p H',Inv X π p H' P/\tn i P.heap/\(∀b∈fp,H' b=none)/\W i m p H':=λ{a c} j E=>by
   obtain⟨m',hm,w7⟩:=hN a c E;refine⟨m',hm,i+1,a,c,j.unpinned,T.keep _ _ _ z λb k o e=>(j.pin (b,o) (lW _ (lW _ (qW k e)))).1,λb k=>?_,w7⟩;obtain⟨o,e,d⟩:=T.obj _ _ z b k;exact(j.pin (b,o) (lW _ (lW _ (qW k e)))).2.1
  cases f with
  |next=>obtain⟨a,c,j,E⟩:=y;exact again j E
  |cont=>obtain⟨a,c,j,E⟩:=y;exact again j E
  |brk=>obtain⟨a,c,j,y⟩:=y;exact⟨a,c,j.unpinned,y⟩
  |ret v=>obtain⟨x7,a,c,j,r7,y⟩:=y;exact⟨x7,a,c,j.unpinned,r7,y⟩
end
/---/abbrev R2:=V->V->Hp->VK->Prop
abbrev OpR(X:Cx)(f:Value->Value->Sem Value)(r:R2):Prop:=
 ∀(π:List (Addr×Obj)) (s:Shared) (σ:St) (H:Hp) (x y:V) (v u:Value) (Q:VK),Inv X π σ H s->RelV x v->RelV y u->r x y H Q->
  wpAny (model X.prog X.w) X.A (f v u) (EP X π σ Q) X.xe s
abbrev UnR(X:Cx)(f:Value->Sem Value)(r:V->Hp->VK->Prop):Prop:=
 ∀(π:List (Addr×Obj)) (s:Shared) (σ:St) (H:Hp) (x:V) (v:Value) (Q:VK),Inv X π σ H s->RelV x v->r x H Q->
  wpAny (model X.prog X.w) X.A (f v) (EP X π σ Q) X.xe s
abbrev yj(X:Cx)(f:Value)(r:List V->Hp->VK->Prop):Prop:=
 ∀(π:List (Addr×Obj)) (s:Shared) (σ:St) (H:Hp) (a:List V) (us:List Value) (Q:VK),Inv X π σ H s->Vals a us->r a H Q->
  wpAny (model X.prog X.w) X.A (call f us) (EP X π σ Q) X.xe s
abbrev zpn(X:Cx)(r:V->Hp->(Bool->Hp->Prop)->Prop):Prop:=
 ∀(π:List (Addr×Obj)) (s:Shared) (σ:St) (H:Hp) (x:V) (v:Value) (Q:Bool->Hp->Prop),Inv X π σ H s->RelV x v->r x H Q->
  wpAny (model X.prog X.w) X.A (truthy v) (TP X π σ Q) X.xe s
abbrev tOp(r:R2)(c d:TE):TE:=λσ H Q=>c σ H λx a=>d σ a λy b=>r x y b Q
abbrev tUn(r:V->Hp->VK->Prop)(b:TE):TE:=λσ H Q=>b σ H λx a=>r x a Q
abbrev rI(C:Int->Int->Prop)(g:Int->Int->V):R2:=λx y H Q=>Ex2 λi j=>An4 (x=.int i) (y=.int j) (C i j) (Q (g i j) H)
abbrev rI0(g:Int->Int->V):R2:=λx y H Q=>Ex2 λi j=>An3 (x=.int i) (y=.int j) (Q (g i j) H)
abbrev rU(g:Int->V):V->Hp->VK->Prop:=λx H Q=>Ex1 λi=>An2 (x=.int i) (Q (g i) H)
section
variable {X:Cx}{a b c:Expr}{ta tb tc:TE}
def zhJ(l:PE X a ta)(m:PE X b tb){σ:St}{H:Hp}{R:V->V->Hp->Prop}(I:Inv X π σ H s)
  (h:ta σ H λx i=>tb σ i λy c=>R x y c){f:Value->Value->Sem Value}
  (n:∀v u g x y c,Inv X π σ c g->RelV x v->RelV y u->R x y c->wpAny (model X.prog X.w) X.A (f v u) Q X.xe g) :
  wpAny (model X.prog X.w) X.A (eval a X.env) (λv d=>wpAny (model X.prog X.w) X.A (eval b X.env) (λu e=>wpAny (model X.prog X.w) X.A (f v u) Q X.xe e) X.xe d) X.xe s:=by
 refine thn (l π s σ H _ I h) λv t ⟨x,i,j,q,o⟩=>?_;refine thn (m π t σ i _ j o) λu g ⟨y,c,k,r,p⟩=>?_;exact n v u g x y c k q r p
def zf{c:Operator}{r:R2}(i:OpR X (binaryOp c) r)(f:PE X a ta)(g:PE X b tb):PE X (.BinOp a c b pos) (tOp r ta tb):=by
 intro π s σ H Q I h;exact wpAny_BinOp (zhJ f g I h λv u l x y d e j k q=>i π l σ d x y v u Q e j k q)
def zdU{b:UnaryOp}{r:V->Hp->VK->Prop}(f:UnR X (unaryOp b) r)(e:PE X a ta):PE X (.UnaryOp b a pos) (tUn r ta):=by
 intro π s σ H Q I h;exact UnaryOp_ (thn (e π s σ H _ I h) λv j ⟨x,c,d,i,g⟩=>f π j σ c x v Q d i g)
def opI{f:Value->Value->Sem Value}{C:Int->Int->Prop}{g:Int->Int->Int}
  (rule:∀(i j:Int) (t u:Tok) (s:Shared) (Q:Value->Shared->Prop) (E:Value->Shared->Prop),C i j->Q (.int (g i j) s.toks) { s with toks:=s.toks+1 }->wpAny (model X.prog X.w) X.A (f (.int i t) (.int j u)) Q E s) :
  OpR X f (rI C λi j=>.int (g i j)):=by
 intro π s σ H x y v u Q I b c h;obtain⟨i,j,rfl,rfl,a,q⟩:=h;obtain⟨t,rfl⟩:=b;obtain⟨t',rfl⟩:=c;exact rule i j t t' s _ _ a ⟨.int (g i j),H,I.tok _,⟨_,rfl⟩,q⟩
def K4{f:Value->Value->Sem Value}{g:Int->Int->Int}
  (rule:∀(i j:Int) (t u:Tok) (s:Shared) (Q:Value->Shared->Prop) (E:Value->Shared->Prop),Q (.int (g i j) s.toks) { s with toks:=s.toks+1 }->wpAny (model X.prog X.w) X.A (f (.int i t) (.int j u)) Q E s) :
  OpR X f (rI0 λi j=>.int (g i j)):=by
 intro π s σ H x y v u Q I a b h;obtain⟨i,j,rfl,rfl,q⟩:=h;obtain⟨t,rfl⟩:=a;obtain⟨t',rfl⟩:=b;exact rule i j t t' s _ _ ⟨.int (g i j),H,I.tok _,⟨_,rfl⟩,q⟩
def zdV{f:Value->Value->Sem Value}{g:Int->Int->Bool}
  (rule:∀(i j:Int) (t u:Tok) (s:Shared) (Q:Value->Shared->Prop) (E:Value->Shared->Prop),Q (.bool (g i j)) s->wpAny (model X.prog X.w) X.A (f (.int i t) (.int j u)) Q E s) :
  OpR X f (rI0 λi j=>.bl (g i j)):=by
 intro π s σ H x y v u Q I a b h;obtain⟨i,j,rfl,rfl,q⟩:=h;obtain⟨t,rfl⟩:=a;obtain⟨t',rfl⟩:=b;exact rule i j t t' s _ _ ⟨.bl (g i j),H,I,rfl,q⟩
abbrev zhK(i j:Int):Prop:=0<j/\j<1073741824
abbrev Qh(i j:Int):Prop:=(-(2 ^ 64)<i/\i<2 ^ 64)\/(-(2 ^ 64)<j/\j<2 ^ 64)
def Qh.ok{i j:Int}(h:Qh i j):IntMulOk i j:=by
 rcases h with⟨h1,h2⟩|⟨h1,h2⟩
 .exact .of_left (intBits_le_64 h1 h2)
 .exact .of_right (intBits_le_64 h1 h2)
def zdW(k:Nat):(0:Int)<=2 ^ k:=by
 rw[two_pow_cast];exact nX _
def zw:OpR X (binaryOp .Add) (rI0 λi j=>.int (i+j)):=K4 λ_ _ _ _ _ _ _ q=>add_int q
def yi:OpR X (binaryOp .Sub) (rI0 λi j=>.int (i-j)):=K4 λ_ _ _ _ _ _ _ q=>sub_int q
def zB:OpR X (binaryOp .FloorDiv) (rI zhK λi j=>.int (i / j)):=opI λi j _ _ _ _ _ a q=>by
 have b:(0:Int)<j:=a.1;have c:j<1073741824:=a.2;exact floordiv_int f!"i" (by rw[Int.fdiv_eq_ediv_of_nonneg i f!"i"];exact q) (.inl (PyProof.noPylong_small f!"i"))
def zA:OpR X (binaryOp .Mod) (rI (λ_ j=>0<j) λi j=>.int (i%j)):=opI λi j _ _ _ _ _ a q=>by
 have b:(0:Int)<j:=a;exact mod_int' ⋯ (by rw[Int.fmod_eq_emod_of_nonneg i ⋯];exact q)
def zfS:OpR X (binaryOp .RShift) (rI (λ_ j=>0<=j) λi j=>.int (i / 2 ^ j.toNat)):=opI λi j _ _ _ _ _ a q=>
 rshift_int a (by rw[Int.fdiv_eq_ediv_of_nonneg i (zdW _)];exact q)
def V5:OpR X (binaryOp .BitAnd) (rI0 λi j=>.int (Builtin.bitAnd i j)):=K4 λ_ _ _ _ _ _ _ q=>and_int q
def zoc:OpR X (binaryOp .BitOr) (rI0 λi j=>.int (Builtin.bitOr i j)):=K4 λ_ _ _ _ _ _ _ q=>or_int q
def zmb:OpR X (binaryOp .BitXor) (rI0 λi j=>.int (Builtin.bitXor i j)):=K4 λ_ _ _ _ _ _ _ q=>xor_int q
def unI{f:Value->Sem Value}{g:Int->Int}
  (rule:∀(i:Int) (t:Tok) (s:Shared) (Q:Value->Shared->Prop) (E:Value->Shared->Prop),Q (.int (g i) s.toks) { s with toks:=s.toks+1 }->wpAny (model X.prog X.w) X.A (f (.int i t)) Q E s) :
  UnR X f (rU λi=>.int (g i)):=by
 intro π s σ H x v Q I a h;obtain⟨i,rfl,q⟩:=h;obtain⟨t,rfl⟩:=a;exact rule i t s _ _ ⟨.int (g i),H,I.tok _,⟨_,rfl⟩,q⟩
def zfT:UnR X (unaryOp .USub) (rU λi=>.int (-i)):=unI λ_ _ _ _ _ q=>neg_int q
def zmc:UnR X (unaryOp .Invert) (rU λi=>.int (Builtin.bitNot i)):=unI λ_ _ _ _ _ q=>invert_int q
end
abbrev XZ:V->V->Bool
 |.non,.non=>true|.non,.int _=>true|.int _,.non=>true|.non,.bl _=>true|.bl _,.non=>true|.non,.str _=>true|.str _,.non=>true
 |.int _,.int _=>true|.bl _,.bl _=>true|.str _,.str _=>true|.byt _,.byt _=>true
 |.int _,.str _=>true|.str _,.int _=>true|.bl _,.str _=>true|.str _,.bl _=>true
 |_,_=>false
abbrev rEq:R2:=λx y H Q=>XZ x y=true/\Q (.bl (decide (x=y))) H
abbrev rNe:R2:=λx y H Q=>XZ x y=true/\Q (.bl (!decide (x=y))) H
def zcR{i j:Int}:decide (V.int i=V.int j)=(i==j):=by
 rw[ox];simp
def zfU{i j:Bool}:decide (V.bl i=V.bl j)=(i==j):=by
 rw[ox];simp
def zcS{i j:Str}:decide (V.str i=V.str j)=(i==j):=by
 rw[ox];simp
def zcT{i j:Array UInt8}:decide (V.byt i=V.byt j)=(i.toList==j.toList):=by
 rw[ox];cases i;cases j;simp
section
variable {X:Cx}{a b c:Expr}{ta tb tc:TE}
def zF{σ:St}{H:Hp}{Q:VK}{k a:Bool}(I:Inv X π σ H s)(q:Q (.bl k) H)(e:k=a):EP X π σ Q (.bool a) s:=by
 subst e;exact⟨.bl k,H,I,rfl,q⟩
def zx:OpR X (compareOp .Eq) rEq:=by
 intro π s σ H x y v u Q I c a h;obtain⟨b,q⟩:=h;cases x with
 |non=>
  cases c;cases y with
  |non=>cases a;exact PySem.EqNone.eq_none_none (zF I q m!"")
  |bl j=>cases a;exact PySem.EqNone.eq_none_bool (zF I q m!"")
  |int j=>obtain⟨t',rfl⟩:=a;exact PySem.EqNone.eq_none_int (zF I q m!"")
  |str j=>obtain⟨t',rfl⟩:=a;exact PySem.EqNone.eq_none_str (zF I q m!"")
  |_=>exact absurd (show false=true from b) lN
 |bl i=>
  cases c;cases y with
  |non=>cases a;exact PySem.EqNone.eq_bool_none (zF I q m!"")
  |bl j=>cases a;exact eq_bool (zF I q zfU)
  |str j=>obtain⟨t',rfl⟩:=a;exact PySem.EqMixed.eq_bool_str (zF I q m!"")
  |_=>exact absurd (show false=true from b) lN
 |int i=>
  obtain⟨t,rfl⟩:=c;cases y with
  |non=>cases a;exact PySem.EqNone.eq_int_none (zF I q m!"")
  |int j=>obtain⟨t',rfl⟩:=a;exact eq_int (zF I q zcR)
  |str j=>obtain⟨t',rfl⟩:=a;exact PySem.EqMixed.eq_int_str (zF I q m!"")
  |_=>exact absurd (show false=true from b) lN
 |str i=>
  obtain⟨t,rfl⟩:=c;cases y with
  |non=>cases a;exact PySem.EqNone.eq_str_none (zF I q m!"")
  |bl j=>cases a;exact PySem.EqMixed.eq_str_bool (zF I q m!"")
  |int j=>obtain⟨t',rfl⟩:=a;exact PySem.EqMixed.eq_str_int (zF I q m!"")
  |str j=>obtain⟨t',rfl⟩:=a;exact eq_str (zF I q zcS)
  |_=>exact absurd (show false=true from b) lN
 |byt i=>
  obtain⟨t,rfl⟩:=c;cases y with
  |byt j=>obtain⟨t',rfl⟩:=a;exact PySem.W.eq_bytes (zF I q zcT)
  |_=>exact absurd (show false=true from b) lN
 |_=>cases y<;>exact absurd (show false=true from b) lN
def V6:OpR X (compareOp .NotEq) rNe:=by
 intro π s σ H x y v u Q I c a h;obtain⟨b,q⟩:=h;cases x with
 |non=>
  cases c;cases y with
  |non=>cases a;exact PySem.EqNone.ne_none_none (zF I q m!"")
  |bl j=>cases a;exact PySem.EqNone.ne_none_bool (zF I q m!"")
  |int j=>obtain⟨t',rfl⟩:=a;exact PySem.EqNone.ne_none_int (zF I q m!"")
  |str j=>obtain⟨t',rfl⟩:=a;exact PySem.EqNone.ne_none_str (zF I q m!"")
  |_=>exact absurd (show false=true from b) lN
 |bl i=>
  cases c;cases y with
  |non=>cases a;exact PySem.EqNone.ne_bool_none (zF I q m!"")
  |bl j=>cases a;exact ne_bool (zF I q (mH not zfU))
  |str j=>obtain⟨t',rfl⟩:=a;exact PySem.EqMixed.ne_bool_str (zF I q m!"")
  |_=>exact absurd (show false=true from b) lN
 |int i=>
  obtain⟨t,rfl⟩:=c;cases y with
  |non=>cases a;exact PySem.EqNone.ne_int_none (zF I q m!"")
  |int j=>obtain⟨t',rfl⟩:=a;exact ne_int (zF I q (mH not zcR))
  |str j=>obtain⟨t',rfl⟩:=a;exact PySem.EqMixed.ne_int_str (zF I q m!"")
  |_=>exact absurd (show false=true from b) lN
 |str i=>
  obtain⟨t,rfl⟩:=c;cases y with
  |non=>cases a;exact PySem.EqNone.ne_str_none (zF I q m!"")
  |bl j=>cases a;exact PySem.EqMixed.ne_str_bool (zF I q m!"")
  |int j=>obtain⟨t',rfl⟩:=a;exact PySem.EqMixed.ne_str_int (zF I q m!"")
  |str j=>obtain⟨t',rfl⟩:=a;exact ne_str (zF I q (mH not zcS))
  |_=>exact absurd (show false=true from b) lN
 |byt i=>
  obtain⟨t,rfl⟩:=c;cases y with
  |byt j=>obtain⟨t',rfl⟩:=a;exact PySem.W.ne_bytes (zF I q (mH not zcT))
  |_=>exact absurd (show false=true from b) lN
 |_=>cases y<;>exact absurd (show false=true from b) lN
def Y8:OpR X (compareOp .Lt) (rI0 λi j=>.bl (decide (i<j))):=zdV λ_ _ _ _ _ _ _ q=>lt_int q
def yF:OpR X (compareOp .LtE) (rI0 λi j=>.bl (decide (i<=j))):=zdV λ_ _ _ _ _ _ _ q=>le_int q
def Kq:OpR X (compareOp .Gt) (rI0 λi j=>.bl (decide (j<i))):=zdV λ_ _ _ _ _ _ _ q=>gt_int q
def zjC:OpR X (compareOp .GtE) (rI0 λi j=>.bl (decide (j<=i))):=zdV λ_ _ _ _ _ _ _ q=>ge_int q
def V7:OpR X (compareOp .Is) (λx y H Q=>y=.non/\Q (.bl (decide (x=.non))) H):=by
 intro π s σ H x y v u Q I a b h;obtain⟨rfl,q⟩:=h;cases b;refine is_none_gen (zF I q ?_);cases x<;>first
  |(cases a;rfl)
  |(obtain⟨t,rfl⟩:=a;rfl)
def zcU:OpR X (compareOp .IsNot) (λx y H Q=>y=.non/\Q (.bl (!decide (x=.non))) H):=by
 intro π s σ H x y v u Q I a b h;obtain⟨rfl,q⟩:=h;cases b;refine isnot_none_gen (zF I q ?_);cases x<;>first
  |(cases a;rfl)
  |(obtain⟨t,rfl⟩:=a;rfl)
def zfV(b:Expr){a:CmpOp}(h:a≠.In:=by decide)(e:a≠.NotIn:=by decide):behindInMarks a b=false:=by
 have c:(a==CmpOp.In)=false:=by cases a<;>first|rfl|exact absurd rfl h
 have d:(a==CmpOp.NotIn)=false:=by cases a<;>first|rfl|exact absurd rfl e
 cases b<;>simp[behindInMarks,c,d]
def zkl{c:CmpOp}{r:R2}(j:OpR X (compareOp c) r)(f:PE X a ta)(g:PE X b tb)(i:behindInMarks c b=false):PE X (.Compare a [c] [b] pos) (tOp r ta tb):=by
 intro π s σ H Q I h;exact wpAny_Compare1 (zhJ f g I h λv u m x y d e k l q=>j π m σ d x y v u Q e k l q) i
abbrev Kr(t:TE):TT:=λσ H Q=>t σ H λx a=>Ex1 λk=>An2 (x=.bl k) (Q k a)
def Y9{d:CmpOp}{r:R2}(q:OpR X (compareOp d) r)(n:PE X a ta)(o:PE X b tb)(p:behindInMarks d b=false):PT X (.Compare a [d] [b] pos) (Kr (tOp r ta tb)):=by
  intro π s σ H Q I h;refine wpAny_isTrue_Compare1 (thn (n π s σ H _ I h) fun v E ⟨x,f,j,B,t⟩=>thn (o π E σ f _ j t) fun u F ⟨y,g,l,C,w⟩=>
    thn (q π F σ g x y v u _ l B C w) λc G ⟨z,i,m,D,k,e,A⟩=>?_) p
  subst e;cases D;exact mj ⟨i,m,A⟩
abbrev K5(r e:R2)(ta tb tc:TE):TE:=λσ H Q=>ta σ H λx b=>tb σ b λy c=>r x y c λz a=>Ex1 λk=>An2 (z=.bl k) ((if k=true then tc σ a λf d=>e y f d Q else Q (.bl false) a))
def uH{i f:CmpOp}{r n:R2}(G:OpR X (compareOp i) r)(g:OpR X (compareOp f) n)(C:PE X a ta)(D:PE X b tb)(E:PE X c tc)
    (F:lastMarks [i,f] [b,c]=false:=by with_unfolding_all rfl):PE X (.Compare a [i,f] [b,c] pos) (K5 r n ta tb tc):=by
  intro π s σ H Q I h;refine Compare_chain (thn (C π s σ H _ I h) fun v P ⟨x,p,w,M,J⟩=>chain_link (thn (D π P σ p _ w J) fun u R ⟨y,q,A,o,K⟩=>
    thn (G π R σ q x y v u _ A M o K) λd S ⟨z,j,l,N,k,e,m⟩=>?_)) F
  subst e;cases N;refine mj ?_;cases k with
  |false=>exact ite_ff ⟨.bl false,j,l,rfl,m⟩
  |true=>exact ite_tt (chain_last (thn (E π S σ j _ l m) λU T ⟨V,t,B,O,L⟩=>g π T σ t y V u U Q B o O L))
def vF{i f:CmpOp}{r n:R2}(M:OpR X (compareOp i) r)(g:OpR X (compareOp f) n)(G:PE X a ta)(J:PE X b tb)(K:PE X c tc)
    (L:lastMarks [i,f] [b,c]=false:=by with_unfolding_all rfl):PT X (.Compare a [i,f] [b,c] pos) (Kr (K5 r n ta tb tc)):=by
  intro π s σ H Q I h;refine isTrue_chain (thn (G π s σ H _ I h) fun v Y ⟨x,p,A,T,O⟩=>test_link (thn (J π Y σ p _ A O) fun u Z ⟨y,q,B,o,P⟩=>
    thn (M π Z σ q x y v u _ B T o P) λd s3 ⟨z,j,l,U,k,e,m⟩=>?_)) L
  subst e;cases U;refine mj ?_;cases k with
  |false=>obtain⟨k',E,N⟩:=m;cases E;exact ite_ff ⟨j,l,N⟩
  |true=>refine ite_tt (test_last (thn (K π s3 σ j _ l m) λw' s4 ⟨z',t,C,V,R⟩=>thn (g π s4 σ t y z' u w' _ C o V R) λd' s5 ⟨z2,w,D,W,k2,F,S⟩=>?_));subst F;cases W;exact mj ⟨w,D,S⟩
abbrev K6(K:W.Frag)(x:V)(H:Hp)(k:Bool):Prop:=
 match x with
 |.non=>k=false
 |.bl b=>k=b
 |.int i=>k=(i != 0)
 |.str y=>y.length<=sizeLine/\k=((y.length:Int) != 0)
 |.byt y=>y.size<=sizeLine/\k=((y.size:Int) != 0)
 |.ref p=>(∃a,SqL K H p a/\k= !a.isEmpty)\/(∃a,SqT K H p a/\k= !a.isEmpty)\/∃kvs,H p=some (.dK kvs)/\k= !kvs.isEmpty
 |_=>False
def zdX{κ:Type}{kvs:List (κ×V)}{vs:List (κ×Value)}(r:KV kvs vs):(!vs.isEmpty)= !kvs.isEmpty:=by
 cases r<;>rfl
def V8{b:List V}{a:List Value}(r:Vals b a):(!a.toArray.isEmpty)= !b.isEmpty:=by
 cases r<;>simp
def qi:(sizeLine:Nat)<2 ^ 63:=by rw[lI];decide
def zmd:zpn X (λx H Q=>∃k,K6 X.K x H k/\Q k H):=by
 intro π s σ H x v Q I f h;obtain⟨k,e,q⟩:=h;have n:=qi;have o:sizeLine= 16777216:=lI;cases x with
 |non=>cases f;have a:k=false:=e;subst a;exact truthy_none ⟨H,I,q⟩
 |bl b=>cases f;have a:k=b:=e;subst a;exact mj ⟨H,I,q⟩
 |int i=>obtain⟨t,rfl⟩:=f;have a:k=(i != 0):=e;subst a;exact PySem.P.truthy_int ⟨H,I,q⟩
 |str y=>obtain⟨t,rfl⟩:=f;obtain⟨l,a⟩:y.length<=sizeLine/\k=((y.length:Int) != 0):=e;subst a;exact PySem.P.truthy_str ⋯ ⟨H,I.tok _,q⟩
 |byt y=>obtain⟨t,rfl⟩:=f;obtain⟨l,a⟩:y.size<=sizeLine/\k=((y.size:Int) != 0):=e;subst a;exact PySem.W.truthy_bytes ⋯ ⟨H,I.tok _,q⟩
 |ref p=>
  cases f;have a:(∃d,SqL X.K H p d/\k= !d.isEmpty)\/(∃d,SqT X.K H p d/\k= !d.isEmpty)\/∃kvs,H p=some (.dK kvs)/\k= !kvs.isEmpty:=e;rcases a with⟨d,hx,a⟩|⟨d,hx,a⟩|⟨kvs,hx,a⟩
  .subst a;obtain⟨g,r,pl,hz⟩:=I.list hx;have c:=r.length;exact wpAny_truthy_list pl.isList (by simp only[lC];lia) ⟨H,I.tok _,by rw[V8 r];exact q⟩
  .subst a;obtain⟨g,r,pl,hz⟩:=I.tuple hx;have c:=r.length;exact truthy_tuple pl (by simp only[lC];lia) ⟨H,I.tok _,by rw[V8 r];exact q⟩
  .subst a;obtain⟨hz,j,vs,r,m⟩:kvs.length<=sizeLine/\(p==sysModules)=false/\∃vs,KV kvs vs/\s.heap.DictOf (zK X.prog X.w) p vs:=I.hok p _ hx;have c:kvs.length=vs.length:=lJ r;exact wpAny_truthy_dict j m ⋯ ⟨H,I.tok _,by rw[zdX r];exact q⟩
 |_=>exact(show False from e).elim
def zhL(e:PE X a ta)(f:∀whole,isTrue a X.env whole=(do let v<-whole;standAt a.pos;holding [v] (truthy v))) :
  PT X a (λσ H Q=>ta σ H λx b=>∃k,K6 X.K x b k/\Q k b):=by
 intro π s σ H Q I h;exact isTrue_plain (thn (e π s σ H _ I h) λv j ⟨x,c,d,i,g⟩=>zmd π j σ c x v Q d i g) (f _)
def zq:OpR X (binaryOp .Add) (λx y H Q=>∃i j,x=.str i/\y=.str j/\i.length+j.length<=sizeLine/\Q (.str (i++j)) H):=by
 intro π s σ H x y v u Q I a b h;obtain⟨i,j,rfl,rfl,hz,q⟩:=h;obtain⟨t,rfl⟩:=a;obtain⟨t',rfl⟩:=b;exact add_str (λt' c=>⟨.str (i++j),H,I.tok _,⟨_,rfl⟩,q⟩) hz
def Zp{x:V}(r:Vals [x] us):∃u,us=[u]/\RelV x u:=by
 cases r with
 |cons r1 r2=>cases r2;exact⟨_,rfl,r1⟩
def zjD{x y:V}(r:Vals [x,y] us):∃u w',us=[u,w']/\RelV x u/\RelV y w':=by
 cases r with
 |cons r1 r2=>
  cases r2 with
  |cons r3 r4=>cases r4;exact⟨_,_,rfl,r1,r3⟩
def Z6(b:X.calm=true):yj X (.builtin "max") (λa H Q=>∃i j,a=[.int i,.int j]/\Q (.int (if j>i then j else i)) H):=by
 intro π s σ H a us Q I r h;obtain⟨i,j,rfl,q⟩:=h;obtain⟨u,d,rfl,⟨t,rfl⟩,⟨t',rfl⟩⟩:=zjD r;refine max_two_ints (I.ok.hd b) λh' c k=>⟨_,H,I.kept k,?_,q⟩;by_cases hj:j>i
 .rw[l9 hj,l9 hj];exact⟨_,rfl⟩
 .rw[l7 hj,l7 hj];exact⟨_,rfl⟩
def jS(b:X.calm=true):yj X (.builtin "min") (λa H Q=>∃i j,a=[.int i,.int j]/\Q (.int (if j<i then j else i)) H):=by
 intro π s σ H a us Q I r h;obtain⟨i,j,rfl,q⟩:=h;obtain⟨u,d,rfl,⟨t,rfl⟩,⟨t',rfl⟩⟩:=zjD r;refine min_two_ints (I.ok.hd b) λh' c k=>⟨_,H,I.kept k,?_,q⟩;by_cases hj:j<i
 .rw[l9 hj,l9 hj];exact⟨_,rfl⟩
 .rw[l7 hj,l7 hj];exact⟨_,rfl⟩
def K7:yj X (.type "str") (λa H Q=>∃i,a=[.int i]/\i.natAbs.log2<1920/\Q (.str (toString i)) H):=by
 intro π s σ H a us Q I r h;obtain⟨i,rfl,hz,q⟩:=h;obtain⟨u,rfl,t,rfl⟩:=Zp r;exact PySem.P.str_of_int hz ⟨.str _,H,I.tok _,⟨_,rfl⟩,q⟩
end
structure ObjM (h:Heap) (x dx C:Addr) (mA:Str->Option Value):Prop where
 obj:h.get? x=some (PySem.W.instObj C dx)
 ns:h.Ns1 dx mA
 ne:dx≠x
def zfW{c:Str->Option Value}(n:h.Ns1 dx c):∃d,h.get? dx=some d/\∀name,PySem.W.lookIn name d=some (c name):=by
 obtain⟨o,es,ep,k,g,i,_,j⟩:=n;refine⟨o,k,λname=>?_⟩;have e:=j name;unfold nsFind findBy at e;rw[<-Array.find?_toList]at e;unfold PySem.W.lookIn;rw[g];dsimp only;split
 .rename_i y q;rw[q]at e;exact mH some e
 .rename_i q;rw[q]at e;have a:es.toList.any (·.refKey)=false:=by
   rw[List.any_eq_false];intro y l;obtain⟨z,t,b⟩:=i y (pp.mp l);simp[DictEntry.refKey,b]
  have f:¬es.toList.any (·.refKey)=true:=by rw[a];exact lN
  rw[l7 f];exact mH some e
def ObjM.look{x:Addr}{b:Str->Option Value}(I:ObjM h x dx C b):∃a,PySem.W.InstAt h x (PySem.W.instObj C dx) C (some a)/\∀name,PySem.W.lookIn name a=some (b name):=
 let⟨a,ho,hl⟩:=zfW I.ns
 ⟨a,⟨I.obj,rfl,rfl,ho⟩,hl⟩
section
variable {x:Addr}{mA:Str->Option Value}{name:Str}{v:Value}
def zkm{a:Bool}(X:K.In s.heap)(I:ObjM s.heap x dx C mA)(d:W.plainGet K C name=true)(e:W.hasDictIn K C=true)
  (c:W.findIn K (.ref C) name=some none)(g:mA name=some v)(b:PySem.W.handedIn v=true)(h:Q v { s with toks:=s.toks+1 }) :
  wpAny (model prog w) A (getAttr (.ref x) name a) Q E s:=by
 obtain⟨i,J,f⟩:=I.look;exact PySem.W.get_value X J (pI d).1 (PySem.W.findObj_own e c rfl (by rw[f,g])) b h
def zhM{pl:Sem Bool}{Q:Value×List Value->Shared->Prop}(X:K.In s.heap)(I:ObjM s.heap x dx C mA)(a:W.plainGet K C name=true)
  (b:W.findIn K (.ref C) name=some (some (.ref f)))(d:W.isFn K (.ref f)=true)(e:mA name=none)(h:Q (.ref f,[.ref x]) s) :
  wpAny (model prog w) A (getMethod (.ref x) name pl) Q E s:=by
 obtain⟨g,J,c⟩:=I.look;exact PySem.W.method_fn X J (pI a).1 (pI a).2 b (oj.mp d) (by show(PySem.W.lookIn name g).map (·.isSome)=some false;rw[c,e];rfl) h
def zkn{ns:List Str}{Q:Unit->Shared->Prop}(X:K.In s.heap)(I:ObjM s.heap x dx C mA)
  (o:W.findIn K (.ref C) "__setattr__" =some (some (.builtin "object.__setattr__")))(n:W.plainOver K C=true)(p:PySem.W.takerIn K C name=some none)(m:W.hasDictIn K C=true)
  (q:PySem.Within mA ns)(hsz:ns.length<=sizeLine)
  (h:∀h',ObjM h' x dx C (λy=>if y=name then some v else mA y)->Heap.SameBut dx s.heap h'->Q () { s with heap:=h',toks:=s.toks+2 }) :
  wpAny (model prog w) A (setAttr (.ref x) name v) Q E s:=by
 obtain⟨B,J,u⟩:=I.look;refine PySem.W.set_plain X J o (PySem.W.osa_open (s:={ s with toks:=s.toks+1 }) (r:=none) X J n p λb=>?_);obtain⟨t,l,f⟩:=PySem.W.any_some m;have hx:s.heap.get? x=some ⟨.ref C,some dx,.plain,#[]⟩:=I.obj;refine l6 (lz (l6 (l6 (wpAny_loadPart hx (l6 (PySem.W.Looks.here (s:={ s with toks:=s.toks+1 }) (PySem.W.looks_clsIn X l) ?_))))));rw[f];refine lz (a:=some dx) (l6 (lz (l6 ?_)));refine wpAny_nsSet1 (s:={ s with toks:=s.toks+1 }) I.ns λh' c d=>?_;obtain⟨z,k,j,i,g,e⟩:=c.count (PySem.Within.cons name v q);refine l6 (wpAny_lookBehind i (by rw[g];exact pastItsLine_dict (m7 e (by rw[lQ];lia))) ?_);exact lz (h _ ⟨(d.2 _ (Ne.symm I.ne)).trans I.obj,c,I.ne⟩ d)
def zhN{R:Result->Shared->Prop}{vs:List Value}{b:List (Str×Value)}(X:K.In s.heap)(i:W.makesIn K C=true)
    (e:W.findIn K (.ref C) "__init__" =some (some (.ref f)))(c:PySem.W.typeIn K (.ref f)=some (.type "function"))
    (h:codeAny (model prog w) (A.under (.builtin "type.__call__" ⟨.ref C :: vs,b⟩)) (.call (.ref f) ⟨.ref (s.heap.objs.size+1) :: vs,b⟩) (PySem.W.InitBack (s.heap.objs.size+1) R)
      { s with heap:=(s.heap.push PySem.W.emptyDict).push (PySem.W.instObj C s.heap.objs.size) }) :
    codeAny (model prog w) A (.call (.ref C) ⟨vs,b⟩) R s:=by
  obtain⟨j,g,d,t,os⟩:=s;exact PySem.W.make_core (PySem.W.makes_of X i) (PySem.W.looks_findIn X e) (λa=>PySem.W.bind_fn X a c) (.inl rfl) h
def zfX{R:Result->Shared->Prop}(X:K.In s.heap)(e:W.makesIn K C=true)
    (c:W.findIn K (.ref C) "__init__" =some (some (.builtin "object.__init__")))
    (b:∀a,PySem.W.Looks (model prog w) s.heap (bindSpecial (.builtin "object.__init__") a) (.builtin "object.__init__",[a]))
    (h:codeAny (model prog w) (A.under (.builtin "type.__call__" ⟨[.ref C],[]⟩)) (.call (.builtin "object.__init__") ⟨[.ref (s.heap.objs.size+1)],[]⟩) (PySem.W.InitBack (s.heap.objs.size+1) R)
      { s with heap:=(s.heap.push PySem.W.emptyDict).push (PySem.W.instObj C s.heap.objs.size) }) :
    codeAny (model prog w) A (.call (.ref C) ⟨[],[]⟩) R s:=by
  obtain⟨f,g,d,t,os⟩:=s;exact PySem.W.make_core (PySem.W.makes_of X e) (PySem.W.looks_findIn X c) b (.inr ⟨rfl,rfl⟩) h
end
abbrev xL(f:Str)(v:V):List (Str×V)->List (Str×V)
 |[]=>[(f,v)]
 |(g,x)::r=>if g=f then(g,v)::r else(g,x)::xL f v r
def XE(f g:Str)(v:V):∀fs:List (Str×V),(xL f v fs).lookup g=if g=f then some v else fs.lookup g
 |[]=>by
  show List.lookup g [(f,v)]=_;by_cases h:g=f
  .have a:(g==f)=true:=oj.mpr h;simp only[List.lookup,a,l9 h]
  .have a:(g==f)=false:=mM.mpr h;simp only[List.lookup,a,l7 h]
 |(k,x)::r=>by
  have b:=XE f g v r;rw[show xL f v ((k,x)::r)=(if k=f then(k,v)::r else(k,x)::xL f v r)from rfl];by_cases hk:k=f
  .rw[l9 hk];by_cases h:g=k
   .have a:(g==k)=true:=oj.mpr h;simp only[List.lookup,a,l9 (h.trans hk)]
   .have a:(g==k)=false:=mM.mpr h;simp only[List.lookup,a,l7 (λe:g=f=>h (e.trans hk.symm))]
  .rw[l7 hk];by_cases h:g=k
   .have a:(g==k)=true:=oj.mpr h;simp only[List.lookup,a,l7 (λe:g=f=>hk (h.symm.trans e))]
   .have a:(g==k)=false:=mM.mpr h;simp only[List.lookup,a];exact b
def Z7(f:Str)(v:V):∀fs:List (Str×V),f∈(xL f v fs).map (·.1)/\∀g,g∈fs.map (·.1)->g∈(xL f v fs).map (·.1)
 |[]=>⟨by simp[xL],λg h=>by simp at h⟩
 |(k,x)::r=>by
  obtain⟨a,b⟩:=Z7 f v r;rw[show xL f v ((k,x)::r)=(if k=f then(k,v)::r else(k,x)::xL f v r)from rfl];by_cases hk:k=f
  .rw[l9 hk];subst hk;exact⟨m!"",λg h=>by simpa using h⟩
  .rw[l7 hk];refine⟨?_,λg h=>?_⟩
   .rw[lG];exact lg _ a
   .rw[lG]at h ⊢;rcases lu.mp h with e|e
    .exact lu.mpr (.inl e)
    .exact lg _ (b g e)
def XF(f:Str)(v:V):∀fs:List (Str×V),(xL f v fs).length<=fs.length+1
 |[]=>by simp[xL]
 |(k,x)::r=>by
  have a:=XF f v r;rw[show xL f v ((k,x)::r)=(if k=f then(k,v)::r else(k,x)::xL f v r)from rfl];by_cases hk:k=f
  .rw[l9 hk,lQ,lQ];lia
  .rw[l7 hk,lQ,lQ];lia
def vg.some_of{v:V}{o:Option Value}(r:vg (some v) o):∃u,o=some u/\RelV v u:=by
 cases o with
 |none=>exact(show False from r).elim
 |some u=>exact⟨u,rfl,r⟩
def vg.none_of{o:Option Value}(r:vg none o):o=none:=by
 cases o with
 |none=>rfl
 |some u=>exact(show False from r).elim
def zfY{v:V}(r:RelV v u):PySem.W.handedIn u=true:=by
 cases v with
 |non=>cases(show u=Value.none from r);rfl
 |bl b=>cases(show u=Value.bool b from r);rfl
 |int i=>obtain⟨t,e⟩:=(show ∃t,u=Value.int i t from r);cases e;rfl
 |str x=>obtain⟨t,e⟩:=(show ∃t,u=Value.str x t from r);cases e;rfl
 |byt b=>obtain⟨t,e⟩:=(show ∃t,u=Value.bytes b t from r);cases e;rfl
 |flt b=>obtain⟨t,e⟩:=(show ∃t,u=Value.float b t from r);cases e;rfl
 |ref a=>cases(show u=Value.ref a from r);rfl
 |ty n=>cases(show u=Value.type n from r);rfl
section
variable {H H':Hp}{h':Heap}{fs fs':List (Str×V)}
def Xa(c:HOk P w H h)(e:H a=some (.ins C dx fs)):∃b,ObjM h a dx C b/\(∀f,vg (fs.lookup f) (b f))/\PySem.Within b (fs.map (·.1))/\fs.length<=1000/\H dx=some (.own a):=by
 obtain⟨d,z,g,i,b,n,r,q⟩:=(show zN P w H h a (.ins C dx fs)from c a _ e);exact⟨b,⟨i,n,g⟩,r,q,z,d⟩
end
structure Cls (K:W.Frag) (C:Addr):Prop where
 pg:W.plainGet K C Str.empty=true
 hd:W.hasDictIn K C=true
 po:W.plainOver K C=true
 sa:W.findIn K (.ref C) "__setattr__" =some (some (.builtin "object.__setattr__"))
def Cls.get(c:Cls K C)(f:Str):W.plainGet K C f=true:=c.pg
abbrev NoAttr(K:W.Frag)(C:Addr)(f:Str):Prop:=W.findIn K (.ref C) f=some none
def NoAttr.taker{f:Str}(n:NoAttr K C f):PySem.W.takerIn K C f=some none:=by
 unfold PySem.W.takerIn;rw[show W.findIn K (.ref C) f=some none from n];rfl
structure Meth (K:W.Frag) (C:Addr) (m:Str) (f:Addr):Prop where
 at_:W.findIn K (.ref C) m=some (some (.ref f))
 fn:W.isFn K (.ref f)=true
 kp:W.keepIn K (.ref f)=true
section
variable {X:Cx}{σ:St}{H:Hp}{fs:List (Str×V)}{f:Str}{v:V}
def zdY{b:Bool}(I:Inv X π σ H s)(e:H a=some (.ins C dx fs))(c:Cls X.K C)(n:NoAttr X.K C f)(l:fs.lookup f=some v)
  (h:∀u s',Inv X π σ H s'->RelV v u->Q u s'):wpAny (model X.prog X.w) A (getAttr (.ref a) f b) Q E s:=by
 obtain⟨i,O,r,_,_,_⟩:=Xa I.hok e;obtain⟨u,g,d⟩:=vg.some_of (v:=v) (o:=i f) (by rw[<-l];exact r f);exact zkm I.kIn O (c.get f) c.hd n g (zfY d) (h u _ (I.tok _) d)
def V9{m:Str}{g:Addr}{pl:Sem Bool}{Q:Value×List Value->Shared->Prop}(I:Inv X π σ H s)(e:H a=some (.ins C dx fs))(c:Cls X.K C)(k:Meth X.K C m g)(l:fs.lookup m=none)
  (h:Q (.ref g,[.ref a]) s):wpAny (model X.prog X.w) A (getMethod (.ref a) m pl) Q E s:=by
 obtain⟨d,O,r,_,_,_⟩:=Xa I.hok e;have b:d m=none:=vg.none_of (by rw[<-l];exact r m);exact zhM I.kIn O (c.get m) k.at_ k.fn b h
def zdZ{y:V}{Q:Unit->Shared->Prop}(I:Inv X π σ H s)(e:H a=some (.ins C dx fs))(c:Cls X.K C)(n:NoAttr X.K C f)(B:fs.length<1000)(t:RelV y u)
  (h:∀s',Inv X π σ (upd H a (.ins C dx (xL f y fs))) s'->Q () s'):wpAny (model X.prog X.w) A (setAttr (.ref a) f u) Q E s:=by
 obtain⟨j,O,r,k,_,i⟩:=Xa I.hok e;have hz:(fs.map (·.1)).length<=sizeLine:=by rw[l8,lI];lia
 refine zkn I.kIn O c.sa c.po n.taker c.hd k hz λh' d v=>h _ ?_;have m:∃o,h'.get? dx=some o:=let⟨o,_,_,e',_⟩:=d.ns;⟨o,e'⟩;refine I.write (x:=a) (e:=dx) (by rw[e];exact True.intro) (.inr i) (λb q l z=>(v.2 b l).trans z) m ?_;refine⟨by rw[zi O.ne];exact i,?_,O.ne,d.obj,_,d.ns,λg=>?_,λg p=>?_⟩
 .have:=XF f y fs;lia
 .show vg ((xL f y fs).lookup g) (if g=f then some u else j g);rw[XE];by_cases q:g=f
  .rw[l9 q,l9 q];exact t
  .rw[l7 q,l7 q];exact r g
 .by_cases q:g=f
  .rw[q];exact(Z7 f y fs).1
  .refine(Z7 f y fs).2 g (k g λz=>p ?_);show(if g=f then some u else j g)=none;rw[l7 q];exact z
def Inv.made(I:Inv X π σ H s):Inv X π σ (upd (upd H s.heap.objs.size (.own (s.heap.objs.size+1))) (s.heap.objs.size+1) (.ins C s.heap.objs.size []))
  { s with heap:=(s.heap.push PySem.W.emptyDict).push (PySem.W.instObj C s.heap.objs.size) }:=by
 have c:(s.heap.push PySem.W.emptyDict).get? s.heap.objs.size=some PySem.W.emptyDict:=lL s.heap rfl;have g:((s.heap.push PySem.W.emptyDict).push (PySem.W.instObj C s.heap.objs.size)).get? (s.heap.objs.size+1)=some (PySem.W.instObj C s.heap.objs.size):=by have:=lL (s.heap.push PySem.W.emptyDict) (o:=PySem.W.instObj C s.heap.objs.size) rfl;rwa[pN]at this
 have h:(s.heap.push PySem.W.emptyDict).Ns s.heap.objs.size (λ_=>none):=⟨PySem.W.emptyDict,#[],_,c,rfl,(λe i=>absurd i m!""),λ_=>rfl⟩;have f:=I.laid (a:=s.heap.objs.size) (o:=.own (s.heap.objs.size+1)) (h':=s.heap.push PySem.W.emptyDict) (t':=s.toks) (λb u q=>li _ q) (ll _) ⟨_,c⟩;refine f.laid (a:=s.heap.objs.size+1) (o:=.ins C s.heap.objs.size []) (t':=s.toks) (λb u q=>li _ q) (Nat.le_of_eq (pN _ _)) ?_;have d:s.heap.objs.size≠s.heap.objs.size+1:=lK (oV _);refine⟨by rw[zi d,zu],lY _,d,g,λ_=>none,(Heap.Ns1.of_empty h).at λo q=>li _ q,λ_=>True.intro,λy j=>absurd rfl j⟩
def zko{a:Env}{f:Str}(c:attributeBase e f a (eval e a)=eval e a)
  (h:wpAny (model prog w) A (eval e a) (λo b=>wpAny (model prog w) A (getAttr o f true) Q E b) E s):wpAny (model prog w) A (eval (.Attribute e f pos) a) Q E s:=
 Attribute_any_ h (by rw[arm_eval_Attribute,c])
end
abbrev zd0(K:W.Frag)(c:TE)(f:Str):TE:=λσ H Q=>c σ H λx b=>Ex5 λa C dx fs v=>An6 (x=.ref a) (b a=some (.ins C dx fs)) (Cls K C) (NoAttr K C f) (fs.lookup f=some v) (Q v b)
abbrev zd1(K:W.Frag)(d e:TE)(f:Str):TS:=λD σ H=>e σ H λy c=>d σ c λx b=>Ex4 λa C dx fs=>An6 (x=.ref a) (b a=some (.ins C dx fs)) (Cls K C) (NoAttr K C f) (fs.length<1000) (D.nx σ (upd b a (.ins C dx (xL f y fs))))
section
variable {X:Cx}{o value:Expr}{f:Str}{pos' tpos:Pos}{ta tv:TE}
def zme(m:PE X e ta)(k:attributeBase e f X.env (eval e X.env)=eval e X.env):PE X (.Attribute e f pos) (zd0 X.K ta f):=by
 intro π s σ H Q I h;refine zko k (thn (m π s σ H _ I h) λu r ⟨x,b,d,p,a,C,dx,fs,v,j,i,c,n,l,q⟩=>?_);subst j;obtain rfl:u=Value.ref a:=p;exact zdY d i c n l λw t g o=>⟨v,b,g,o,q⟩
def zmf(k:PE X o ta)(p:PE X value tv)(m:swapsWith value (some (.Attribute o f pos')) pos.line X.env=pure false):PS X (.Assign [.Attribute o f pos'] value pos) (zd1 X.K ta tv f):=by
 intro π s σ H D I h;refine plainObj_wpAny_Assign_Attribute (thn (p π s σ H _ I h) λu z ⟨y,b,d,w,q⟩=>thn (k π z σ b _ d q) λr B ⟨x,A,e,v,a,C,dx,fs,j,i,c,n,l,t⟩=>?_) m;subst j;obtain rfl:r=Value.ref a:=v;exact zdZ e i c n l w λE g=>⟨σ,_,g,t⟩
end
section
variable {X:Cx}{σ:St}{H:Hp}{c:Value}{b:Bool}
inductive TyOf (K:W.Frag) (H:Hp):V->Value->Prop where
 |non:TyOf K H .non (.type "NoneType")
 |bl (x:Bool):TyOf K H (.bl x) (.type "bool")
 |int (i:Int):TyOf K H (.int i) (.type "int")
 |str (x:Str):TyOf K H (.str x) (.type "str")
 |flt (x:UInt64):TyOf K H (.flt x) (.type "float")
 |lst {a:Addr}{b:List V}(e:H a=some (.lst b)):TyOf K H (.ref a) (.type "list")
 |frz {a:Addr}{o:Obj}{b:List V}(e:H a=some (.frz o (.lst b))):TyOf K H (.ref a) (.type "list")
 |tup {a:Addr}{b:List V}(e:H a=some (.tup b)):TyOf K H (.ref a) (.type "tuple")
 |dK {a:Addr}{kvs:List (Key×V)}(e:H a=some (.dK kvs)):TyOf K H (.ref a) (.type "dict")
 |dT {a:Addr}{kvs:List (List Key×V)}(e:H a=some (.dT kvs)):TyOf K H (.ref a) (.type "dict")
 |ins {a C dx:Addr}{fs:List (Str×V)}(e:H a=some (.ins C dx fs)) (d:Cls K C) (f:W.findIn K (.ref C) "__class__" =some (some (.builtin "object.__class__")))
   (h:W.specialIn K (.builtin "object.__class__") "__get__" =some (some (.builtin "getset_descriptor.__get__"))) (c:W.takesIn K (.builtin "object.__class__")=some true)
   (g:W.mroIn K C (.type "object")=some true):TyOf K H (.ref a) (.ref C)
def zfZ{x:V}{t:Value}(I:Inv X π σ H s)(d:RelV x u)(l:TyOf X.K H x t)(e:W.kitOne X.K t c=some b)(h:∀k,Q (.bool b) { s with toks:=k }) :
  wpAny (model X.prog X.w) A (call (.builtin "isinstance") [u,c]) Q E s:=by
 cases l with
 |non=>cases(show u=Value.none from d);exact mE PySem.W.kitx_none I.kIn True.intro e (λz=>nomatch z) h
 |bl y=>cases(show u=Value.bool y from d);exact mE PySem.W.kitx_bool I.kIn True.intro e (λz=>nomatch z) h
 |int i=>obtain⟨t,q⟩:=(show ∃t,u=Value.int i t from d);cases q;exact mE PySem.W.kitx_int I.kIn True.intro e (λz=>nomatch z) h
 |str y=>obtain⟨t,q⟩:=(show ∃t,u=Value.str y t from d);cases q;exact mE PySem.W.kitx_str I.kIn True.intro e (λz=>nomatch z) h
 |flt y=>obtain⟨t,q⟩:=(show ∃t,u=Value.float y t from d);cases q;exact mE PySem.W.kitx_float I.kIn True.intro e (λz=>nomatch z) h
 |@lst a g ea=>cases(show u=Value.ref a from d);obtain⟨_,_,n,_,f⟩:=(show zN X.prog X.w H s.heap a (.lst g)from I.hok a _ ea);exact mE PySem.W.kitx_list I.kIn ⟨_,f,rfl⟩ e (λz=>nomatch z) h
 |@frz a ob g ea=>cases(show u=Value.ref a from d);obtain⟨_,_,_,n,_,f⟩:=(show zN X.prog X.w H s.heap a (.frz ob (.lst g))from I.hok a _ ea);exact mE PySem.W.kitx_list I.kIn ⟨_,f,rfl⟩ e (λz=>nomatch z) h
 |@tup a g ea=>cases(show u=Value.ref a from d);obtain⟨_,_,_,p⟩:=(show zN X.prog X.w H s.heap a (.tup g)from I.hok a _ ea);obtain⟨o,f,j,_⟩:=p;exact mE PySem.W.kitx_tuple I.kIn ⟨o,f,j⟩ e (λz=>nomatch z) h
 |@dK a kvs ea=>cases(show u=Value.ref a from d);obtain⟨_,_,vs,_,p⟩:=(show zN X.prog X.w H s.heap a (.dK kvs)from I.hok a _ ea);obtain⟨o,es,ep,f,j,_⟩:=p;exact mE PySem.W.kitx_dict I.kIn ⟨o,f,j.1⟩ e (λz=>nomatch z) h
 |@dT a kvs ea=>cases(show u=Value.ref a from d);obtain⟨_,_,g,_,o,es,ep,f,j,_⟩:=(show zN X.prog X.w H s.heap a (.dT kvs)from I.hok a _ ea);exact mE PySem.W.kitx_dict I.kIn ⟨o,f,j.1⟩ e (λz=>nomatch z) h
 |@ins a C dx fs ea cl ha hn htk hm=>cases(show u=Value.ref a from d);obtain⟨m,O,_⟩:=Xa I.hok ea;obtain⟨r,J,_⟩:=O.look;exact mE (PySem.W.kitx_own (cl.get _) cl.hd ha hn htk hm) I.kIn J e (λz=>nomatch z) h
end
structure Room (k:Nat) (A:Around):Prop where
 hd:A.handled=none
 dp:A.depth+3*k+5<recursionLimit
 un:A.units+16*k+200<cLine
 gd:A.guards=some []
def Room.mono{j k:Nat}(r:Room k A)(h:j<=k):Room j A:=⟨r.hd,by have:=r.dp;lia,by have:=r.un;lia,r.gd⟩
def Room.deeper{k:Nat}(r:Room (k+1) A)(a:Env):Room k (A.deeper a):=
 ⟨r.hd,by have:=r.dp;show A.depth+1+3*k+5<_;lia,by have:=r.un;show A.units+3+16*k+200<_;lia,r.gd⟩
def zd2{a:List (Str×Value)}:(A.under (.builtin "type.__call__" ⟨.ref C::us,a⟩)).depth=A.depth+1:=by
 first|rfl|simp[Around.under,Code.weight,Code.isCreation,Code.isGuard,Code.isCaller,Code.frames,Code.isFrame,guardIds]
def zd3{a:List (Str×Value)}:(A.under (.builtin "type.__call__" ⟨.ref C::us,a⟩)).units=A.units+1:=by
 first|rfl|simp[Around.under,Code.cUnits,Code.frames,Code.isFrame]
def zct{a:List (Str×Value)}:(A.under (.builtin "type.__call__" ⟨.ref C::us,a⟩)).guards=A.guards:=by
 first|rfl|simp[Around.under,Code.guards,Code.isGuard,guardIds,pushGuards]
def Room.make{k:Nat}(r:Room (k+1) A)(C:Addr)(us:List Value)(a:List (Str×Value)):Room k (A.under (.builtin "type.__call__" ⟨.ref C::us,a⟩)):=
 ⟨r.hd,by have:=r.dp;rw[zd2];omega,by have:=r.un;rw[zd3];omega,by rw[zct];exact r.gd⟩
def Room.depth{k:Nat}(r:Room k A):A.depth<recursionLimit:=by have:=r.dp;omega
def Room.units{k:Nat}(r:Room k A):A.units+64<cLine:=by have:=r.un;lia
abbrev Zq:TA:=λ_ H Q=>Q [] H
abbrev Xb(c:TE)(d:TA):TA:=λσ H Q=>c σ H λx a=>d σ a λe b=>Q (x::e) b
section
variable {X:Cx}{te:TE}{t:TA}
def zmg:PA X [] Zq:=λ_ _ _ _ H Q I h=>Calls.spliced_nil ⟨[],H,I,.nil,h⟩
def zkp(f:PE X e te)(g:PA X es t)(i:starEach (e::es) X.env=(false,eval e X.env)::starEach es X.env:=by rfl):PA X (e::es) (Xb te t):=by
 intro pos π s σ H Q I h;rw[i];show wpAny _ _ (spliced ((false,eval e X.env)::backTo pos (starEach es X.env))) _ _ s;refine pT (thn (f π s σ H _ I h) λu n ⟨x,a,c,l,j⟩=>?_);exact thn (g pos π n σ a _ c j) λus p ⟨o,b,d,m,k⟩=>⟨x::o,b,d,.cons l m,k⟩
abbrev zd4(t:TA):TE:=λσ H Q=>t σ H λb a=>b.length<=sizeLine/\∀p,a p=none->Q (.ref p) (upd a p (.tup b))
abbrev K8(t:TA):TE:=λσ H Q=>t σ H λb a=>b.length<=sizeLine/\∀p,a p=none->Q (.ref p) (upd a p (.lst b))
def zf0{x1}(h:PA X es t):PE X (.Tuple es x1 pos) (zd4 t):=by
 intro π s σ H Q I g;refine wpAny_Tuple_spliced (thn (h pos π s σ H _ I g) λus a ⟨i,c,d,r,z,q⟩=>⟨by rw[<-r.length];exact z,?_⟩);have f:c a.heap.objs.size=none:=d.hok.fresh (ll _);refine⟨.ref a.heap.objs.size,upd c a.heap.objs.size (.tup i),d.laid (t':=a.toks) (λb u e=>li _ e) (ll _) ?_,rfl,q _ f⟩;exact⟨z,us,r,⟨_,lL _ rfl,rfl,_,rfl⟩⟩
def zf1(h:PA X es t):PE X (.List es pos) (K8 t):=by
 intro π s σ H Q I g;refine wpAny_List_spliced (thn (h pos π s σ H _ I g) λus a ⟨i,c,d,r,z,q⟩=>⟨by rw[<-r.length];exact z,?_⟩);have f:c a.heap.objs.size=none:=d.hok.fresh (ll _);refine⟨.ref a.heap.objs.size,upd c a.heap.objs.size (.lst i),d.laid (t':=a.toks) (λb u e=>li _ e) (ll _) ?_,rfl,q _ f⟩;exact⟨z,us,0,r,lL _ rfl⟩
end
/---/abbrev Sp:=List V->Hp->VK->XK->Prop
/---/abbrev CXT:=List Env->Hp->Shared->XK->Value->Shared->Prop
structure Env0 (P:Program) (w:World) (K:W.Frag) (mg:Str->Option Value) (base:Heap) (A:Around) (outer:List Env) (s:Shared) (H:Hp):Prop where
 frames:A.frames=some outer
 mod:Mod K mg base
 bs:∀b o,base.get? b=some o->s.heap.get? b=some o/\H b=none
 bsz:base.objs.size<=s.heap.objs.size
 funs:s.heap.FunFrames base outer
 frf:∀b∈frs outer,H b=none
 hok:HOk P w H s.heap
 bare:AllBare s.gens
abbrev CE(a:List Env)(P:Program)(w:World)(H:Hp)(s:Shared)(Q:VK)(u:Value)(s':Shared):Prop:=
 Ex2 λv b=>An6 (s'.os=s.os) (AllBare s'.gens) (Un (frs a) [] H b s.heap s'.heap) (HOk P w b s'.heap) (RelV v u) (Q v b)
abbrev CR(b:CXT)(a:List Env)(P:Program)(w:World)(H:Hp)(s:Shared)(Q:VK)(E:XK)(r:Result)(s':Shared):Prop:=
 match r with
 |.ok (.ret u)=>CE a P w H s Q u s'
 |.ok _=>False
 |.error e=>b a H s E e s'
structure FnOk (P:Program) (w:World) (K:W.Frag) (mg:Str->Option Value) (base:Heap) (CX:CXT) (k:Nat) (f:Addr) (fd:FuncData) (ps:List Str) (sp:Sp):Prop where
 len:∀vs H Q E,sp vs H Q E->vs.length=ps.length
 run:∀(A:Around) (outer:List Env) (s:Shared) (H:Hp) (args:Args) (us:List Value) (vs:List V) (Q:VK) (E:XK),Room k A->Env0 P w K mg base A outer s H->BindsTo s fd args (ps.zip us)->Vals vs us->sp vs H Q E->
  codeAny (model P w) A (.call (.ref f) args) (CR CX outer P w H s Q E) s
def FnOk.imp{a:Heap}{d:CXT}{k:Nat}{e:List Str}{g sp':Sp}(F:FnOk P w K mg a d k f fd e g)
  (h:∀vs H Q E,sp' vs H Q E->g vs H Q E):FnOk P w K mg a d k f fd e sp':=
 ⟨λvs H Q E q=>F.len vs H Q E (h _ _ _ _ q),λA b s H c us vs Q E l j i n m=>F.run A b s H c us vs Q E l j i n (h _ _ _ _ m)⟩
def Env0.make{b:Heap}{a:List Env}{H:Hp}(e:Env0 P w K mg b A a s H)(C:Addr)(us:List Value)(c:List (Str×Value)) :
  Env0 P w K mg b (A.under (.builtin "type.__call__" ⟨.ref C::us,c⟩)) a s H:=⟨by first|exact e.frames|(simpa[Around.under,Code.envs,Code.isFrame,pushEnvs]using e.frames),e.mod,e.bs,e.bsz,e.funs,e.frf,e.hok,e.bare⟩
section
variable {X:Cx}{σ:St}{H:Hp}{s':Shared}
def Inv.env0(I:Inv X π σ H s):Env0 X.prog X.w X.K X.mg X.base X.A X.stack s H:=
 ⟨I.ok.frames,I.ok.mod,I.bs,m7 I.ok.bsz I.sz,I.stack,I.stkFree,I.hok,I.bare⟩
def Inv.after{Q:VK}(I:Inv X π σ H s)(h:CE X.stack X.prog X.w H s Q u s'):EP X π σ Q u s':=by
 obtain⟨v,f,os,a,j,c,r,q⟩:=h;obtain⟨i,g,d,t,e⟩:=s';obtain rfl:e=s.os:=os;exact⟨v,f,I.call (h':=i) (g':=g) (d':=d) (t':=t) (ch:=[]) j c a (λb z=>absurd z m!""),r,q⟩
end
abbrev Zr(c:Sp)(a:List V)(E:XK)(t:TA):TE:=λσ H Q=>t σ H λvs b=>c (vs++a) b Q E
abbrev Xc(C:Addr)(m:Str)(e:Sp)(b:List V)(E:XK)(f:TE)(t:TA):TE:=λσ H Q=>f σ H λx c=>Ex3 λa dx fs=>An4 (x=.ref a) (c a=some (.ins C dx fs)) (fs.lookup m=none) (t σ c λvs d=>e (x::(vs++b)) d Q E)
abbrev Ua(C:Addr)(d:Sp)(b:List V)(E:XK)(t:TA):TE:=λσ H Q=>t σ H λvs a=>∀x dx,a x=none->a dx=none->dx≠x->
 d (.ref x::(vs++b)) (upd (upd a dx (.own x)) x (.ins C dx [])) (λv c=>v=.non/\Q (.ref x) c) E
abbrev Binds(K:W.Frag)(fd:FuncData)(a:List Str)(ds:List Value):Prop:=
 ∀(s:Shared) (us:List Value),K.In s.heap->(us++ds).length=a.length->BindsTo s fd ⟨us,[]⟩ (a.zip (us++ds))
def Binds.all{a:List Str}(h:∀us:List Value,us.length=a.length->bindArgs fd ⟨us,[]⟩=pure (a.zip us)):Binds K fd a []:=λs us _ b=>by
 rw[mm]at b ⊢;exact .of_eq (h us b)
abbrev qj(a:CXT)(X:Cx)(E:XK):Prop:=∀(π:List (Addr×Obj)) (σ:St) (H:Hp) (s:Shared) (e:Value) (s':Shared),Inv X π σ H s->a X.stack H s E e s'->X.xe e s'
section
variable {X:Cx}{CX:CXT}{k:Nat}{ps:List Str}{sp:Sp}{dvs:List V}{ds:List Value}{E:XK}{m:Str}{p apos:Pos}{o:Expr}{ta:TE}{t:TA}
def K9{σ:St}{H:Hp}{Q:VK}{vs:List V}(F:FnOk X.prog X.w X.K X.mg X.base CX k f fd ps sp)(i:Room k X.A)(c:Binds X.K fd ps ds)(d:Vals dvs ds)(hx:qj CX X E)
  (I:Inv X π σ H s)(r:Vals vs us)(h:sp (vs++dvs) H Q E):wpAny (model X.prog X.w) X.A (call (.ref f) us) (EP X π σ Q) X.xe s:=by
 have b:Vals (vs++dvs) (us++ds):=r.append d;have g:(us++ds).length=ps.length:=by rw[<-b.length];exact F.len _ _ _ _ h
 refine wpAny_call (qE (F.run X.A X.stack s H ⟨us,[]⟩ (us++ds) (vs++dvs) Q E i I.env0 (c s us I.kIn g) b h) λr s' a=>?_);cases r with
 |error e=>exact hx π σ H s e s' I a
 |ok fl=>
  cases fl with
  |ret u=>exact I.after a
  |next=>exact False.elim a
  |brk=>exact False.elim a
  |cont=>exact False.elim a
def zkq(F:FnOk X.prog X.w X.K X.mg X.base CX k f fd ps sp)(o:Room k X.A)(l:Gl X x)(n:X.mg x=some (.ref f))(m:W.keepIn X.K (.ref f)=true)(g:Binds X.K fd ps ds)(i:Vals dvs ds)(hx:qj CX X E)
  (d:PA X (e::es) t)(a:(x==("__debug__":Str))=false:=by decide)(j:starEach (e::es) X.env=(false,eval e X.env)::starEach es X.env:=by rfl)(b:(backTo pos (starEach es X.env)).any (·.1)=false:=by rfl) :
  PE X (.Call (.Name x p) (e::es) [] pos) (Zr sp dvs E t):=by
 intro π s σ H Q I h;refine n4 (kW I l n ?_ a);refine pU (h₀:=X.base) I.ok.mod.kin m (thn (d pos π s σ H _ I h) λus v ⟨vs,u,c,r,q⟩=>⟨c.kIn,?_⟩) j b;exact K9 F o g i hx c r q
def zkr{pl:Sem Bool}(D:PE X o ta)(c:Cls X.K C)(j:Meth X.K C m f)(F:FnOk X.prog X.w X.K X.mg X.base CX k f fd ps sp)(G:Room k X.A)(z:Binds X.K fd ps ds)(B:Vals dvs ds)(hx:qj CX X E)(y:PA X (e::es) t)
    (d:starEach (e::es) X.env=(false,eval e X.env)::starEach es X.env:=by rfl)(b:(backTo pos (starEach es X.env)).any (·.1)=false:=by rfl)
    (J:eval (.Call (.Attribute o m apos) (e :: es) [] pos) X.env=(do
      let ov<-eval o X.env
      standAt apos.atName
      let(f,first)<-holding [ov] (getMethod ov m pl)
      callWith pos f first (backTo pos (starEach (e::es) X.env)) (backToKw pos (keywordEach [] X.env))):=by rfl) :
    PE X (.Call (.Attribute o m apos) (e::es) [] pos) (Xc C m sp dvs E ta t):=by
  intro π s σ H Q I h;refine PySem.W.methodCall_KW (pl:=pl) (thn (D π s σ H _ I h) λu N ⟨x,n,g,M,a,dx,fs,v,p,l,q⟩=>?_) J;subst v;obtain rfl:u=Value.ref a:=M;refine V9 g p c j l ?_;refine pU (first:=[.ref a]) (h₀:=X.base) I.ok.mod.kin j.kp (thn (y pos π N σ n _ g q) λus P ⟨vs,O,i,r,L⟩=>⟨i.kIn,?_⟩) d b;exact K9 (us:=.ref a::us) (vs:=.ref a::vs) F G z B hx i (.cons rfl r) L
def zhO{pl:Sem Bool}(n:PE X o ta)(c:Cls X.K C)(d:Meth X.K C m f)(F:FnOk X.prog X.w X.K X.mg X.base CX k f fd ps sp)(p:Room k X.A)(i:Binds X.K fd ps ds)(j:Vals dvs ds)(hx:qj CX X E)
    (r:eval (.Call (.Attribute o m apos) [] [] pos) X.env=(do
      let ov<-eval o X.env
      standAt apos.atName
      let(f,first)<-holding [ov] (getMethod ov m pl)
      callWith pos f first (backTo pos (starEach [] X.env)) (backToKw pos (keywordEach [] X.env))):=by rfl) :
    PE X (.Call (.Attribute o m apos) [] [] pos) (Xc C m sp dvs E ta Zq):=by
  intro π s σ H Q I h;refine PySem.W.methodCall_KW (pl:=pl) (thn (n π s σ H _ I h) λu y ⟨x,v,b,t,a,dx,fs,g,e,l,q⟩=>?_) r;subst g;obtain rfl:u=Value.ref a:=t;refine V9 b e c d l ?_;exact pJ (first:=[.ref a]) b.kIn d.kp (K9 (us:=[.ref a]) (vs:=[.ref a]) F p i j hx b (.cons rfl .nil) q)
structure Mk (K:W.Frag) (C f:Addr):Prop where
 makes:W.makesIn K C=true
 init:W.findIn K (.ref C) "__init__" =some (some (.ref f))
 fn:W.isFn K (.ref f)=true
 kp:W.keepIn K (.ref C)=true
def zaa{σ:St}{H:Hp}{Q:VK}{vs:List V}(M:Mk X.K C f)(F:FnOk X.prog X.w X.K X.mg X.base CX k f fd ps sp)(p:Room (k+1) X.A)(m:Binds X.K fd ps ds)(n:Vals dvs ds)
    (hx:qj CX X E)(I:Inv X π σ H s)(r:Vals vs us)
    (h:∀x dx,H x=none->H dx=none->dx≠x->sp (.ref x::(vs++dvs)) (upd (upd H dx (.own x)) x (.ins C dx [])) (λv i=>v=.non/\Q (.ref x) i) E) :
    wpAny (model X.prog X.w) X.A (call (.ref C) us) (EP X π σ Q) X.xe s:=by
  have c:=h (s.heap.objs.size+1) s.heap.objs.size (I.hok.fresh (nM _)) (I.hok.fresh (ll _)) (lK (oV _));have b:=Inv.made (C:=C) I;have d:Vals (V.ref (s.heap.objs.size+1)::(vs++dvs)) (Value.ref (s.heap.objs.size+1)::(us++ds)):=.cons rfl (r.append n);have o:(Value.ref (s.heap.objs.size+1)::us++ds).length=ps.length:=by have e:=d.length;rw[F.len _ _ _ _ c]at e;exact e.symm
  refine wpAny_call (zhN (f:=f) I.kIn M.makes M.init (oj.mp M.fn) (qE (F.run _ X.stack _ _ ⟨Value.ref (s.heap.objs.size+1) :: us,[]⟩ (Value.ref (s.heap.objs.size+1) :: (us ++ ds)) _ _ E (p.make C us [])
    (b.env0.make C us []) (m _ (Value.ref (s.heap.objs.size+1)::us) b.kIn o) d c) λr s' a=>?_))
  cases r with
  |error e=>exact hx π σ _ _ e s' b a
  |ok fl=>
    cases fl with
    |ret u=>obtain⟨v,g,j,t,l,q⟩:=b.after a;subst l;exact⟨t,⟨V.ref (s.heap.objs.size+1),g,j,rfl,q⟩⟩
    |next=>exact False.elim a
    |brk=>exact False.elim a
    |cont=>exact False.elim a
def zks(M:Mk X.K C f)(F:FnOk X.prog X.w X.K X.mg X.base CX k f fd ps sp)(n:Room (k+1) X.A)(l:Gl X x)(m:X.mg x=some (.ref C))(g:Binds X.K fd ps ds)(i:Vals dvs ds)(hx:qj CX X E)
  (d:PA X (e::es) t)(a:(x==("__debug__":Str))=false:=by decide)(j:starEach (e::es) X.env=(false,eval e X.env)::starEach es X.env:=by rfl)(b:(backTo pos (starEach es X.env)).any (·.1)=false:=by rfl) :
  PE X (.Call (.Name x p) (e::es) [] pos) (Ua C sp dvs E t):=by
 intro π s σ H Q I h;refine n4 (kW I l m ?_ a);refine pU (h₀:=X.base) I.ok.mod.kin M.kp (thn (d pos π s σ H _ I h) λus u ⟨vs,o,c,r,q⟩=>⟨c.kIn,?_⟩) j b;exact zaa M F n g i hx c r q
def zhP(M:Mk X.K C f)(F:FnOk X.prog X.w X.K X.mg X.base CX k f fd ps sp)(g:Room (k+1) X.A)(d:Gl X x)(e:X.mg x=some (.ref C))(b:Binds X.K fd ps ds)(c:Vals dvs ds)(hx:qj CX X E)
  (a:(x==("__debug__":Str))=false:=by decide):PE X (.Call (.Name x p) [] [] pos) (Ua C sp dvs E Zq):=by
 intro π s σ H Q I h;refine n4 (kW I d e ?_ a);exact pJ I.kIn M.kp (zaa (us:=[]) M F g b c hx I .nil h)
end
abbrev PK(X:Cx)(a:List Keyword)(t:TA):Prop:=
 ∀(pos:Pos) (π:List (Addr×Obj)) (s:Shared) (σ:St) (H:Hp) (Q:List V->Hp->Prop),Inv X π σ H s->t σ H Q->wpAny (model X.prog X.w) X.A (evalAll ((backToKw pos (keywordEach a X.env)).map (·.2))) (AP X π σ Q) X.xe s
section
variable {X:Cx}{CX:CXT}{k:Nat}{ps ks:List Str}{sp:Sp}{E:XK}{m:Str}{p apos kpos:Pos}{o:Expr}{kws:List Keyword}{te ta:TE}{t tk:TA}{nm:Option Str}
def zmh:PK X [] Zq:=λ_ _ _ _ H Q I h=>wpAny_evalAll_nil ⟨[],H,I,.nil,h⟩
def zkt(f:PE X e te)(g:PK X kws t):PK X (⟨nm,e,kpos⟩::kws) (Xb te t):=by
 intro pos π s σ H Q I h;show wpAny _ _ (evalAll ((do let v<-eval e X.env;standAt pos;pure v)::(backToKw pos (keywordEach kws X.env)).map (·.2))) _ _ s;refine wpAny_evalAll_cons (l6 (thn (f π s σ H _ I h) λu m ⟨x,a,c,k,i⟩=>l6 (qa (lz ?_))));exact thn (g pos π m σ a _ c i) λus o ⟨n,b,d,l,j⟩=>⟨x::n,b,d,.cons k l,j⟩
variable {g:List Value->List Value->List Value}{gV:List V->List V->List V}
end
structure FnScope (N P:List Str) (sc:Scope):Prop where
 kind:sc.kind=.function
 co:sc.isCoroutine=false
 gen:sc.isGenerator=false
 nd:N.Nodup
 pre:N.take P.length=P
 par:∀x∈P,sc.names.lookup x=some .local\/sc.names.lookup x=some .cell
 nofree:∀y∈sc.names,y.2≠.free
def Jt{kindOf:Str->Option NameKind}:∀{a:List (Str×Value)}{m:Str->Option Value},(∀v,(x,v)∉a)->bindL kindOf a m x=m x
 |[],_,_=>rfl
 |(n,v)::r,m,h=>by
  unfold bindL;rw[Jt λw b=>h w (lg _ b)];split
  .have:x≠n:=by rintro rfl;exact h v lh
   simp[this]
  .rfl
def Ju{kindOf:Str->Option NameKind}:∀{a:List (Str×Value)}{m:Str->Option Value},(∀v,(x,v)∉a)->bindC kindOf a m x=m x
 |[],_,_=>rfl
 |(n,v)::r,m,h=>by
  unfold bindC;rw[Ju λw b=>h w (lg _ b)];split
  .rfl
  .have:x≠n:=by rintro rfl;exact h v lh
   simp[this]
def Jv{kindOf:Str->Option NameKind}{v:Value}:∀{P:List Str}{vs:List Value}{i:Nat}{m:Str->Option Value},P.Nodup->P[i]? =some x->vs[i]? =some v->kindOf x=some .local->
  bindL kindOf (P.zip vs) m x=some v
 |[],_,_,_,_,h,_,_=>by simp at h
 |_::_,[],_,_,_,_,h,_=>by simp at h
 |p::P,w::vs,0,m,nd,h1,h2,hk=>by simp at h1 h2;subst h1;subst h2;show bindL kindOf ((p,w)::P.zip vs) m p=_;unfold bindL;rw[Jt λv a=>(ng.mp nd).1 (List.of_mem_zip a).1,l9 hk];simp
 |p::P,w::vs,i+1,m,nd,h1,h2,hk=>by show bindL kindOf ((p,w)::P.zip vs) m x=_;unfold bindL;exact Jv (i:=i) (ng.mp nd).2 (by simpa using h1) (by simpa using h2) hk
def Jw{kindOf:Str->Option NameKind}{v:Value}:∀{P:List Str}{vs:List Value}{i:Nat}{m:Str->Option Value},P.Nodup->P[i]? =some x->vs[i]? =some v->kindOf x≠some .local->
  bindC kindOf (P.zip vs) m x=some v
 |[],_,_,_,_,h,_,_=>by simp at h
 |_::_,[],_,_,_,_,h,_=>by simp at h
 |p::P,w::vs,0,m,nd,h1,h2,hk=>by simp at h1 h2;subst h1;subst h2;show bindC kindOf ((p,w)::P.zip vs) m p=_;unfold bindC;rw[Ju λv a=>(ng.mp nd).1 (List.of_mem_zip a).1,l7 hk];simp
 |p::P,w::vs,i+1,m,nd,h1,h2,hk=>by show bindC kindOf ((p,w)::P.zip vs) m x=_;unfold bindC;exact Jw (i:=i) (ng.mp nd).2 (by simpa using h1) (by simpa using h2) hk
abbrev start(N:List Str)(vs:List V):St:=vs.map some++List.replicate (N.length-vs.length) none
abbrev vG(g:CXT)(P:Program)(w:World)(K:W.Frag)(mg:Str->Option Value)(base:Heap)(N:List Str)(b:Str)(a:Scope)(f:Addr)(d:Value)(A:Around)(outer:List Env)(s:Shared)(H:Hp)(E:XK):Cx where
 prog:=P
 w:=w
 K:=K
 mg:=mg
 base:=base
 A:=A.deeper (envOfC b a s.heap.objs.size f d)
 N:=N
 s₀:=s
 H₀:=H
 env:=envOfC b a s.heap.objs.size f d
 outer:=outer
 stack:=envOfC b a s.heap.objs.size f d::outer
 ex:=[]
 calm:=true
 fn:=λ_=>true
 pn:=[]
 xe:=λe s'=>wpAny (model P w) (A.deeper (envOfC b a s.heap.objs.size f d)) (leaving (envOfC b a s.heap.objs.size f d) e) (λ_ c=>g outer H s E e c) (λh c=>g outer H s E h c) s'
def zab{a:Scope}(h:a.names.lookup x=some .cell):∃c,(cellsFrom n a.names []).lookup x=some c:=by
 have q:=PySem.W.cellsFrom_some a.names n [] (.inl h);exact nO.mp q
def zf2{J:CXT}{m:Heap}{B:List Str}{j:Str}{d:Scope}{F:Value}{g:List Env}{s1:Shared}{H:Hp}{E:XK}{vs:List V}
  (S:FnScope N B d)(Q:A.handled=none)(o:Env0 P w K mg m A g s H)(W:vs.length=B.length)(r:Vals vs us)
  (x:InCallC s s.heap.objs.size (bindL (envOfC j d s.heap.objs.size f F).kindOf (B.zip us) λ_=>none) (cellsFrom (s.heap.objs.size+1) d.names []) (bindC (envOfC j d s.heap.objs.size f F).kindOf (B.zip us) λ_=>none) s1) :
  Inv (vG J P w K mg m N j d f F A g s H E) [] (start N vs) H s1:=by
 have R:B.length<=N.length:=by have:=mH List.length S.pre;rw[lX]at this;lia
 obtain⟨G,X,rfl,L⟩:=x.done;have t:∀b:Addr,b∉(vG J P w K mg m N j d f F A g s H E).ex:=λb z=>absurd (show b∈([]:List Addr)from z) m!"";refine⟨⟨o.mod,S.kind,rfl,rfl,ll _,fun y z c G l=>?_,fun y hy=>?_,fun y c _ h=>?_,fun _=>Q,Around.frames_deeper o.frames,.inr ⟨rfl,rfl⟩,fun b z=>absurd z (t b),o.bs,o.bsz,fun b _ _=>t b,fun b z=>absurd z (t b),o.funs,o.frf⟩,
  rfl,o.bare,Un.kept L,⟨_,x.toInCall.ns,λi y v G l U=>?_⟩,λy c h=>⟨_,x.cell y c h⟩,o.hok.fresh (ll _),λy c h=>?_,λp C=>absurd (show p∈([]:List (Addr×Obj))from C) m!"",o.hok.kept L,?_⟩
 .exact name_of_addr x.apart (nT G) (nT l)
 .have hy:d.names.lookup y=some .cell\/d.names.lookup y=some .free:=hy;rcases hy with hy|hy
  .exact zab hy
  .exact absurd rfl (S.nofree _ (nT hy))
 .exact ph (x.above y c (nT h))
 .have I:i<vs.length:=by
   unfold start at l;by_cases I:i<vs.length
   .exact I
   .rw[mJ (by simpa using I)]at l;rw[nU]at l;split at l<;>cases l
  have O:vs[i]? =some v:=by
   unfold start at l;rw[mz (by simpa using I),lw]at l;cases e:vs[i]? with
   |none=>rw[e]at l;cases l
   |some a=>rw[e]at l;cases l;rfl
  obtain⟨u,M,T⟩:=r.get O;have C:B[i]? =some y:=by rw[<-S.pre,mP ⋯];exact G
  have D:B.Nodup:=by rw[<-S.pre];exact S.nd.sublist (List.take_sublist _ _)
  refine⟨u,T,?_⟩;rcases S.par y (lE C)with k|k
  .exact .inl ⟨k,Jv D C M k⟩
  .obtain⟨c,e⟩:=zab (n:=s.heap.objs.size+1) k;refine .inr ⟨.inl k,c,e,?_⟩;have q:=x.cell y c e;rw[Jw D C M (by show d.names.lookup y≠_;rw[k];decide)]at q;exact q
 .exact o.hok.fresh (ph (x.above y c (nT h)))
 .unfold start;show _=N.length;rw[lx,l8,mf]
  lia
def zjE{G:CXT}{h:Heap}{k:Nat}{name d:Str}{i:Arguments}{j:List Stmt}{a:Scope}{dV kV doc pm g ct oc:Value}{Y od:Option Addr}
    {T:Array (Option Value)}{L:List Str}{sp:Sp}(lk:K.lookup f=some ⟨oc,od,.func (W.fnOf name d i j a dV kV doc pm Y g ct),T⟩)(M:W.codeIn K g d=true)(S:FnScope N L a)
    (len:∀vs H Q E,sp vs H Q E->vs.length=L.length)
    (p:∀ (A:Around) (c:List Env) (s:Shared) (H:Hp) (vs:List V) (Q:VK) (E:XK),Room k (A.deeper (envOfC d a s.heap.objs.size f g))->sp vs H Q E->
      ∃t,PSs (vG G P w K mg h N d a f g A c s H E) j t/\t { nx:=λ_ m=>Q .non m,rt:=Q } (start N vs) H) :
    FnOk P w K mg h G (k+1) f (W.fnOf name d i j a dV kV doc pm Y g ct) L sp:=by
  refine⟨len,λA c s H Z us vs Q E O C hb r F=>?_⟩;have hl:=len _ _ _ _ F;have X:K.In s.heap:=C.mod.kin.keeps λb o e=>(C.bs b o e).1;have R:s.heap.NoLimit:=C.mod.nolimit.keeps λb o e=>(C.bs b o e).1;have z:∀y∈L.zip us,a.names.lookup y.1=some .local\/(a.names.lookup y.1=some .cell/\((cellsFrom (s.heap.objs.size+1) a.names []).lookup y.1).isSome=true):=λ⟨n,v⟩ hy=>by
    rcases S.par n (List.of_mem_zip hy).1 with q|q
    · exact .inl q
    · exact .inr ⟨q,PySem.W.cellsFrom_some _ _ _ (.inl q)⟩
  refine codeAny_call_function O.depth (X _ _ lk) rfl S.co S.gen rfl (PySem.W.codeRec_of X M) (hb _ _ _ _ ?_);refine wpAny_newFunctionEnv_cells S.kind z λzs he s1 x=>?_;subst he;refine⟨R.keeps x.toInCall.keep,codeAny_func ?_⟩;obtain⟨t,ht,hq⟩:=p A c s H vs Q E (O.deeper _) F;have I:Inv (vG G P w K mg h N d a f g A c s H E) [] (start N vs) H s1:=zf2 S O.hd C hl r x;refine nc (ht [] s1 (start N vs) H _ I hq) (λfl s' B=>?_) λe s' B=>B;have D:∀{l:St}{m:Hp}{v:V}{u:Value},Inv (vG G P w K mg h N d a f g A c s H E) [] l m s'->RelV v u->Q v m->CE c P w H s Q u s':=
    λ{l m v u} J U q=>⟨v,m,J.os,J.bare,J.base,J.hok,U,q⟩
  cases fl with
  |ret u=>obtain⟨v,l,m,J,U,q⟩:=B;exact D J U q
  |next=>obtain⟨l,m,J,q⟩:=B;exact D (v:=V.non) (u:=Value.none) J rfl q
  |brk=>obtain⟨_,_,_,q⟩:=B;exact False.elim q
  |cont=>obtain⟨_,_,_,q⟩:=B;exact False.elim q
section
variable {X:Cx}{p:Pos}{t:TA}{id T:String}{r:List V->Hp->VK->Prop}
abbrev tCB(r:List V->Hp->VK->Prop)(t:TA):TE:=λσ H Q=>t σ H λvs a=>r vs a Q
def zH(g:yj X (.builtin id) r)(j:Gl X x)(k:X.mg x=none)(m:bootBuiltins x=some (.builtin id))(f:PA X (e::es) t)(l:x≠"__name__":=by decide)(a:(x==("__debug__":Str))=false:=by decide)
  (i:starEach (e::es) X.env=(false,eval e X.env)::starEach es X.env:=by rfl)(b:(backTo pos (starEach es X.env)).any (·.1)=false:=by rfl):PE X (.Call (.Name x p) (e::es) [] pos) (tCB r t):=by
 intro π s σ H Q I h;refine n4 (vY I j k m ?_ l a);exact PyProof.Rows.callWith_builtin1 (thn (f pos π s σ H _ I h) λus q ⟨vs,c,d,o,n⟩=>g π q σ c vs us Q d o n) i b
def zE(g:yj X (.type T) r)(j:Gl X x)(k:X.mg x=none)(m:bootBuiltins x=some (.type T))(f:PA X (e::es) t)(l:x≠"__name__":=by decide)(a:(x==("__debug__":Str))=false:=by decide)
  (i:starEach (e::es) X.env=(false,eval e X.env)::starEach es X.env:=by rfl)(b:(backTo pos (starEach es X.env)).any (·.1)=false:=by rfl):PE X (.Call (.Name x p) (e::es) [] pos) (tCB r t):=by
 intro π s σ H Q I h;refine n4 (vY I j k m ?_ l a);exact mF (thn (f pos π s σ H _ I h) λus q ⟨vs,c,d,o,n⟩=>g π q σ c vs us Q d o n) i b
end
end L2
variable {X:L2.Cx}{H:L2.Hp}{vs:List L2.V}{kvs:List (L2.Key×L2.V)}{σ:L2.St}{v:L2.V}
namespace HT
open PySem PyProof.Rows
section
open PySem.SeqAt
open PySem.AutoSeq1 (wpAny_loadPart')
open PySem.MeetsSeq PySem.MeetsSeq2 PySem.MeetsSeq3
end
abbrev sIx(n d:Nat):Option Int->Nat
 |none=>d
 |some v=>if v<0 then(v+(n:Int)).toNat else min v.toNat n
def sIx_none(n d:Nat):sIx n d none=d:=rfl
def sIx_nat(n d k:Nat):sIx n d (some (k:Int))=min k n:=by
 show(if(k:Int)<0 then((k:Int)+(n:Int)).toNat else min (k:Int).toNat n)=min k n;rw[l7 ⋯,nq]
def zmi(n d:Nat)(a:d<=n)(o:Option Int):sIx n d o<=n:=by
 cases o with
 |none=>exact a
 |some v=>
  show(if v<0 then(v+(n:Int)).toNat else min v.toNat n)<=n;by_cases hv:v<0
  .rw[l9 hv];lia
  .rw[l7 hv];exact Nat.min_le_right _ _
def zcV(v:Int)(n d:Nat):(if v<0 then max (v+(n:Int)) 0 else min v (n:Int))=((sIx n d (some v):Nat):Int):=by
 show(if v<0 then max (v+(n:Int)) 0 else min v (n:Int))=(((if v<0 then(v+(n:Int)).toNat else min v.toNat n):Nat):Int);by_cases hv:v<0
 .simp only[l9 hv];lia
 .simp only[l7 hv];lia
def zd5(lo a:Option Int)(n:Nat):Builtin.Slice.sliceAdjust lo a 1 (n:Int)=(((sIx n 0 lo:Nat):Int),((sIx n n a:Nat):Int)):=by
 have b:¬((1:Int)<0):=f!"i"
 unfold Builtin.Slice.sliceAdjust;simp only[b,pO];refine Prod.ext ?_ ?_
 .cases lo with
  |none=>rfl
  |some v=>exact zcV v n 0
 .cases a with
  |none=>rfl
  |some v=>exact zcV v n n
def zd6(i j:Nat):Builtin.Slice.slicePlaces (i:Int) (j:Int) 1 =j-i:=by
 unfold Builtin.Slice.slicePlaces;have a:(1:Int)>0:=⋯
 simp only[a,p7,Int.ediv_one];split<;>lia
def Ub{v:Value}{o:Option Int}{Q:Option Int->Shared->Prop}(p:IsPart v o)(h:Q o s):wpAny (model prog w) A (Builtin.Slice.slicePartIndex v) Q E s:=by
 cases p with
 |none=>exact slicePart_none h
 |int i t=>exact slicePart_int h
def X0{f:Addr}{d e:Value}{lo b:Option Int}{Q:Int×Int×Nat->Shared->Prop}(i:s.heap.IsSliceOf f d e .none)(pl:IsPart d lo)(j:IsPart e b)
  (h:Q (((sIx n 0 lo:Nat):Int),1,sIx n n b-sIx n 0 lo) s):wpAny (model prog w) A (Builtin.Slice.sliceApplied (.ref f) (pure (n:Int))) Q E s:=by
 obtain⟨os,c,g,a⟩:=id i;unfold Builtin.Slice.sliceApplied Builtin.Slice.sliceFields;refine l6 (l6 (wpAny_field c a (x:=d) rfl (l6 (wpAny_field c a (x:=e) rfl (l6 (wpAny_field c a (x:=.none) rfl (lz ?_)))))));refine l6 (slicePart_none ?_);show wpAny _ _ (if((1:Int)==0)=true then _ else _) _ _ s;rw[l7 ∅];refine l6 (Ub pl (l6 (Ub j (l6 (lz ?_)))));show wpAny _ _ (match Builtin.Slice.sliceAdjust lo b 1 (n:Int)with|(lo,b)=>pure (lo,(1:Int),Builtin.Slice.slicePlaces lo b 1)) _ _ s;rw[zd5 lo b n];show wpAny _ _ (pure (((sIx n 0 lo:Nat):Int),(1:Int),Builtin.Slice.slicePlaces ((sIx n 0 lo:Nat):Int) ((sIx n n b:Nat):Int) 1)) _ _ s;rw[zd6];exact lz h
def zhQ(a:Array Value)(i k:Nat):((List.range k).filterMap λ(m:Nat)=>a[((i:Int)+(m:Int)*1).toNat]?).toArray=((a.toList.drop i).take k).toArray:=by
 have e:(λ(m:Nat)=>a[((i:Int)+(m:Int)*1).toNat]?)=λm=>a[i+m]?:=by
  funext m;have:((i:Int)+(m:Int)*1).toNat=i+m:=⋯
  rw[this]
 rw[e];have:=pick_run a i k;rw[oz]at this;have b:((λx=>a[x]?)∘λx=>i+x)=λm=>a[i+m]?:=rfl;rw[b]at this;rw[this]
def getItem_tuple_cut{t i:Addr}{items:Array Value}{k l:Value}{lo b:Option Int}(c:IsTup s.heap t items)(j:s.heap.IsSliceOf i k l .none)(pl:IsPart k lo)(p:IsPart l b)
    (o:¬(sIx items.size 0 lo= 0/\sIx items.size items.size b=items.size))
    (h:Q (.ref s.heap.objs.size) { s with heap:=s.heap.push { cls:=.type "tuple",data:=.seq ((items.toList.drop (sIx items.size 0 lo)).take (sIx items.size items.size b-sIx items.size 0 lo)).toArray } })
    (hsz:items.size<=sizeLine):wpAny (model prog w) A (getItem (.ref t) (.ref i)) Q E s:=by
  have a:sizeOk (.seq ((items.toList.drop (sIx items.size 0 lo)).take (sIx items.size items.size b-sIx items.size 0 lo)).toArray):=by show((items.toList.drop (sIx items.size 0 lo)).take (sIx items.size items.size b-sIx items.size 0 lo)).toArray.size<=sizeLine;rw[lC,lX,m9,mN];omega
  have r:sIx items.size items.size b<=items.size:=zmi _ _ (ll _) b;obtain⟨os,g,e,n⟩:=id j;have d:s.TypeIs (.ref i) "slice":=⟨os,g,e⟩;unfold getItem
  try with_reducible refine mD ?_
  first|refine l6 (lz ?_)|skip
  refine l6 (wpAny_sequenceKey c.typeIs ∅ ?_);refine l6 (wpAny_callSpecial?_slot (name:=s!"__getitem__") c.typeIs pe
    (wpAny_call_entry pe c.typeIs entry_tuple_getitem ?_ (args_tuple_getitem _ _)))
  show wpAny _ _ (Builtin.Tuple.tupleItemsOf (.ref t) >>= _) _ _ s;refine l6 (tupleItemsOf_ c ?_);refine l6 (oA d ?_);rw[l9 ∅];refine l6 (X0 j pl p ?_);have f:¬((((sIx items.size 0 lo:Nat):Int)==0&&(1:Int)==1&&(sIx items.size items.size b-sIx items.size 0 lo)==items.size)=true):=by intro q;rw[mI,mI]at q;have u:((sIx items.size 0 lo:Nat):Int)= 0:=eq_of_beq q.1.1;have v:sIx items.size items.size b-sIx items.size 0 lo=items.size:=eq_of_beq q.2;exact o ⟨f!"i",f!"i"⟩
  show wpAny _ _ (if(((sIx items.size 0 lo:Nat):Int)==0&&(1:Int)==1&&(sIx items.size items.size b-sIx items.size 0 lo)==items.size)=true then _ else _) _ _ s;rw[l7 f,zhQ]
  first
    |exact l6 (m:=Builtin.Tuple.tupleExact _) (nK (lz ⟨_,rfl,lz h⟩) a)
    |exact l6 (m:=Builtin.Tuple.tupleExact _) (nK (l6 (lz (lz ⟨_,rfl,lz h⟩))) a)
    |exact l6 (l6 (m:=Builtin.Tuple.tupleExact _) (nK (lz (lz ⟨_,rfl,lz h⟩)) a))
    |exact l6 (l6 (m:=Builtin.Tuple.tupleExact _) (nK (lz ⟨_,rfl,lz h⟩) a))
end HT
namespace L2
open PySem PySem.Spec PyProof.Rows
/---/abbrev TO:=St->Hp->(Option Int->Hp->Prop)->Prop
abbrev PO(X:Cx)(e:Option Expr)(t:TO):Prop:=
 ∀(π:List (Addr×Obj)) (s:Shared) (σ:St) (H:Hp) (Q:Option Int->Hp->Prop),Inv X π σ H s->t σ H Q->
  wpAny (model X.prog X.w) X.A (evalPart e X.env) (λu s'=>Ex2 λo a=>An3 (Inv X π σ a s') (IsPart u o) (Q o a)) X.xe s
abbrev zcW:TO:=λ_ H Q=>Q none H
abbrev zjF(t:TE):TO:=λσ H Q=>t σ H λx a=>Ex1 λi=>An2 (x=.int i) (Q (some i) a)
section
variable {te:TE}{lo hi:Option Expr}{tl th:TO}{p2:Pos}
def uI:PO X none zcW:=by
 intro π s σ H Q I h;rw[evalPart_none];exact lz ⟨none,H,I,.none,h⟩
def uJ(h:PE X e te):PO X (some e) (zjF te):=by
 intro π s σ H Q I c;rw[evalPart_some];refine thn (h π s σ H _ I c) λu g ⟨x,a,b,f,d⟩=>?_;obtain⟨i,rfl,q⟩:=d;obtain⟨t,rfl⟩:=f;exact⟨some i,a,b,.int i t,q⟩
abbrev SlR(X:Cx)(r:V->Option Int->Option Int->Hp->VK->Prop):Prop:=
 ∀(π:List (Addr×Obj)) (s:Shared) (σ:St) (H:Hp) (x:V) (v b c:Value) (lo hi:Option Int) (a:Addr) (Q:VK),Inv X π σ H s->RelV x v->s.heap.IsSliceOf a b c .none->IsPart b lo->IsPart c hi->r x lo hi H Q->
  Ex2 λT id=>An3 (typeLookup (.type T) "__getitem__" =pure (some (.builtin id))) (s.TypeIs v T) (wpAny (model X.prog X.w) X.A (getItem v (.ref a)) (EP X π σ Q) X.xe s)
abbrev tSl(r:V->Option Int->Option Int->Hp->VK->Prop)(te:TE)(tl th:TO):TE:=λσ H Q=>te σ H λx a=>tl σ a λl b=>th σ b λu c=>r x l u c Q
def vH{r:V->Option Int->Option Int->Hp->VK->Prop}(z:SlR X r)(p:PE X e te)(y:PO X lo tl)(C:PO X hi th):PE X (.Subscript e (.Slice lo hi none p2) pos) (tSl r te tl th):=by
 intro π s σ H Q I h;refine Subscript_ (thn (p π s σ H _ I h) λv K ⟨x,g,j,J,E⟩=>?_);refine wpAny_Slice (thn (y π K σ g _ j E) λc L ⟨l,i,k,pl,F⟩=>thn (C π L σ i _ k F) λd a ⟨u,f,m,D,G⟩=>?_);rw[evalPart_none];refine lz ?_;have n:Inv X π σ f { a with heap:=a.heap.push { cls:=.type "slice",data:=.fields #[c,d,.none] } }:=m.kept (t':=a.toks) λb M q=>li _ q;obtain⟨T,id,o,B,t⟩:=z π { a with heap:=a.heap.push { cls:=.type "slice",data:=.fields #[c,d,.none] } } σ f x v c d l u a.heap.objs.size Q n J (Heap.IsSliceOf.new ..) pl D G;show wpAny (model X.prog X.w) X.A (subscriptTail e (.Slice lo hi none p2) v (.ref a.heap.objs.size)) (EP X π σ Q) X.xe { a with heap:=a.heap.push { cls:=.type "slice",data:=.fields #[c,d,.none] } };exact tail_any (ops:=[.ref a.heap.objs.size,v]) B o t (by with_unfolding_all rfl)
abbrev kh(a:List V)(lo hi:Option Int):List V:=(a.drop (HT.sIx a.length 0 lo)).take (HT.sIx a.length a.length hi-HT.sIx a.length 0 lo)
def XG(a:List V)(lo hi:Option Int):(kh a lo hi).length<=a.length:=by
 unfold kh;rw[lX,m9];omega
abbrev zhR(K:W.Frag):V->Option Int->Option Int->Hp->VK->Prop:=λx lo hi H Q=>Ex2 λa b=>An4 (x=.ref a) (SqT K H a b) (¬(HT.sIx b.length 0 lo= 0/\HT.sIx b.length b.length hi=b.length)) (∀p,H p=none->Q (.ref p) (upd H p (.tup (kh b lo hi))))
def zmj:SlR X (zhR X.K):=by
 intro π s σ H x v n p lo hi m Q I k g pl j h;obtain⟨a,d,rfl,hx,i,q⟩:=h;cases k;obtain⟨e,r,f,hz⟩:=I.tuple hx;have c:e.toArray.size=d.length:=by rw[lC];exact r.length.symm
 refine⟨"tuple",_,PyProof.Rows.slot_tuple_getitem.lookup,f.typeIs,?_⟩;refine HT.getItem_tuple_cut f g pl j (by rw[c];exact i) ?_ (by rw[c];exact hz);rw[c];refine⟨.ref s.heap.objs.size,_,I.laid (t':=s.toks) (o:=.tup (kh d lo hi)) (λb l q=>li _ q) (ll _) ?_,rfl,q _ (I.hok.fresh (ll _))⟩;exact⟨m7 (XG d lo hi) hz,_,(r.drop (HT.sIx d.length 0 lo)).take (HT.sIx d.length d.length hi-HT.sIx d.length 0 lo),IsTup.new _ _⟩
end
abbrev ixN(n:Nat)(i:Int):Option Nat:=if 0<=i then(if i<n then some i.toNat else none)else if -(n:Int)<=i then some (i+n).toNat else none
abbrev atI{α:Type}(a:List α)(i:Int):Option α:=(ixN a.length i).bind λj=>a[j]?
def zcX{i:Int}{j:Nat}(h:ixN n i=some j):seqIndex? i n=some j/\j<n/\-(n:Int)<=i/\i<n:=by
 unfold ixN at h;by_cases h0:0<=i
 .rw[l9 h0]at h;by_cases h1:i<n
  .rw[l9 h1]at h;have e:i.toNat=j:=lV h;exact⟨by rw[seqIndex_of h0 h1,e],⋯,⋯,h1⟩
  .rw[l7 h1]at h;cases h
 .rw[l7 h0]at h;by_cases h1:-(n:Int)<=i
  .rw[l9 h1]at h;have e:(i+n).toNat=j:=lV h;exact⟨by rw[seqIndex_neg ⋯ h1,e],⋯,h1,⋯⟩
  .rw[l7 h1]at h;cases h
def Xd{α:Type}{a:List α}{i:Int}{v:α}(h:atI a i=some v):∃j,seqIndex? i a.length=some j/\a[j]? =some v/\j<a.length/\-(a.length:Int)<=i/\i<a.length:=by
 unfold atI at h;cases e:ixN a.length i with
 |none=>rw[e]at h;cases h
 |some j=>rw[e]at h;obtain⟨b,c,d,f⟩:=zcX e;exact⟨j,b,h,c,d,f⟩
def uK{α:Type}{a:List α}{j:Nat}{v:α}(h:a[j]? =some v):atI a (j:Int)=some v:=by
 have b:j<a.length:=(lv.mp h).1;have e:ixN a.length (j:Int)=some j:=by unfold ixN;rw[l9 ⋯,l9 ⋯];simp
 unfold atI;rw[e];exact h
abbrev Qi(b:Expr):Prop:=∀o i,subscripted b false o i=operate [o,i] (getItem o i)
abbrev IxR(X:Cx)(r:R2):Prop:=
 ∀(b a:Expr) (π:List (Addr×Obj)) (s:Shared) (σ:St) (H:Hp) (x y:V) (v u:Value) (Q:VK),Inv X π σ H s->RelV x v->RelV y u->r x y H Q->
  subscripted a false v u=operate [v,u] (getItem v u)->wpAny (model X.prog X.w) X.A (subscriptTail b a v u) (EP X π σ Q) X.xe s
abbrev MtR(X:Cx)(id:String)(r:V->List V->Hp->VK->Prop):Prop:=
 ∀(π:List (Addr×Obj)) (s:Shared) (σ:St) (H:Hp) (x:V) (a:List V) (v:Value) (us:List Value) (Q:VK),Inv X π σ H s->RelV x v->Vals a us->r x a H Q->
  wpAny (model X.prog X.w) X.A (call (.builtin id) (v::us)) (EP X π σ Q) X.xe s
section
variable {a b:Expr}{ta tb:TE}
def zod{r:R2}(g:IxR X r)(e:PE X a ta)(f:PE X b tb)(i:Qi b):PE X (.Subscript a b pos) (tOp r ta tb):=by
 intro π s σ H Q I h;exact Subscript_ (zhJ e f I h λv u l x y c d j k q=>g a b π l σ c x y v u Q d j k q (i _ _))
abbrev zhS(K:W.Frag):R2:=λx y H Q=>Ex4 λp a i v=>An5 (x=.ref p) (y=.int i) (SqL K H p a) (atI a i=some v) (Q v H)
abbrev zhT(K:W.Frag):R2:=λx y H Q=>Ex4 λp a i v=>An5 (x=.ref p) (y=.int i) (SqT K H p a) (atI a i=some v) (Q v H)
abbrev zmk:R2:=λx y H Q=>Ex3 λz i c=>An5 (x=.str z) (y=.int i) (z.length<=sizeLine) (atI z.cps.toList i=some c) (Q (.str ⟨#[c]⟩) H)
def zku:IxR X (zhS X.K):=by
 intro g f π s σ H x y v u Q I D E h l;obtain⟨p,J,i,z,rfl,rfl,C,A,q⟩:=h;cases D;obtain⟨t,rfl⟩:=E;obtain⟨d,r,pl,hz⟩:=I.list C;obtain⟨j,b,m,F,n,o⟩:=Xd A;obtain⟨w,k,e⟩:=r.get m;have B:=r.length;have G:=qi;have a:EP X π σ Q w s:=⟨z,H,I,e,q⟩;by_cases h0:0<=i
 .have c:i.toNat=j:=by
   rw[seqIndex_of h0 o]at b;exact lV b
  exact item_listR pl.isList h0 ⋯ (by rw[c];simpa using k) a l
 .have c:(i+(d.toArray.size:Int)).toNat=j:=by
   rw[seqIndex_neg ⋯ n]at b;rw[lC,<-B];exact lV b
  exact oQ (x:=w) pl.isList.typeIs slot_list_getitem.lookup
   (wpAny_getItem_list_neg (Q:=λr s'=>r=w/\EP X π σ Q r s') pl.isList ⋯ (by rw[lC]<;>lia) ⋯ (by rw[c];simpa using k) ⟨rfl,a⟩) l
def zml:IxR X (zhT X.K):=by
 intro d c π s σ H x y v u Q I A B h n;obtain⟨p,G,i,z,rfl,rfl,m,k,q⟩:=h;cases A;obtain⟨t,rfl⟩:=B;obtain⟨o,r,pl,hz⟩:=I.tuple m;obtain⟨j,f,g,C,D,E⟩:=Xd k;obtain⟨w,e,b⟩:=r.get g;have l:=r.length;have F:=qi;have a:EP X π σ Q w s:=⟨z,H,I,b,q⟩;exact oQ (x:=w) pl.typeIs slot_tuple_getitem.lookup
  (getItem_tuple (j:=j) (Q:=λr s'=>r=w/\EP X π σ Q r s') pl ⋯ ⋯ (by rw[lC,<-l];exact f) (by simpa using e) ⟨rfl,a⟩) n
def zf3:IxR X zmk:=by
  intro b a π s σ H x y v u Q I p r h o;obtain⟨z,i,c,rfl,rfl,hz,m,q⟩:=h;obtain⟨t,rfl⟩:=p;obtain⟨t',rfl⟩:=r;obtain⟨j,d,g,w,k,l⟩:=Xd m;have n:z.cps.toList.length=z.length:=by simp[Str.length]
  rw[n]at d k l;have A:=qi;exact tail_any (oE s z t) slot_str_getitem.lookup (getItem_str (c:=c) (by
    have e:decide (i < -(2 ^ 63:Int))=false:=lR ⋯;have f:decide (i≥2 ^ 63)=false:=lR ⋯;rw[e,f,Bool.or_false]) (by rw[d];simpa using g) ⟨.str ⟨#[c]⟩,H,I.tok _,⟨_,rfl⟩,q⟩) o
def zd7(a:List Value)(n j:Nat)(u:Value):Obj.mapSeq (·.setIfInBounds j u) { cls:=.type "list",data:=.seq a.toArray n } = { cls:=.type "list",data:=.seq (a.set j u).toArray n }:=by
 simp[Obj.mapSeq]
def Inv.lst{b:List V}(I:Inv X π σ H s)(h:H p=some (.lst b)) :
  ∃(a:List Value) (n:Nat),Vals b a/\s.heap.get? p=some { cls:=.type "list",data:=.seq a.toArray n }/\b.length<=sizeLine:=by
 obtain⟨z,a,n,r,e⟩:=I.hok p _ h;exact⟨a,n,r,e,z⟩
def Inv.lstUpd{k d:List V}{a its':List Value}{c:Nat}{f:Obj->Obj}(I:Inv X π σ H s)(h:H p=some (.lst k))
  (j:s.heap.get? p=some { cls:=.type "list",data:=.seq a.toArray n })(g:f { cls:=.type "list",data:=.seq a.toArray n } = { cls:=.type "list",data:=.seq its'.toArray c })(r:Vals d its')(hz:d.length<=sizeLine)(t:Nat) :
  Inv X π σ (upd H p (.lst d)) { s with heap:=s.heap.update p f,toks:=t }:=by
 have e:(s.heap.update p f).get? p=some { cls:=.type "list",data:=.seq its'.toArray c }:=by rw[n5 f j (by rw[g]<;>rfl),g]
 refine I.write (x:=p) (e:=p) (by rw[h];trivial) (.inl rfl) (λb u i q=>(mK _ _ (Ne.symm i)).trans q) ⟨_,e⟩ ?_;exact⟨hz,its',c,r,e⟩
abbrev zjG:V->V->V->Hp->(Hp->Prop)->Prop:=λo i v H Q=>Ex4 λp a k j=>An5 (o=.ref p) (i=.int k) (H p=some (.lst a)) (ixN a.length k=some j) (Q (upd H p (.lst (a.set j v))))
def Zs:zl4 X zjG:=by
 intro π s σ H o i v E D u Q I y x z h;obtain⟨p,A,k,j,rfl,rfl,m,w,q⟩:=h;cases y;obtain⟨t,rfl⟩:=x;obtain⟨a,n,r,e,hz⟩:=I.lst m;obtain⟨b,B,g,l⟩:=zcX w;have d:=r.length;have C:=qi;have f:Inv X π σ (upd H p (.lst (A.set j v))) { s with heap:=s.heap.update p (Obj.mapSeq (·.setIfInBounds j u)) }:=
  I.lstUpd m e (zd7 a n j u) (r.set z j) (by rw[oy];exact hz) s.toks
 by_cases h0:0<=k
 .have c:k.toNat=j:=by
   rw[seqIndex_of h0 l]at b;exact lV b
  exact PySem.W.ki_setAt e h0 ⋯ (by rw[lC,<-d];exact l) (by rw[c];exact⟨_,f,q⟩)
 .have c:(k+(a.toArray.size:Int)).toNat=j:=by
   rw[seqIndex_neg ⋯ g]at b;rw[lC,<-d];exact lV b
  exact PySem.W.ki_setBack e ⋯ (by rw[lC,<-d];exact g) ⋯ (by rw[c];exact⟨_,f,q⟩)
def zac(lo a:Option Int)(n:Nat):(sliceBounds lo a none n).1 =((HT.sIx n 0 lo:Nat):Int)/\(sliceBounds lo a none n).2.1 =((HT.sIx n n a:Nat):Int)/\(sliceBounds lo a none n).2.2=1:=by
 refine⟨?_,?_,rfl⟩
 .cases lo with
  |none=>simp[sliceBounds,HT.sIx]
  |some i=>
   simp only[sliceBounds,HT.sIx,Option.getD_none,show(1:Int)>0 by decide,p7];by_cases h:i<0
   .simp only[h,p7]<;>lia
   .simp only[h,pO]<;>lia
 .cases a with
  |none=>simp[sliceBounds,HT.sIx]
  |some i=>
   simp only[sliceBounds,HT.sIx,Option.getD_none,show(1:Int)>0 by decide,p7];by_cases h:i<0
   .simp only[h,p7]<;>lia
   .simp only[h,pO]<;>lia
def J4(a:List Value)(lo b:Option Int):slicePick a.toArray lo b none=((a.drop (HT.sIx a.length 0 lo)).take (HT.sIx a.length a.length b-HT.sIx a.length 0 lo)).toArray:=by
 obtain⟨c,d,e⟩:=zac lo b a.toArray.size;unfold slicePick;rw[c,d,e];simp only[sliceRange_one,pick_run,lC]<;>rfl
abbrev zhU(K:W.Frag):V->Option Int->Option Int->Hp->VK->Prop:=λx lo c H Q=>Ex2 λa b=>An3 (x=.ref a) (SqL K H a b) (∀p,H p=none->Q (.ref p) (upd H p (.lst (kh b lo c))))
def zkv:SlR X (zhU X.K):=by
 intro π s σ H x v n p lo e m Q I k g pl j h;obtain⟨a,c,rfl,hx,q⟩:=h;cases k;obtain⟨i,r,f,hz⟩:=I.list hx;have d:=r.length;refine⟨"list",_,slot_list_getitem.lookup,f.isList.typeIs,?_⟩;refine wpAny_getItem_list_slice f.isList g pl j .none m!"" ?_ (by rw[lC]<;>lia);rw[J4,<-d];refine⟨.ref s.heap.objs.size,_,I.laid (t':=s.toks) (o:=.lst (kh c lo e)) (λb l q=>li _ q) (ll _) ?_,rfl,q _ (I.hok.fresh (ll _))⟩;exact⟨m7 (XG c lo e) hz,_,0,(r.drop (HT.sIx c.length 0 lo)).take (HT.sIx c.length c.length e-HT.sIx c.length 0 lo),lL _ rfl⟩
abbrev qX:V->Bool
 |.non=>true
 |.bl _=>true
 |.int _=>true
 |.str _=>true
 |_=>false
abbrev eqV:V->V->Bool
 |.non,.non=>true
 |.bl a,.bl b=>a==b
 |.bl a,.int b=>(if a then 1 else 0)==b
 |.int a,.bl b=>a==(if b then 1 else 0)
 |.int a,.int b=>a==b
 |.str a,.str b=>a==b
 |_,_=>false
def zmm{y x:V}{v:Value}(e:RelV y u)(c:RelV x v)(f:qX y=true)(d:qX x=true):SeqAt.EqAt A s u v (eqV y x):=by
 cases y with
 |non=>
  cases e;cases x with
  |non=>cases c;exact SeqAt.EqAt.same _
  |bl b=>cases c;exact SeqAt.EqAt.none_bool b
  |int b=>obtain⟨t,rfl⟩:=c;exact SeqAt.EqAt.none_int b t
  |str b=>obtain⟨t,rfl⟩:=c;exact SeqAt.EqAt.none_str b t
  |_=>exact absurd (show false=true from d) lN
 |bl a=>
  cases e;cases x with
  |non=>cases c;exact SeqAt.EqAt.bool_none a
  |bl b=>cases c;exact SeqAt.EqAt.bool_bool a b
  |int b=>obtain⟨t,rfl⟩:=c;exact SeqAt.EqAt.bool_int a b t
  |str b=>obtain⟨t,rfl⟩:=c;exact SeqAt.EqAt.bool_str a b t
  |_=>exact absurd (show false=true from d) lN
 |int a=>
  obtain⟨t',rfl⟩:=e;cases x with
  |non=>cases c;exact SeqAt.EqAt.int_none a t'
  |bl b=>cases c;exact SeqAt.EqAt.int_bool a t' b
  |int b=>obtain⟨t,rfl⟩:=c;exact SeqAt.EqAt.int_int a t' b t
  |str b=>obtain⟨t,rfl⟩:=c;exact SeqAt.EqAt.int_str a t' b t
  |_=>exact absurd (show false=true from d) lN
 |str a=>
  obtain⟨t',rfl⟩:=e;cases x with
  |non=>cases c;exact SeqAt.EqAt.str_none a t'
  |bl b=>cases c;exact SeqAt.EqAt.str_bool a t' b
  |int b=>obtain⟨t,rfl⟩:=c;exact SeqAt.EqAt.str_int a t' b t
  |str b=>obtain⟨t,rfl⟩:=c;exact SeqAt.EqAt.str_str a t' b t
  |_=>exact absurd (show false=true from d) lN
 |_=>exact absurd (show false=true from f) lN
abbrev eqU(x:V)(u:Value):Bool:=match u with
 |.none=>eqV .non x
 |.bool b=>eqV (.bl b) x
 |.int i _=>eqV (.int i) x
 |.str z _=>eqV (.str z) x
 |_=>false
def zf4{x y:V}(r:RelV y u)(f:qX y=true):eqU x u=eqV y x:=by
 cases y with
 |non=>cases r;rfl
 |bl b=>cases r;rfl
 |int i=>obtain⟨t,rfl⟩:=r;rfl
 |str z=>obtain⟨t,rfl⟩:=r;rfl
 |_=>exact absurd (show false=true from f) lN
def Qj{x:V}:∀{a:List V}{us:List Value},Vals a us->a.all qX=true->us.any (eqU x)=a.any λy=>eqV y x
 |_,_,.nil,_=>rfl
 |y::a,u::us,.cons r t,f=>by rw[List.all_cons,mI]at f;rw[mY,mY,zf4 r f.1,Qj t f.2]
def X1{x:V}{v:Value}(c:RelV x v)(b:qX x=true):∀{a:List V}{us:List Value},Vals a us->a.all qX=true->∀u∈us,SeqAt.EqAt A s u v (eqU x u)
 |_,_,.nil,_=>λu hu=>by cases hu
 |y::a,u::us,.cons r t,f=>λd hu=>by
  rw[List.all_cons,mI]at f;rcases lu.mp hu with rfl|hu
  .rw[zf4 r f.1];exact zmm r c f.1 b
  .exact X1 c b t f.2 d hu
abbrev inV(x:V)(a:List V):Bool:=a.any λy=>eqV y x
abbrev rIn(K:W.Frag)(b:Bool):R2:=λx y H Q=>Ex2 λp a=>An5 (y=.ref p) ((SqL K H p a\/SqT K H p a)) (qX x=true) (a.all qX=true) (Q (.bl (if b then !inV x a else inV x a)) H)
def zf5:OpR X (compareOp .In) (rIn X.K false):=by
 intro π s σ H x y v u Q I d e h;obtain⟨p,f,rfl,hq,c,fs,q⟩:=h;cases e;rcases hq with hq|hq
 .obtain⟨a,r,pl,hz⟩:=I.list hq;refine SeqAt.in_listAt (eqU x) pl.isList (λw b=>X1 d c r fs w (by simpa using b)) ⟨.bl _,H,I,rfl,?_⟩;rw[show a.toArray.any (eqU x)=a.any (eqU x)by simp,Qj r fs];exact q
 .obtain⟨a,r,pl,hz⟩:=I.tuple hq;refine SeqAt.in_tupleAt (eqU x) pl (λw b=>X1 d c r fs w (by simpa using b)) ⟨.bl _,H,I,rfl,?_⟩;rw[show a.toArray.any (eqU x)=a.any (eqU x)by simp,Qj r fs];exact q
def zad:yj X (.builtin "len") (λe H Q=>∃p b,e=[.ref p]/\(SqL X.K H p b\/SqT X.K H p b)/\Q (.int b.length) H):=by
 intro π s σ H e us Q I r h;obtain⟨p,b,rfl,hq,q⟩:=h;obtain⟨u,rfl,f⟩:=Zp r;cases f;have g:=qi;rcases hq with hq|hq
 .obtain⟨c,d,pl,hz⟩:=I.list hq;have a:=d.length;exact Calls.call_len_list pl.isList (by simp only[lC]<;>lia) ⟨.int b.length,H,I.tok _,⟨s.toks+1,by rw[lC,a]⟩,q⟩
 .obtain⟨c,d,pl,hz⟩:=I.tuple hq;have a:=d.length;exact len_tuple pl (by simp only[lC]<;>lia) ⟨.int b.length,H,I.tok _,⟨s.toks+1,by rw[lC,a]⟩,q⟩
def zae:yj X (.builtin "len") (λa H Q=>∃z,a=[.str z]/\z.length<=sizeLine/\Q (.int z.length) H):=by
 intro π s σ H a us Q I r h;obtain⟨z,rfl,hz,q⟩:=h;obtain⟨u,rfl,t,rfl⟩:=Zp r;have b:=qi;exact len_str ⋯ ⟨.int z.length,H,I.tok _,⟨_,rfl⟩,q⟩
def zaf:yj X (.type "list") (λx H Q=>∃p f,x=[.ref p]/\(SqL X.K H p f\/SqT X.K H p f)/\∀l,H l=none->Q (.ref l) (upd H l (.lst f))):=by
 intro π s σ H x us Q I r h;obtain⟨p,f,rfl,hq,q⟩:=h;obtain⟨u,rfl,y⟩:=Zp r;cases y;have g:∀(a:List Value),Vals f a->f.length<=sizeLine->∀(h':Heap) (c:Nat),(∀b v,s.heap.get? b=some v->h'.get? b=some v)->
   h'.get? s.heap.objs.size=some { cls:=.type "list",dict:=none,data:=.seq a.toArray c,slots:=#[] }->EP X π σ Q (.ref s.heap.objs.size) { s with heap:=h' }:=λa d hz h' c j e=>
  ⟨.ref s.heap.objs.size,_,I.laid (t':=s.toks) j (ll _) (show zN X.prog X.w _ h' _ (.lst f)from⟨hz,a,c,d,e⟩),rfl,q _ (I.hok.fresh (ll _))⟩
 rcases hq with hq|hq
 .obtain⟨a,d,pl,hz⟩:=I.list hq;have i:=d.length;obtain⟨o,t,k,n,m⟩:=pl.isList;exact call_list_seq p (.inl rfl) t k m (λh' c j e=>g a d hz h' c j e) (by simp only[lC]<;>lia)
 .obtain⟨a,d,pl,hz⟩:=I.tuple hq;have i:=d.length;obtain⟨o,t,k,n,m⟩:=pl;exact call_list_seq p (.inr rfl) t k m (λh' c j e=>g a d hz h' c j e) (by simp only[lC]<;>lia)
def J5:yj X (.type "tuple") (λi H Q=>∃p c,i=[.ref p]/\((SqL X.K H p c/\∀l,H l=none->Q (.ref l) (upd H l (.tup c)))\/(SqT X.K H p c/\Q (.ref p) H))):=by
 intro π s σ H i us Q I r h;obtain⟨p,c,rfl,h⟩:=h;obtain⟨u,rfl,m⟩:=Zp r;cases m;rcases h with⟨hq,q⟩|⟨hq,q⟩
 .obtain⟨a,d,pl,hz⟩:=I.list hq;have g:=d.length;refine call_tuple_list pl.isList (λh' k=>?_) (by simp only[lC]<;>omega);have f:Inv X π σ H { s with heap:=h' }:=I.kept (t':=s.toks) k;have j:Inv X π σ (upd H h'.objs.size (.tup c)) { s with heap:=h'.push { cls:=.type "tuple",data:=.seq a.toArray } }:=
   f.laid (t':=s.toks) (λb o e=>li _ e) (ll _) (show zN X.prog X.w _ _ _ (.tup c)from⟨hz,a,d,IsTup.new _ _⟩)
  exact⟨.ref h'.objs.size,_,j,rfl,q _ (f.hok.fresh (ll _))⟩
 .obtain⟨a,d,pl,hz⟩:=I.tuple hq;exact call_tuple_same pl ⟨.ref p,H,I,rfl,q⟩
abbrev tyV(K:W.Frag)(T:String)(x:V)(H:Hp):Prop:=match x with
 |.str _=>T= "str"
 |.int _=>T= "int"
 |.ref p=>(T= "list"/\∃a,SqL K H p a)\/(T= "tuple"/\Ex1 λo=>An3 (K.lookup p=some o) (o.cls=.type "tuple") (o.dict=none))\/
   (T= "dict"/\((∃kvs,H p=some (.dK kvs))\/∃kvs,H p=some (.dT kvs)))\/(T= "set"/\Ex2 λS n=>H p=some (.set S n))
 |_=>False
def zf6{T:String}{x:V}{v:Value}(I:Inv X π σ H s)(r:RelV x v)(d:tyV X.K T x H) :
  s.TypeIs v T/\∀a,v=.ref a->∃h,s.heap.get? a=some h/\h.dict=none:=by
 cases x with
 |str z=>obtain⟨t,rfl⟩:=r;cases(show T= "str" from d);exact⟨oE s z t,λ_ e=>nomatch e⟩
 |int i=>obtain⟨t,rfl⟩:=r;cases(show T= "int" from d);exact⟨qb s i t,λ_ e=>nomatch e⟩
 |ref p=>
  cases r;rcases d with⟨rfl,xs,hq⟩|⟨rfl,o,hk,hc,g⟩|⟨rfl,hk⟩|⟨rfl,S,n,hk⟩
  .obtain⟨j,_,pl,_⟩:=I.list hq;refine⟨pl.isList.typeIs,λa e=>?_⟩;cases e;obtain⟨o,n,e,c,g,_⟩:=pl;exact⟨o,e,g⟩
  .refine⟨⟨o,I.kIn p o hk,hc⟩,λa e=>?_⟩;cases e;exact⟨o,I.kIn _ o hk,g⟩
  .have z:∃o,s.heap.get? p=some o/\o.ExactDict:=by
    rcases hk with⟨kvs,hk⟩|⟨kvs,hk⟩
    .obtain⟨_,_,_,_,o,_,_,e,b,_⟩:=I.hok p _ hk;exact⟨o,e,b⟩
    .obtain⟨_,_,_,_,o,_,_,e,b,_⟩:=I.hok p _ hk;exact⟨o,e,b⟩
   obtain⟨o,e,b⟩:=z;refine⟨⟨o,e,b.1⟩,λa f=>?_⟩;cases f;exact⟨o,e,b.2.1⟩
  .obtain⟨o,_,_,_,e,b,_⟩:=I.hok p _ hk;refine⟨⟨o,e,b.1⟩,λa f=>?_⟩;cases f;exact⟨o,e,b.2.1⟩
 |_=>exact False.elim d
abbrev zhV(K:W.Frag)(T:String)(r:V->List V->Hp->VK->Prop)(b:TE):TE:=λσ H Q=>b σ H λx a=>tyV K T x a/\r x [] a Q
abbrev tBM(K:W.Frag)(T:String)(r:V->List V->Hp->VK->Prop)(c:TE)(t:TA):TE:=λσ H Q=>c σ H λx a=>tyV K T x a/\t σ a λd b=>r x d b Q
variable {o:Expr}{to:TE}{t:TA}{name:Str}{apos cpos:Pos}{T id:String}{r:V->List V->Hp->VK->Prop}
def zmn(l:PlainAttrs T)(slot:Slot T name id)(c:typeOf (.builtin id)=pure (.type "method_descriptor"))(j:MtR X id r)(k:PE X o to)
  (a:attributeBase o name X.env (eval o X.env)=eval o X.env:=by rfl)(b:(apos.endLine==cpos.line)=true:=by rfl):PE X (.Call (.Attribute o name apos) [] [] cpos) (zhV X.K T r to):=by
 intro π s σ H Q I h;refine wpAny_Call_method0_late a b (thn (k π s σ H _ I h) λv n ⟨x,f,d,e,p,m⟩=>?_);obtain⟨g,i⟩:=zf6 d e p;exact⟨T,id,l,slot,c,g,i,o0 rfl (PySem.evalArgs_none (j π n σ f x [] v [] Q d e .nil m))⟩
def zoe(z:PlainAttrs T)(slot:Slot T name id)(f:typeOf (.builtin id)=pure (.type "method_descriptor"))(u:MtR X id r)(w:PE X o to)(q:PA X (e::es) t)
    (b:attributeBase o name X.env (eval o X.env)=eval o X.env:=by rfl)
    (d:((backTo cpos (starEach (e :: es) X.env)).all (fun x=>!x.1) && (backToKw cpos (keywordEach [] X.env)).all (fun x=>x.1.isSome)
      && decide ((e::es).length+([]:List Keyword).length+(if([]:List Keyword).isEmpty then 0 else 1)<30))=true:=by rfl)
    (c:(apos.endLine==cpos.line)=true:=by rfl)(y:starEach (e::es) X.env=(false,eval e X.env)::starEach es X.env:=by rfl)(a:(backTo cpos (starEach es X.env)).any (·.1)=false:=by rfl) :
    PE X (.Call (.Attribute o name apos) (e::es) [] cpos) (tBM X.K T r to t):=by
  intro π s σ H Q I h;refine oR b d c rfl (thn (w π s σ H _ I h) λv D ⟨x,k,g,j,F,A⟩=>?_);obtain⟨n,p⟩:=zf6 g j F;refine⟨T,id,z,slot,f,n,p,?_⟩;have i:=q cpos π D σ k _ g A;rw[y]at i ⊢;refine o0 (by show(false||(backTo cpos (starEach es X.env)).any (·.1))=false;rw[a]<;>rfl) (pw ?_);exact thn i λus E ⟨vs,l,m,C,B⟩=>u π E σ l x vs v us Q m j C B
end
abbrev MtM(X:Cx)(id:String)(r:V->List V->Hp->VK->Prop):Prop:=
 ∀(π:List (Addr×Obj)) (s:Shared) (σ:St) (H:Hp) (x:V) (a:List V) (v:Value) (us:List Value) (Q:VK),Inv X π σ H s->RelV x v->Vals a us->r x a H Q->
  wpAny (model X.prog X.w) X.A (call (.builtin id) (v::us)) (EP X π σ Q) X.xe s
def Vals.uncons{x:V}{a:List V}(h:Vals (x::a) us):Ex2 λu r=>An3 (us=u::r) (RelV x u) (Vals a r):=by
 cases h with
 |cons r t=>exact⟨_,_,rfl,r,t⟩
def Vals.one{x:V}(h:Vals [x] us):∃u,us=[u]/\RelV x u:=by
 obtain⟨u,_,rfl,r,t⟩:=h.uncons;cases t;exact⟨u,rfl,r⟩
def Vals.two{x y:V}(h:Vals [x,y] us):∃u v,us=[u,v]/\RelV x u/\RelV y v:=by
 obtain⟨u,_,rfl,r,t⟩:=h.uncons;obtain⟨v,rfl,q⟩:=t.one;exact⟨u,v,rfl,r,q⟩
def Vals.zero:∀{us:List Value},Vals [] us->us=[]
 |_,.nil=>rfl
def Vals.dropLast{a:List V}(h:Vals a us):Vals a.dropLast us.dropLast:=by
 induction h with
 |nil=>exact .nil
 |cons r t ih=>
  cases t with
  |nil=>exact .nil
  |cons q t'=>exact .cons r ih
def Vals.eraseIdx:∀{a:List V}{us:List Value}(i:Nat),Vals a us->Vals (a.eraseIdx i) (us.eraseIdx i)
 |_,_,_,.nil=>.nil
 |_,_,0,.cons _ t=>t
 |_,_,i+1,.cons r t=>.cons r (Vals.eraseIdx i t)
def Vals.rep{a:List V}(h:Vals a us):∀k:Nat,Vals (List.replicate k a).flatten (List.replicate k us).flatten
 |0=>.nil
 |k+1=>by rw[mi,mi,mR,mR];exact Vals.append h (Vals.rep h k)
def zd8{α:Type}(l:List α):l.eraseIdx (l.length-1)=l.dropLast:=by
 induction l with
 |nil=>rfl
 |cons a r ih=>
  cases r with
  |nil=>rfl
  |cons b r=>
   have e:(a::b::r).length-1 =((b::r).length-1)+1:=by
    have c:(a::b::r).length=r.length+2:=rfl;have d:(b::r).length=r.length+1:=rfl
    lia
   rw[e,List.eraseIdx_cons_succ,ih]
   all_goals rfl
def Jx{α:Type}:∀(l:List α) (i:Nat),(l.eraseIdx i).length<=l.length
 |[],_=>ll _
 |_::_,0=>nM _
 |_::r,i+1=>Nat.succ_le_succ (Jx r i)
def Z8(b:List Value):∀(k:Nat) (a:List Value),
  List.foldl (λd f=>d++f) a.toArray (List.replicate k b.toArray)=(a++(List.replicate k b).flatten).toArray
 |0,a=>m!""
 |k+1,a=>by
  have e:a.toArray++b.toArray=(a++b).toArray:=m!""
  have c:(a++b)++(List.replicate k b).flatten=a++(List.replicate (k+1) b).flatten:=by rw[mi,mR,mS]
  rw[<-c,<-Z8 b k (a++b),<-e,mi,mU]
section
variable {l:Addr}{xs ys zs:List V}
def Inv.lset{a its':List Value}{f:Array Value->Array Value}{t':Nat}(I:Inv X π σ H s)(b:H l=some (.lst xs))
  (e:s.heap.get? l=some { cls:=.type "list",data:=.seq a.toArray n })(d:f a.toArray=its'.toArray)(h:Vals ys its')(hz:ys.length<=sizeLine) :
  Inv X π σ (upd H l (.lst ys)) { s with heap:=s.heap.update l (Obj.mapSeq f),toks:=t' }:=by
 have q:=PySem.IsL.update e f;rw[d]at q;refine I.write (x:=l) (e:=l) (by rw[b];exact trivial) (.inl rfl) (λi u c g=>(mK s.heap (Obj.mapSeq f) (Ne.symm c)).trans g) ⟨_,q⟩ ?_;exact⟨hz,its',_,h,q⟩
def Inv.lnew{a:List Value}{t':Nat}(I:Inv X π σ H s)(b:Vals ys a)(hz:ys.length<=sizeLine) :
  Inv X π σ (upd H s.heap.objs.size (.lst ys)) { s with heap:=s.heap.push { cls:=.type "list",data:=.seq a.toArray },toks:=t' }:=
 I.laid (λ_ _ q=>li _ q) (ll _) ⟨hz,a,0,b,lL _ rfl⟩
def Inv.fresh(I:Inv X π σ H s):H s.heap.objs.size=none:=I.hok.fresh (ll _)
def Inv.lstM(I:Inv X π σ H s)(b:H l=some (.lst xs)):xs.length<=sizeLine/\∃(a:List Value) (n:Nat),Vals xs a/\xs.length=a.length/\s.heap.get? l=some { cls:=.type "list",data:=.seq a.toArray n }:=by
 obtain⟨z,a,n,r,e⟩:=I.hok l _ b;exact⟨z,a,n,r,r.length,e⟩
def X2(h:n<=sizeLine):Builtin.List.listTooLong n=false:=by
 unfold Builtin.List.listTooLong;exact lR ⋯
end
abbrev Xe:V->List V->Hp->VK->Prop:=λx vs H Q=>Ex3 λl a y=>An5 (x=.ref l) (vs=[y]) (H l=some (.lst a)) (a.length<sizeLine) (Q .non (upd H l (.lst (a++[y]))))
def xF:MtM X "list.append" Xe:=by
 intro π s σ H x vs v us Q I f d h;obtain⟨l,i,y,rfl,rfl,b,hz,q⟩:=h;cases f;obtain⟨u,rfl,c⟩:=d.one;obtain⟨z,a,n,r,g,e⟩:=I.lstM b;refine ni F.slot_list_append ⟨_,e,rfl⟩ F.entry_list_append (F.args_list_append_2 _ _) (PySem.list_append l a.toArray n u (by rw[lC];lia)) ⟨e,?_⟩;refine⟨.non,_,I.lset (its':=a++[u]) b e m!"" (r.append (.cons c .nil)) ?_,rfl,q⟩;rw[lx,p8]
 lia
abbrev zcY:V->List V->Hp->VK->Prop:=λx vs H Q=>Ex4 λl b a c=>An6 (x=.ref l) (vs=[.ref b]) (H l=some (.lst a)) (H b=some (.lst c)) (a.length+c.length<=sizeLine) (Q .non (upd H l (.lst (a++c))))
def Jy:MtM X "list.extend" zcY:=by
 intro π s σ H x vs v us Q I t p h;obtain⟨l,b,y,B,rfl,rfl,f,i,hz,q⟩:=h;cases t;obtain⟨u,rfl,o⟩:=p.one;cases o;obtain⟨z,c,n,r,w,e⟩:=I.lstM f;obtain⟨A,a,k,m,j,g⟩:=I.lstM i;have hsz:c.toArray.size+a.toArray.size<=sizeLine:=by rw[lC,lC];lia
 have d:¬(!c.toArray.isEmpty&&Builtin.List.listTooLong (c.toArray.size+a.toArray.size))=true:=by rw[X2 hsz,Bool.and_false];exact lN
 refine ni F.slot_list_extend ⟨_,e,rfl⟩ F.entry_list_extend (F.args_list_extend_2 _ _)
  (AutoSeq1.list_extend_list_list_0 l c.toArray n b a.toArray k d (by rw[lC];lia) ⋯) ⟨e,g,?_⟩
 refine⟨.non,_,I.lset (its':=c++a) f e m!"" (r.append m) ?_,rfl,q⟩;rw[lx]
 lia
abbrev zmo:V->List V->Hp->VK->Prop:=λx vs H Q=>Ex3 λl a y=>An5 (x=.ref l) (vs=[]) (H l=some (.lst a)) (a[a.length-1]? =some y) (Q y (upd H l (.lst a.dropLast)))
def zmp:MtM X "list.pop" zmo:=by
 intro π s σ H x vs v us Q I m k h;obtain⟨l,o,y,rfl,rfl,d,i,q⟩:=h;cases m;have b:=k.zero;subst b;obtain⟨z,a,n,r,f,e⟩:=I.lstM d;obtain⟨u,g,j⟩:=r.get i;have c:a.toArray[a.toArray.size-1]? =some u:=by show a.toArray[a.length-1]? =some u;rw[<-n6,<-f];exact g
 refine ni F.slot_list_pop ⟨_,e,rfl⟩ F.entry_list_pop (F.args_list_pop_1 _) (MeetsSeq.list_pop_last l a.toArray n u c (by rw[lC];omega)) ⟨e,?_⟩;refine⟨y,_,I.lset (its':=a.dropLast) d e ?_ r.dropLast ?_,j,q⟩
 .show a.toArray.eraseIdxIfInBounds (a.toArray.size-1)=a.dropLast.toArray;rw[lC,pf,zd8]
 .rw[List.length_dropLast];omega
abbrev zf7:V->List V->Hp->VK->Prop:=λx vs H Q=>Ex5 λl a i k y=>An8 (x=.ref l) (vs=[.int i]) (H l=some (.lst a)) (-(2 ^ 63)<=i) (i<2 ^ 63) (seqIndex? i a.length=some k) (a[k]? =some y) (Q y (upd H l (.lst (a.eraseIdx k))))
def zhW:MtM X "list.pop" zf7:=by
 intro π s σ H x vs v us Q I B A h;obtain⟨l,C,i,k,y,rfl,rfl,c,d,f,g,o,q⟩:=h;cases B;obtain⟨u,rfl,p⟩:=A.one;obtain⟨t,rfl⟩:=p;obtain⟨z,a,n,r,j,e⟩:=I.lstM c;obtain⟨w,m,b⟩:=r.get o;refine ni F.slot_list_pop ⟨_,e,rfl⟩ F.entry_list_pop (F.args_list_pop_2 _ _)
  (MeetsSeq.list_pop_at l a.toArray n i t k w (fitsIndex_both d f) (by rw[lC,<-j];exact g) (by rw[<-n6];exact m) (by rw[lC];lia)) ⟨e,?_⟩
 refine⟨y,_,I.lset (its':=a.eraseIdx k) c e ?_ (r.eraseIdx k) ?_,b,q⟩
 .show a.toArray.eraseIdxIfInBounds k=(a.eraseIdx k).toArray;rw[pf]
 .have:=Jx C k
  lia
abbrev zmq:R2:=λx y H Q=>Ex3 λl k a=>An7 (x=.ref l) (y=.int k) (H l=some (.lst a)) (-(2 ^ 63)<=k) (k<2 ^ 63) (a.length*k.toNat<=sizeLine) (∀p,H p=none->Q (.ref p) (upd H p (.lst (List.replicate k.toNat a).flatten)))
def zcZ{α:Type}(a:List α)(k:Nat):(List.replicate k a).flatten.length=k*a.length:=by
 induction k with
 |zero=>simp
 |succ k ih=>rw[mi,mR,lx,ih,Nat.succ_mul,Nat.add_comm]
def zmr:OpR X (binaryOp .Mult) zmq:=by
  intro π s σ H x y v u Q I D E h;obtain⟨l,k,G,rfl,rfl,B,w,A,hz,q⟩:=h;cases D;obtain⟨t,rfl⟩:=E;obtain⟨z,b,n,r,C,e⟩:=I.lstM B;have g:b.toArray.size*k.toNat<=sizeLine:=by rw[lC,<-C];exact hz
  have d:¬b.toArray.size*k.toNat>(2 ^ 63-1) / 8:=by
    have:(sizeLine:Nat)<=(2 ^ 63-1) / 8:=∅
    lia
  have f:¬(!Builtin.List.listFitsIndex k)=true:=by rw[fitsIndex_both w A];exact lN
  have c:¬Builtin.List.listTooLong (b.toArray.size*k.toNat)=true:=by rw[X2 g];exact lN
  have i:List.foldl (λj o=>j++o) #[] (List.replicate (if b.toArray.isEmpty=true then 0 else k.toNat) b.toArray)=(List.replicate k.toNat b).flatten.toArray:=by
    have p:∀m:Nat,List.foldl (λj o=>j++o) #[] (List.replicate m b.toArray)=(List.replicate m b).flatten.toArray:=λm=>by have:=Z8 b m [];rw[nz]at this;exact this
    rw[p];cases b with
    |nil=>simp
    |cons a r'=>rw[l7 m!""]
  refine wpAny_binaryOp_repeat_ref (T:="list") (U:="int") ∅ ⟨_,e,rfl⟩ (λs'=>qb s' k t) noFill_list_mul F.fills_int_mul py repeat_list F.slot_int_index.lookup
    (ni py (qb s k t) F.entry_int_rmul (F.args_int_rmul_2 _ _) (int___rmul___int_list k t l b.toArray n)
      ⟨e,rfl,⟨_,e,rfl⟩,ni F.slot_list_mul ⟨_,e,rfl⟩ F.entry_list_mul (F.args_list_mul_2 _ _) (AutoListH.list___mul___list_int_3 l b.toArray n k t f d c) ⟨e,?_⟩⟩)
  rw[i];exact⟨.ref _,_,I.lnew (t':=s.toks) (r.rep k.toNat) (by rw[zcZ,Nat.mul_comm];exact hz),rfl,q _ I.fresh⟩
end L2
namespace Att
open PySem PySem.W PySem.Calls PyProof.Rows
def Uc{P:Params}:∀(ns:List Int) (vs:List Value),WellAll P h vs (ns.map WData.int)->IntsAre vs ns:=by
 intro ns;induction ns with
 |nil=>intro vs w;rw[pz]at w;cases w;exact .nil
 |cons n ns ih=>
  intro vs w;rw[lG]at w;cases w with
  |cons a b=>cases a;exact .cons _ _ (ih _ b)
def zf8{l:OpenLaw}(s:l.most=some n){P:Params}{args:List WData}{c:List Value}
  (b:l.row.toRowW.claim.pre args=true)(j:WellAll P h c args) :
  ∃a vs ns,c=[Value.ref a]/\args=[WData.list (ns.map WData.int)]/\h.get? a=some { cls:=.type "list",data:=.seq vs.toArray }/\IntsAre vs ns/\ns.length<=n:=by
 have i:WShape.hasAll [] args [.list .int]=true:=(pre_splitW b).1;have k:l.pre.holds [] { args:=args } =true:=(pre_splitW b).2;obtain⟨d,r,rfl,m,o⟩:=hasAllW_cons i;obtain rfl:=hasAllW_nil o;obtain⟨u,rfl,p⟩:=hasW_list m;obtain⟨ns,rfl⟩:=items_int p;have e:ns.length<=n:=by
  unfold OpenLaw.pre at k;have f:(WTm.not (.lt (.lit (.int (n:Int))) (.len (.arg 0)))).holds [] { args:=[.list (ns.map .int)] } =true:=by have f:=(holds_andW k).1;rw[s]at f;exact f
  have g:=condW_of f (w_not (w_lt w_lit (w_len_list (w_arg rfl))));rw[l8]at g;refine Nat.le_of_not_lt λq=>?_;have t:(n:Int)<((ns.length:Nat):Int):=f!"i"
  first
   |(rw[lM t]at g;exact absurd g ∅)
   |(simp at g;omega)
 cases j with
 |cons w1 w2=>
  cases w2;cases w1 with
  |list ho hall=>exact⟨_,_,ns,rfl,rfl,ho,Uc ns _ hall,e⟩
def zf9(l:OpenLaw)(args:List WData):l.row.toRowW.claim.post args (.bool true) args=true:=
 postW_of (r:=l.row.toRowW) (X:=(true==true))
  (show WShape.has [] (.bool true) .bool=true by first|rfl|decide|simp[WShape.has,WShape.arms,WShape.armsAll])
  (show(WTm.eq .res (.lit (.bool true))).value [] { args:=args,res:=some (.bool true),after:=args } =some (.bool (true==true))from w_eq_bool (w_res rfl) w_lit) rfl
section
variable {K:Frag}
end
end Att
namespace L2
open PySem PySem.Spec PyProof.Rows
def Z9:∀{vs:List Value}{ns:List Int},IntsAre vs ns->Vals (ns.map V.int) vs
 |_,_,.nil=>.nil
 |_,_,.cons n t h=>.cons ⟨t,rfl⟩ (Z9 h)
abbrev zms(H:Hp):Prop:=∀b,H b=none\/Ex2 λo a=>H b=some (.frz o (.lst a))
def zhX{O:Str->Option Value}{R:CXT}{k:Nat}{J:Addr}{sp:Sp}{s₁:Shared}{vs:List Value}{ns:List Int}
    (S:K.In s₁.heap)(A:s₁.heap.Ns mainGlobals mg)(f:s₁.heap.Ns builtinsNs O)(M:∀x:Str,x≠"__name__"->O x=bootBuiltins x)(y:s₁.heap.NoLimit)(hg:s₁.gens= #[])
    (G:s₁.heap.get? a=some { cls:=.type "list",data:=.seq vs.toArray })(X:IntsAre vs ns)(Y:ns.length<=sizeLine)(hr:Room k callerA)
    (F:∀g:Heap,K.In g->g.Ns mainGlobals mg->FnOk P w K mg g R k J fd [x] sp)(l:∀(s:Shared) (u:Value),BindsTo s fd ⟨[u],[]⟩ [(x,u)])
    (N:∀H:Hp,zms H->SqL K H a (ns.map V.int)->sp [.ref a] H (λv _=>v=.bl true) λ_ _ _=>False)
    (L:∀H e s',R [] H s₁ (λ_ _ _=>False) e s'->False) :
    codeAny (model P w) callerA (.call (.ref J) ⟨[.ref a],[]⟩) (λr s'=>r=.ok (.ret (.bool true))/\OldK s₁.heap s'.heap/\s'.os=s₁.os/\AllBare s'.gens) s₁:=by
  have Z:=Z9 X;have D:=X.length;have j:∀H:Hp,zms H->SqL K H a (ns.map V.int)->HOk P w H s₁.heap->(∀b,H b≠none->b=a)->(H a≠none->K.lookup a=none)->
      codeAny (model P w) callerA (.call (.ref J) ⟨[.ref a],[]⟩) (λr s'=>r=.ok (.ret (.bool true))/\OldK s₁.heap s'.heap/\s'.os=s₁.os/\AllBare s'.gens) s₁:=by
    intro H W hS B U hK;have c:∀{b:Addr}{o:Obj},s₁.heap.get? b=some o->H b=none->(Zn s₁.heap H).get? b=some o:=λe n=>zhD e n;have Q:∀{b:Addr}{o:Obj}{es:Array DictEntry}{ep:Nat},s₁.heap.get? b=some o->o.data=.dict es ep->H b=none:=λ{b o es ep} e d=>by
      cases q:H b with
      |none=>rfl
      |some u=>have I:b=a:=U b (by rw[q];simp);subst I;rw[G]at e;cases e;have d':Data.seq vs.toArray _=Data.dict es ep:=d;cases d'
    have i:∀{b:Addr}{m:Str->Option Value},s₁.heap.Ns b m->(Zn s₁.heap H).Ns b m:=λ{b m} ⟨o,es,ep,e,d,r⟩=>⟨o,es,ep,c e (Q e d),d,r⟩;have t:K.In (Zn s₁.heap H):=fun b o e=>c (S b o e) (by
      cases q:H b with
      |none=>rfl
      |some u=>
        have I:b=a:=U b (by rw[q];simp);subst I;rw[hK (by rw[q];simp)]at e;cases e)
    have hM:Mod K mg (Zn s₁.heap H):=⟨t,i A,⟨O,i f,M⟩,let⟨mc,h1,h2⟩:=y;⟨mc,i h1,h2⟩⟩;have e0:Env0 P w K mg (Zn s₁.heap H) callerA [] s₁ H:=⟨rfl,hM,λb o e=>zkj e,Nat.le_of_eq (zfN _ _),trivial,λb f=>absurd (show b∈([]:List Addr)from f) m!"",B,.of_eq hg⟩;refine qE ((F _ t (i A)).run callerA [] s₁ H ⟨[.ref a],[]⟩ [.ref a] [.ref a] _ _ hr e0 (l s₁ (.ref a)) (.cons rfl .nil) (N H W hS)) λr s' h=>?_;cases r with
    |error e=>exact(L H e s' h).elim
    |ok fl=>
      cases fl with
      |next=>exact False.elim h
      |brk=>exact False.elim h
      |cont=>exact False.elim h
      |ret u=>
        obtain⟨v,H',os,p,un,C,r',q⟩:=h;have q':v=.bl true:=q;subst q';obtain rfl:u=Value.bool true:=r';refine⟨rfl,OldK.of_keep λb o e=>?_,os,p⟩;cases q:H b with
        |none=>exact un.keep b o e q (by intro z;exact absurd (show b∈([]:List Addr)from z) m!"") m!""
        |some u=>
          rcases W b with z|⟨ob,xs,z⟩
          · rw[q]at z;cases z
          · have z2:=un.frzs b ob _ z
            obtain⟨T,_⟩:=B b _ z;obtain⟨e2,_⟩:=C b _ z2;rw[e]at T;cases T;exact e2
  cases hk:K.lookup a with
  |some o=>have e:=S a o hk;rw[G]at e;cases e;refine j (λ_=>none) (λ_=>.inl rfl) (.inr ⟨_,vs.toArray,_,hk,rfl,rfl,rfl,by rw[lC,D];exact Y,by simpa using Z⟩) (λb u z=>by have E:(none:Option HO)=some u:=z;cases E) (λb z=>absurd rfl z) λz=>absurd rfl z
  |none=>
    refine j (λb=>if b=a then some (.frz { cls:=.type "list",data:=.seq vs.toArray } (.lst (ns.map V.int)))else none) (λb=>?_) (.inl (.inr ⟨{ cls:=.type "list",data:=.seq vs.toArray },l9 rfl⟩)) (λb u z=>?_) (λb z=>?_) λ_=>hk
    · by_cases f:b=a
      · exact .inr ⟨_,_,l9 f⟩
      · exact .inl (l7 f)
    · by_cases f:b=a
      · have E:=(l9 f).symm.trans z
        cases E;subst f;exact⟨G,by rw[l8];exact Y,vs,_,Z,G⟩
      · have E:=(l7 f).symm.trans z
        cases E
    · by_cases f:b=a
      · exact f
      · exact absurd (l7 f) z
abbrev zL(s:Stmt)(j:Nat):Stmt:=match s with
 |.ClassDef _ _ _ body _ _ _ _ _ _ _=>body.getD j (.Pass ⟨0,0,0,0⟩)
 |_=>.Pass ⟨0,0,0,0⟩
abbrev defArgs(s:Stmt):Arguments:=match s with
 |.FunctionDef _ a _ _ _ _ _ _ _ _=>a
 |_=>{ posonlyargs:=[],args:=[],vararg:=none,kwonlyargs:=[],kw_defaults:=[],kwarg:=none,defaults:=[] }
abbrev defBody(s:Stmt):List Stmt:=match s with
 |.FunctionDef _ _ b _ _ _ _ _ _ _=>b
 |_=>[]
abbrev defScope(s:Stmt):Scope:=match s with
 |.FunctionDef _ _ _ _ _ _ sc _ _ _=>sc
 |_=>{ kind:=.function,names:=[],isGenerator:=false,isCoroutine:=false }
/---/abbrev CX0:CXT:=λ_ _ _ _ _ _=>False
/---/abbrev E0:XK:=λ_ _ _=>False
def Ud:qj CX0 X E0:=λ_ _ _ _ _ _ _ h=>h.elim
structure Fun (K:W.Frag) (x qual:Str) (st:Stmt) (f:Addr) (fd:FuncData):Prop where
 ex:∃(oc:Value) (od:Option Addr) (kV doc pm:Value) (an:Option Addr) (cdv ct:Value) (osl:Array (Option Value)),
  fd=W.fnOf x qual (defArgs st) (defBody st) (defScope st) .none kV doc pm an cdv ct/\K.lookup f=some ⟨oc,od,.func fd,osl⟩/\W.codeIn K cdv qual=true
 kp:W.keepIn K (.ref f)=true
section
variable {base:Heap}
def Fun.ok{b:Str}{i:List Str}{k:Nat}{sp:Sp}(F:Fun K x b st f fd)(S:FnScope N i (defScope st))(len:∀vs H Q E,sp vs H Q E->vs.length=i.length)
    (d:∀ (c:Value) (A:Around) (a:List Env) (s:Shared) (H:Hp) (vs:List V) (Q:VK) (E:XK),Room k (A.deeper (envOfC b (defScope st) s.heap.objs.size f c))->sp vs H Q E->
      ∃t,PSs (vG CX0 P w K mg base N b (defScope st) f c A a s H E).nox (defBody st) t/\t { nx:=λ_ j=>Q .non j,rt:=Q } (start N vs) H):FnOk P w K mg base CX0 (k+1) f fd i sp:=by
  obtain⟨r,u,kV,doc,v,o,c,p,n,rfl,m,e⟩:=F.ex;refine zjE m e S len λA a s H vs Q E l g=>?_;obtain⟨t,h,q⟩:=d c A a s H vs Q E l g;exact⟨t,h.nox,q⟩
def Fun.binds{a:Str}{g:List Str}(F:Fun K x a st f fd)
  (h:∀(kV doc e:Value) (c:Option Addr) (b d:Value) (us:List Value),us.length=g.length->bindArgs (W.fnOf x a (defArgs st) (defBody st) (defScope st) .none kV doc e c b d) ⟨us,[]⟩=pure (g.zip us)):Binds K fd g []:=by
 obtain⟨l,m,kV,doc,e,c,b,d,j,rfl,k,i⟩:=F.ex;exact .all (h kV doc e c b d)
def zag{a:Str}{i:Value}{j e:Option Addr}{d:Array (Option Value)}{kV doc h b g:Value}(l:K.lookup f=some ⟨i,j,.func (W.fnOf x a (defArgs st) (defBody st) (defScope st) .none kV doc h e b g),d⟩)
  (c:W.codeIn K b a=true)(k:W.keepIn K (.ref f)=true):Fun K x a st f (W.fnOf x a (defArgs st) (defBody st) (defScope st) .none kV doc h e b g):=⟨⟨i,j,kV,doc,h,e,b,g,d,rfl,l,c⟩,k⟩
end
def zd9{k:Nat}(a:Room k A):A.units+1<cLine:=pV (Nat.add_le_add_left (by decide:1<=64) _) a.units
def qk(h:n<=1000):n<sizeLine:=pV h ∅
def pv(i:Nat)(b:X.N[i]? =some x:=by rfl)(d:Vis X.env.scope x:=by first|exact Or.inl rfl|exact Or.inr (Or.inl rfl)|exact Or.inr (Or.inr rfl))(c:(x==("__debug__":Str))=false:=by decide)
  (a:(x==("__classdict__":Str))=false:=by decide):PE X (.Name x pos) (zhE i):=zlV b d c a
abbrev Same(H a:Hp):Prop:=∀b o,H b=some o->a b=some o
def Same.refl(H:Hp):Same H H:=λ_ _ h=>h
def Same.trans{d H2:Hp}(a:Same H d)(b:Same d H2):Same H H2:=λc o h=>b c o (a c o h)
def Same.free{a:Hp}(e:Same H a){l:Addr}(h:a l=Option.none):H l=Option.none:=by
 cases q:H l with
 |none=>rfl
 |some o=>rw[e l o q]at h;cases h
def Same.seq{b:Hp}{xs:List V}(e:Same H b)(h:SqL K H a xs):SqL K b a xs:=by
 rcases h with(h|⟨o,h⟩)|h
 .exact .inl (.inl (e _ _ h))
 .exact .inl (.inr ⟨o,e _ _ h⟩)
 .exact .inr h
def zkw{R:Result->Shared->Prop}{e iter:Expr}{g:List Expr}{b:Scope}{it d:Value}{a:Env}(J:Nat->Shared->Prop)
    (m:∀ k l,J k l->wpAny (model prog w) A (pyNext it) (fun r n=>match r with
      |none=>R (.ok .next) n
      |some v=>wpAny (model prog w) A (letOwnedTupleGo tg it v) (fun _ t=>wpAny (model prog w) A (assign tg a v) (fun _ u=>
          wpAny (model prog w) A (forIn g true fun c r=>if r=true then do let i <- isTrue c a (eval c a);pure (ForInStep.yield i) else pure (ForInStep.yield r)) (fun i o=>
            if i=true then wpAny (model prog w) A (eval e a) (λx y=>wpAny (model prog w) A (call (.builtin "list.append") [d,x]) (λ_ z=>∃j,j<k/\J j z) (λ_ _=>False) y) (λ_ _=>False) o
            else ∃j,j<k/\J j o) (λ_ _=>False) u) (λ_ _=>False) t) (λ_ _=>False) n) (λ_ _=>False) l)
    (k:Nat)(h:J k s):codeAny (model prog w) A (.compLoop (.ListComp e [⟨tg,iter,g,0⟩] b pos) 0 it d a) R s:=by
  refine codeAny_loop rfl J (λG l F=>?_) k h;show wpAny _ A ((compTurn (.ListComp e [⟨tg,iter,g,0⟩] b pos) 0 it d a).onRaise (λx=>do noteFrame x a;theTreesLotGoes x)) _ _ l;refine wpAny_noted ?_;rw[compTurn_list];refine l6 (qa (l6 (nc (m G l F) (λr n p=>?_) λ_ _ f=>f.elim)));cases r with
  |none=>exact lz p
  |some v=>
    refine l6 (nc p (λ_ t B=>l6 (nc B (λ_ u C=>l6 (nc C (λi o q=>?_) λ_ _ f=>f.elim)) λ_ _ f=>f.elim)) λ_ _ f=>f.elim);cases i with
    |false=>exact lz ⟨rfl,q⟩
    |true=>exact l6 (l6 (nc q (λx y D=>l6 (nc D (λ_ z E=>lz (lz ⟨rfl,E⟩)) λ_ _ f=>f.elim)) λ_ _ f=>f.elim))
abbrev PTs(X:Cx)(a:List Expr)(t:TT):Prop:=
 ∀(π:List (Addr×Obj)) (s:Shared) (σ:St) (H:Hp) (Q:Bool->Hp->Prop),Inv X π σ H s->t σ H Q->
  wpAny (model X.prog X.w) X.A (forIn a true λc r=>if r=true then do let ok<-isTrue c X.env (eval c X.env);pure (ForInStep.yield ok)else pure (ForInStep.yield r)) (TP X π σ Q) X.xe s
abbrev zmt:TT:=λ_ H Q=>Q true H
def yG:PTs X [] zmt:=λ_ _ _ H _ I h=>wpAny_tests_nil ⟨H,I,h⟩
def Xf{c:Expr}{t:TT}(h:PT X c t):PTs X [c] t:=λπ s σ H Q I a=>wpAny_tests_one (h π s σ H Q I a)
abbrev z7(X:Cx)(N:List Str)(a:Scope)(b:List (Str×Addr))(C:Addr)(s:Shared)(H:Hp)(fp:List Addr):Cx where
 prog:=X.prog
 w:=X.w
 K:=X.K
 mg:=X.mg
 base:=X.base
 A:=X.A
 N:=N
 s₀:=s
 H₀:=H
 env:=compEnvC a b C X.env
 outer:=X.stack
 stack:=X.stack
 ex:=fp
 fn:=λ_=>false
 calm:=X.calm
 pn:=[]
 xe:=λ_ _=>False
abbrev Zt(n:Nat)(js:List Nat)(σ:St):St:=List.replicate n none++js.map λj=>(σ[j]?).join
structure LcOk (X:Cx) (N:List Str) (n:Nat) (js:List Nat) (scope:Scope) (cl:List (Str×Addr)):Prop where
 clos:closureFor scope X.env=pure cl
 nocell:∀y∈scope.names,y.2≠.cell
 kind:scope.kind=.function
 names:∀y∈scope.names,y.2=.local->scope.names.lookup y.1=some .local
 cells:∀x c,cl.lookup x=some c->X.env.cells.lookup x=some c
 has:∀x,((relabel scope X.env).names.lookup x=some .cell\/(relabel scope X.env).names.lookup x=some .free)->∃c,cl.lookup x=some c
 len:n+js.length=N.length
 free:∀(i:Nat) (x:Str),N[n+i]? =some x->∃j c,js[i]? =some j/\X.N[j]? =some x/\(X.env.scope.names.lookup x=some .cell\/X.env.scope.names.lookup x=some .free)/\
  ((relabel scope X.env).names.lookup x=some .cell\/(relabel scope X.env).names.lookup x=some .free)/\cl.lookup x=some c
section
variable {js:List Nat}{scope:Scope}{cl:List (Str×Addr)}
def LcOk.ok(L:LcOk X N n js scope cl)(I:Inv X π σ H s){fp:List Addr}(d:∀b∈fp,FpOk X π H b)(f:∀b∈fp,b<s.heap.objs.size)(g:s.heap.objs.size<=C):(z7 X N scope cl C s H fp).Ok where
 mod:=I.ok.mod
 kind:=L.kind
 glob:=I.ok.glob
 blt:=I.ok.blt
 above:=g
 inj:=λx y c h i=>I.ok.inj x y c (L.cells x c h) (L.cells y c i)
 has:=λx hx=>L.has x hx
 cab:=λx c hx _=>by cases hx
 hd:=I.ok.hd
 frames:=I.ok.frames
 stk:=.inl rfl
 exf:=λb a=>⟨lK (lP (f b a) g),λx c e=>(d b a).2.2.2.2.1 x c (L.cells x c e)⟩
 bs:=I.bs
 bsz:=m7 I.ok.bsz I.sz
 noex:=λb o e a=>by
  rcases(d b a).2.2.2.1 with z|z
  .exact I.ok.noex b o e z
  .exact absurd (lP (lD (I.ok.bs b o e).1) z) (nI _)
 exfs:=λb a hz=>by
  rcases lu.mp (I.stkSub b hz)with z|z
  .exact(d b a).2.1 z
  .exact(d b a).2.2.1 z
 funs:=I.stack
 frf:=I.stkFree
def zhY{js:List Nat}(h:(Zt n js σ)[i]? =some (some v)):∃k j,i=n+k/\js[k]? =some j/\σ[j]? =some (some v):=by
 unfold Zt at h;by_cases hi:i<n
 .rw[mz (by simpa using hi),nU]at h;split at h<;>cases h
 .rw[mJ (by simpa using hi),mf,lw]at h;cases e:js[i-n]? with
  |none=>rw[e]at h;cases h
  |some j=>
   rw[e]at h;refine⟨i-n,j,f!"i",e,?_⟩;cases e2:σ[j]? with
   |none=>rw[nA,e2]at h;cases h
   |some o=>rw[nA,e2]at h;have h':o=some v:=lV h;rw[h']
def Inv.lc(L:LcOk X N n js scope cl)(I:Inv X π σ H s){fp:List Addr}(Q:∀b∈fp,FpOk X π H b)(B:∀b∈fp,b<s.heap.objs.size){D:Addr}{g:Heap}{m:Str->Option Value}{Y:Nat}
  (h:s.heap.objs.size<=D)(F:s.heap.objs.size<=C)(t:D≠C)(T:g.Ns C m)(a:∀b o,s.heap.get? b=some o->g.get? b=some o){k:Nat}(R:g.get? D=some { cls:=.type "list",data:=.seq ([]:List Value).toArray k }) :
  Inv (z7 X N scope cl C s H fp) [] (Zt n js σ) (upd H D (.lst [])) { s with heap:=g,toks:=Y } where
 ok:=L.ok I Q B F
 os:=rfl
 bare:=I.bare
 base:=Un.laid a h (I.hok.fresh h)
 loc:=by
  refine⟨m,T,λi x v K M Z=>?_⟩;obtain⟨k,j,rfl,P,q⟩:=zhY M;obtain⟨j',c,d,O,G,V,E⟩:=L.free k x K;rw[P]at d;cases d;obtain⟨mx,S,A⟩:=I.loc;obtain⟨u,r,W⟩:=A j x v O q (G.elim (λz=>.inr (.inl z)) λz=>.inr (.inr z));refine⟨u,r,.inr ⟨V,c,E,?_⟩⟩;have w:=L.cells x c E;rcases W with⟨z,_⟩|⟨_,c',e',hc'⟩
  .have J:X.env.scope.names.lookup x=some .local:=z;rcases G with y|y<;>rw[y]at J<;>cases J
  .rw[w]at e';cases e';obtain⟨o,f,l⟩:=hc';exact⟨o,a _ _ f,l⟩
 cell:=λx c e=>by obtain⟨v,o,f,l⟩:=I.cell x c (L.cells x c e);exact⟨v,o,a _ _ f,l⟩
 free:=by show upd H D (.lst []) C=none;rw[zi (Ne.symm t)];exact I.hok.fresh F
 freeC:=λx c e=>by obtain⟨v,o,f,l⟩:=I.cell x c (L.cells x c e);rw[zi (lK (lP (lD f) h))];exact I.freeC x c (L.cells x c e)
 pin:=λp U=>absurd (show p∈([]:List (Addr×Obj))from U) m!""
 hok:=I.hok.laid a h ⟨lY _,[],k,.nil,R⟩
 len:=by show(Zt n js σ).length=N.length;unfold Zt;rw[lx,mf,l8];exact L.len
def Inv.unlc{fp:List Addr}{k:St}{i:Hp}{s':Shared}{h':Heap}(I:Inv X π σ H s)(g:∀b∈fp,FpOk X π H b)(l:s.heap.objs.size<=C)(f:Inv (z7 X N scope cl C s H fp) [] k i s')(h:Heap.SameBut C s'.heap h') :
  Inv X π σ i { s' with heap:=h' }:=by
 have j:∀b o,s.heap.get? b=some o->b≠C:=λb o e=>lK (lP (lD e) l);have a:i C=none:=f.free;have u:=f.base;refine I.call' (ch:=fp) (s':={ s' with heap:=h' }) f.os ⟨λb o e n d hx=>?_,λb o e n d hx=>?_,u.free,λb o e hx=>?_,u.tups,u.frzs,u.tbls⟩ (λb p e=>?_) f.bare λb d=>⟨(g b d).2.2.2.1,(g b d).2.1,(g b d).2.2.2.2.1,(g b d).2.2.2.2.2⟩
 .exact(h.2 b (j b o e)).trans (u.keep b o e n d hx)
 .obtain⟨r,q⟩:=u.slot b o e n d hx;exact⟨r,(h.2 b (j b o e)).trans q⟩
 .obtain⟨m,q⟩:=u.there b o e hx;exact⟨m,(h.2 b (j b o e)).trans q⟩
 .refine(f.hok b p e).stay (λc t hc q=>(h.2 c ?_).trans q) (λ_ q=>q) λ_ _ q=>q;rintro rfl;rcases hc with rfl|hc
  .rw[a]at e;cases e
  .rw[a]at hc;cases hc
abbrev tLc(t:TI)(n:Nat)(js:List Nat)(g:TG)(s:TT)(r:TE):TE:=λσ H Q=>t σ H λJ j=>∀D,j D=none->∃W:Nat->Nat->St->Hp->Prop,(∃m,W 0 m (Zt n js σ) (upd j D (.lst [])))/\∀i m d b,W i m d b->
  (J.stop i b/\Q (.ref D) b)\/(J.go i b/\∃ f:St->Hp->Prop,(∀ e c,f e c->∃ o,o < m/\W (i+1) o e c)/\
    ∀x c,J.yld i b x c->g x d c λa p=>s a p λq k=>if q=true then r a k λy l=>∃h,l D=some (.lst h)/\h.length<sizeLine/\f a (upd l D (.lst (h++[y])))else f a k)
def zc0{O iter:Expr}{U:List Expr}{g:TG}{tt:TT}{te:TE}{it:Addr}{fp:List Addr}{tn:Nat->Heap->Prop}{J:It}{Q:V->Hp->Prop}{RR:Value->Addr->Result->Shared->Prop}
    (L:LcOk X N n js scope cl)(hc:X.calm=true)(I:Inv X π σ H s)(T:Turn X.prog X.w X.K tg J fp it tn)(t0:tn 0 s.heap)(hf:∀b∈fp,FpOk X π H b)
    (hg:∀C s0 H0 h,PG (z7 X N scope cl C s0 H0 h) tg g)(ht:∀C s0 H0 h,PTs (z7 X N scope cl C s0 H0 h) U tt)(he:∀C s0 H0 h,PE (z7 X N scope cl C s0 H0 h) O te)
    (hw:∀ D,H D=none->∃ W:Nat->Nat->St->Hp->Prop,(∃ m,W 0 m (Zt n js σ) (upd H D (.lst [])))/\∀ i m a H',W i m a H'->
      (J.stop i H'/\Q (.ref D) H')\/(J.go i H'/\∃ Nx:St->Hp->Prop,(∀ xk H2,Nx xk H2->∃ m',m' < m/\W (i+1) m' xk H2)/\
        ∀x H2,J.yld i H' x H2->g x a H2 λd Y=>tt d Y λok H4=>if ok=true then te d H4 λy H5=>∃ys,H5 D=some (.lst ys)/\ys.length<sizeLine/\Nx d (upd H5 D (.lst (ys++[y])))else Nx d H4))
    (xo:∀D C a H' s',s.heap.objs.size<=C->Inv (z7 X N scope cl C s H fp) [] a H' s'->Q (.ref D) H'->RR (.ref D) C (.ok .next) s') :
    wpAny (model X.prog X.w) X.A (newList []) (fun zs s1=>wpAny (model X.prog X.w) X.A (newFunctionEnv scope X.env.globals cl [] X.env.qual none .none (some X.env)) (fun B s2=>
      codeAny (model X.prog X.w) X.A (.compStart (.ListComp O [⟨tg,iter,U,0⟩] scope pos) 0 (.ref it) zs { B with scope:=relabel scope X.env }) (RR zs B.locals) s2) E s1) E s:=by
  refine nK (wpAny_newFunctionEnv L.nocell (by intro y hy;simp at hy) (λh1 S q=>?_) L.kind);dsimp only at S q ⊢;generalize hG:s.heap.push { cls:=.type "list",dict:=none,data:=.seq ([]:List Value).toArray } =G at S q ⊢;have eC:G.objs.size=s.heap.objs.size+1:=by rw[<-hG,pN]
  have hC:s.heap.objs.size<=G.objs.size:=by rw[eC];exact nM _
  have xd:s.heap.objs.size≠G.objs.size:=by rw[eC];exact lK (oV _)
  have R:∀b∈fp,b<s.heap.objs.size:=λb f=>by obtain⟨o,e,_⟩:=T.obj 0 _ t0 b f;exact lD e
  have xe:∀b o,s.heap.get? b=some o->h1.get? b=some o:=λb o e=>by have f:=lD e;exact q.extBut b o (lK (lP f hC)) (li _ (hG▸li _ e))
  have hl:h1.get? s.heap.objs.size=some { cls:=.type "list",data:=.seq ([]:List Value).toArray 0 }:=q.extBut _ _ xd (li _ (hG▸lL _ rfl));have I1:∀tk,Inv (z7 X N scope cl G.objs.size s H fp) [] (Zt n js σ) (upd H s.heap.objs.size (.lst [])) { s with heap:=h1,toks:=tk }:=λtk=>Inv.lc L I hf R (ll _) hC xd S xe hl;have t1:tn 0 h1:=T.keep _ _ _ t0 λb _ o e=>xe b o e;obtain⟨W,⟨m0,w0⟩,step⟩:=hw s.heap.objs.size (I.hok.fresh (ll _));have xp:∀b∈fp,upd H s.heap.objs.size (.lst []) b=none:=λb f=>by rw[zi (lK (R b f))];exact(hf b f).1
  have P:∀{H':Hp},(∀b∈fp,H' b=none)->∀b∈fp,FpOk (z7 X N scope cl G.objs.size s H fp) [] H' b:=λ{H'} hn b f=>by
    refine⟨hn b f,lK (lP (R b f) hC),λhz=>?_,.inl f,λx c e=>(hf b f).2.2.2.2.1 x c (L.cells x c e),λp hp=>absurd (show p∈([]:List (Addr×Obj))from hp) m!""⟩;rcases lu.mp (I.stkSub b hz)with z|z
    · exact(hf b f).2.1 z
    · exact(hf b f).2.2.1 z
  have F:∀s0:Shared,s0= { s with heap:=h1,toks:=s.toks+([]:List (Str×Value)).length }->
      codeAny (model X.prog X.w) X.A (.compLoop (.ListComp O [⟨tg,iter,U,0⟩] scope pos) 0 (.ref it) (.ref s.heap.objs.size) (compEnvC scope cl G.objs.size X.env)) (RR (.ref s.heap.objs.size) G.objs.size) s0:=by
    rintro s0 rfl;refine zkw (λk s'=>∃i a H',Inv (z7 X N scope cl G.objs.size s H fp) [] a H' s'/\tn i s'.heap/\(∀b∈fp,H' b=none)/\W i k a H') ?_ m0 ⟨0,_,_,I1 _,t1,xp,w0⟩;rintro k s3 ⟨i,d,Y,I3,t3,xb,w3⟩;rcases step i k d Y w3 with⟨stop,qn⟩|⟨go,Nx,hN,body⟩
    · refine thn (T.done (z7 X N scope cl G.objs.size s H fp) rfl rfl rfl hc i [] s3 d Y _ I3 (P xb) t3 stop) λr s4 ⟨hr,I4⟩=>?_
      subst hr;exact xo _ _ d Y s4 hC I4 qn
    · refine thn (T.item (z7 X N scope cl G.objs.size s H fp) rfl rfl rfl hc i [] s3 d Y _ I3 (P xb) t3 go) λr s4 ⟨u,hr,h4⟩=>?_
      subst hr;refine thn h4 λ_ s5 ⟨x,H5,I5,r5,y5,t5,xq⟩=>?_;have xl:=I5.pinned (P xq) (T.obj _ _ t5);refine thn (hg _ _ _ _ _ s5 d H5 x u _ xl r5 (body x H5 y5)) λ_ s6 ⟨t,H6,I6,q6⟩=>?_;have again:∀{l:St}{M:Hp}{s7:Shared},Inv (z7 X N scope cl G.objs.size s H fp) ([]++Z5 fp s5.heap) l M s7->Nx l M->
          ∃j,j<k/\∃i a H',Inv (z7 X N scope cl G.objs.size s H fp) [] a H' s7/\tn i s7.heap/\(∀b∈fp,H' b=none)/\W i j a H':=λ{l M s7} Z n7=>by
        obtain⟨m',hm,w7⟩:=hN l M n7;refine⟨m',hm,i+1,l,M,Z.unpinned,T.keep _ _ _ t5 λb f o e=>(Z.pin (b,o) (lW _ (lW _ (qW f e)))).1,λb f=>?_,w7⟩;obtain⟨o,e,_⟩:=T.obj _ _ t5 b f;exact(Z.pin (b,o) (lW _ (lW _ (qW f e)))).2.1
      refine thn (ht _ _ _ _ _ s6 t H6 _ I6 q6) λok s7 ⟨M,Z,q7⟩=>?_;cases ok with
      |false=>rw[l7 ∅]at q7 ⊢;exact again Z q7
      |true=>rw[l9 rfl]at q7 ⊢;refine thn (he _ _ _ _ _ s7 t M _ Z q7) λv s8 ⟨y,H8,I8,r8,ys,e8,z8,q8⟩=>?_;refine thn (xF _ s8 t H8 (.ref s.heap.objs.size) [y] (.ref s.heap.objs.size) [v] (λ_ H9=>Nx t H9) I8 rfl (.cons r8 .nil) ⟨_,ys,y,rfl,rfl,e8,z8,q8⟩) λ_ s9 ⟨_,H9,I9,_,q9⟩=>?_;exact again I9 q9
  exact codeAny_compStart_list (F _ rfl) (T.self X.A 0 _ _ _ t1 (F _ rfl))
def v1{c iter:Expr}{d:List Expr}{t:TI}{g:TG}{r:TT}{p:TE}(L:LcOk X N n js scope cl)(E:X.calm=true)(K:PI X tg iter t)
  (G:∀C f b a,PG (z7 X N scope cl C f b a) tg g)(P:∀C f b a,PTs (z7 X N scope cl C f b a) d r)(F:∀C f b a,PE (z7 X N scope cl C f b a) c p)
  (O:∀x,foldedSetIterable iter X.env x=pure x:=by intro _;rfl):PE X (.ListComp c [⟨tg,iter,d,0⟩] scope pos) (tLc t n js g r p):=by
 intro π s σ H Q I h;rw[eval_ListComp];refine wpAny_comprehension_free (use:=none) rfl O L.clos L.kind L.names (thn (K π s σ H _ I h) λv Y y=>thn y λS Z z=>?_);obtain⟨it,fp,tn,J,W,e,l,T,U,o,R⟩:=z;subst e;refine zc0 (RR:=λi C=>compPost (model X.prog X.w) X.A X.xe none (EP X π σ Q) i C) L E l T U o G P F R ?_;intro D C V u s' B k q;obtain⟨m,M,_⟩:=k.loc;exact⟨m,M,λh' j=>⟨.ref D,u,l.unlc o B k j,rfl,q⟩⟩
def X3{j iter:Expr}{k:List Expr}{d l:Pos}{wi:TI}{g:TG}{tt:TT}{te:TE}(hN:X.N.Nodup)(hx:X.N[i]? =some x)(Z:X.env.scope.names.lookup x=some .local)
  (L:LcOk X N n js scope cl)(hc:X.calm=true)(hi:PI X tg iter wi)
  (hg:∀C B t f,PG (z7 X N scope cl C B t f) tg g)(ht:∀C B t f,PTs (z7 X N scope cl C B t f) k tt)(he:∀C B t f,PE (z7 X N scope cl C B t f) j te)
  (S:swapsWith (.ListComp j [⟨tg,iter,k,0⟩] scope pos) (some (.Name x d)) l.line X.env=pure true:=by rfl)
  (hs:∀x,foldedSetIterable iter X.env x=pure x:=by intro _;rfl):PS X (.Assign [.Name x d] (.ListComp j [⟨tg,iter,k,0⟩] scope pos) l) (Qg (tLc wi n js g tt te) (Zo i)):=by
 intro π s σ H F I h;rw[exec_Assign_Name_used _ _ _ _ S];refine l6 (qa (l6 ?_));show wpAny _ X.A (do let _<-comprehension (.ListComp j [⟨tg,iter,k,0⟩] scope pos) scope X.env _ (newList []) false (eval iter X.env) (some (assign (.Name x d) X.env))) _ _ s;refine l6 (thn (wpAny_comprehension_free (use:=some (assign (.Name x d) X.env)) (Q:=λ_ s'=>SP X π F .next s') rfl hs L.clos L.kind L.names (thn (hi π s σ H _ I h) λv s1 h1=>thn h1 λzs s2 h2=>?_)) λ_ s' hq=>lz (lz hq));obtain⟨it,fp,tn,J,H2,e,r,T,t2,W,hw⟩:=h2;subst e;refine zc0 (Q:=λx H1=>Zo i x σ H1 F.nx) (RR:=λK C=>compPost (model X.prog X.w) X.A X.xe (some (assign (.Name x d) X.env)) (λ_ s'=>SP X π F .next s') K C) L hc r T t2 W hg ht he hw ?_;intro D C ys U s' E G q;obtain⟨m,hn,_⟩:=G.loc;have I3:Inv X π σ U s':=r.unlc (h':=s'.heap) W E G (.refl ..);show wpAny _ X.A (assign (.Name x d) X.env (.ref D)) _ X.xe s';refine wpAny_assign_Name (Js (v:=.ref D) I3 hN hx (.inl Z) rfl (λs4 I4 O=>?_) (.inr Z));obtain⟨a,R,ha⟩:=O;have V:∀b o,s2.heap.get? b=some o->b≠C:=λb o e=>lK (lP (lD e) E);have Y:C≠X.env.locals:=λz=>absurd (lP r.lt (z▸E)) (nI _);have u:∀y c,X.env.cells.lookup y=some c->c≠C:=λy c e=>by obtain⟨v,o,ho,_⟩:=r.cell y c e;exact V c o ho
 have M:C≠a:=by
  rcases ha with rfl|ha
  .exact Y
  .exact Ne.symm (u _ _ ha)
 exact⟨m,hn.sameBut R M,λh' P=>⟨_,U,I4.turned (h':=h') (t':=s4.toks) (it:=C) (λb o O e=>(P.2 b O).trans e) G.free Y (.inr (m7 r.sz E)) u (λp hp=>V _ _ (r.pin p hp).1),q⟩⟩
end
structure Cal (P:Program) (w:World) (K:W.Frag) (mg:Str->Option Value) (base:Heap) (k:Nat) (x:Str) (dvs:List V) (sp:Sp):Prop where
 ex:∃(f:Addr) (fd:FuncData) (ps:List Str) (ds:List Value),FnOk P w K mg base CX0 k f fd ps sp/\mg x=some (.ref f)/\W.keepIn K (.ref f)=true/\Binds K fd ps ds/\Vals dvs ds
section
variable {k:Nat}{sp:Sp}{dvs:List V}{p:Pos}{t:TA}
def zmu(c:Cal X.prog X.w X.K X.mg X.base k x dvs sp)(n:Room k X.A)(j:Gl X x)(d:PA X (e::es) t)(a:(x==("__debug__":Str))=false:=by decide)
  (i:starEach (e::es) X.env=(false,eval e X.env)::starEach es X.env:=by rfl)(b:(backTo pos (starEach es X.env)).any (·.1)=false:=by rfl):PE X (.Call (.Name x p) (e::es) [] pos) (Zr sp dvs E0 t):=by
 obtain⟨f,fd,o,ds,F,m,l,g,h⟩:=c.ex;exact zkq F n j m l g h Ud d a i b
end
def zmv:OpR X (compareOp .Is) (λx y H Q=>∃b,y=.bl b/\Q (.bl (decide (x=.bl b))) H):=by
 intro π s σ H x y v u Q I a d h;obtain⟨b,rfl,q⟩:=h;cases d;refine wpAny_is_plain ?_ (zF I q ?_)
 all_goals cases x<;>first
  |(obtain⟨t,rfl⟩:=a;rfl)
  |(cases a;rfl)
  |(cases a;rename_i c;cases c<;>cases b<;>rfl)
def zcu:yj X (.builtin "isinstance") (λa H Q=>∃x n t b,a=[x,.ty n]/\TyOf X.K H x t/\W.kitOne X.K t (.type n)=some b/\Q (.bl b) H):=by
 intro π s σ H a us Q I r h;obtain⟨x,n,t,b,rfl,i,e,q⟩:=h;obtain⟨u,c,rfl,f,d⟩:=r.two;cases d;exact zfZ I f i e λg=>⟨.bl b,H,I.tok g,rfl,q⟩
mutual
noncomputable def Rep(K:W.Frag)(H:Hp):PyData->V->Prop
 |.none,x=>x=.non
 |.bool b,x=>x=.bl b
 |.int i,x=>x=.int i
 |.str z,x=>x=.str z
 |.list ds,x=>Ex2 λa c=>An3 (x=.ref a) (SqL K H a c) (Reps K H ds c)
 |.tuple ds,x=>Ex2 λa c=>An3 (x=.ref a) (SqT K H a c) (Reps K H ds c)
 |.dict kvs,x=>kvs=[]/\Ex1 λa=>An2 (x=.ref a) (Rd H a (.dK []))
noncomputable def Reps(K:W.Frag)(H:Hp):List PyData->List V->Prop
 |[],xs=>xs=[]
 |d::ds,xs=>Ex2 λx r=>An3 (xs=x::r) (Rep K H d x) (Reps K H ds r)
end
def SqL.same{b:Hp}{xs:List V}(e:Same H b)(h:SqL K H a xs):SqL K b a xs:=e.seq h
def SqT.same{b:Hp}{xs:List V}(e:Same H b)(h:SqT K H a xs):SqT K b a xs:=by
 rcases h with(h|⟨o,h⟩)|h
 .exact .inl (.inl (e _ _ h))
 .exact .inl (.inr ⟨o,e _ _ h⟩)
 .exact .inr h
mutual
theorem Rep.same{i:Hp}(e:Same H i):∀(d:PyData) (x:V),Rep K H d x->Rep K i d x
 |.none,_,h=>h
 |.bool _,_,h=>h
 |.int _,_,h=>h
 |.str _,_,h=>h
 |.list ds,x,h=>by obtain⟨a,f,c,b,g⟩:=h;exact⟨a,f,c,b.same e,Reps.same e ds f g⟩
 |.tuple ds,x,h=>by obtain⟨a,f,c,b,g⟩:=h;exact⟨a,f,c,b.same e,Reps.same e ds f g⟩
 |.dict _,_,h=>by
  obtain⟨c,a,j,b⟩:=h;refine⟨c,a,j,?_⟩;rcases b with b|⟨o,b⟩
  .exact .inl (e _ _ b)
  .exact .inr ⟨o,e _ _ b⟩
theorem Reps.same{b:Hp}(e:Same H b):∀(ds:List PyData) (a:List V),Reps K H ds a->Reps K b ds a
 |[],_,h=>h
 |d::ds,a,h=>by obtain⟨x,r,c,f,g⟩:=h;exact⟨x,r,c,Rep.same e d x f,Reps.same e ds r g⟩
end
def Reps.length:∀{ds:List PyData}{a:List V},Reps K H ds a->ds.length=a.length
 |[],a,h=>by cases(show a=[]from h);rfl
 |d::ds,_,h=>by obtain⟨x,r,rfl,_,b⟩:=h;rw[lQ,lQ,b.length]
mutual
theorem Rep.reads(I:Inv X π σ H s):∀(d:PyData) (x:V) (u:Value),Rep X.K H d x->RelV x u->∃k,Reads s.heap u d k
 |.none,x,u,h,r=>by cases(show x=V.non from h);cases r;exact⟨_,.none⟩
 |.bool b,x,u,h,r=>by cases(show x=V.bl b from h);cases r;exact⟨_,.bool b⟩
 |.int i,x,u,h,r=>by cases(show x=V.int i from h);obtain⟨t,rfl⟩:=r;exact⟨_,.int i t⟩
 |.str z,x,u,h,r=>by cases(show x=V.str z from h);obtain⟨t,rfl⟩:=r;exact⟨_,.str z t⟩
 |.list ds,x,u,h,r=>by obtain⟨a,p,rfl,g,j⟩:=h;cases r;obtain⟨f,m,⟨o,n,e,c,_,l⟩,_⟩:=I.list g;obtain⟨k,q⟩:=Reps.reads I ds p f j m;exact⟨_,.list e c l (by simpa using q)⟩
 |.tuple ds,x,u,h,r=>by obtain⟨a,p,rfl,g,j⟩:=h;cases r;obtain⟨f,m,⟨o,e,c,n,l⟩,_⟩:=I.tuple g;obtain⟨k,q⟩:=Reps.reads I ds p f j m;exact⟨_,.tuple e c l (by simpa using q)⟩
 |.dict kvs,x,u,h,r=>by
  obtain⟨rfl,a,rfl,g⟩:=h;cases r;obtain⟨_,_,vs,D,v⟩:=(show zN X.prog X.w H s.heap a (.dK [])from g.ok I.hok);cases D;obtain⟨o,es,ep,j,A,B,_,C,_⟩:=v;have y:es= #[]:=by have:=C.length;exact Array.eq_empty_of_size_eq_zero (by simpa using this)
  subst y;exact⟨_,.dict j A.1 B .nil .nil⟩
theorem Reps.reads(I:Inv X π σ H s):∀(ds:List PyData) (b:List V) (us:List Value),Reps X.K H ds b->Vals b us->∃c,ReadsAll s.heap us ds c
 |[],b,us,h,r=>by cases(show b=[]from h);cases r;exact⟨_,.nil⟩
 |d::ds,b,us,h,r=>by
  obtain⟨x,a,rfl,e,f⟩:=h;cases r with
  |cons r1 r2=>obtain⟨c,q⟩:=Rep.reads I d x _ e r1;obtain⟨i,g⟩:=Reps.reads I ds a _ f r2;exact⟨_,.cons q g⟩
end
abbrev zea(K:W.Frag):R2:=λx y H Q=>Ex2 λd e=>An5 (Rep K H d x) (Rep K H e y) (SeqAt.shaped d=true) (SeqAt.shaped e=true) (Q (.bl (PyData.eqv d e)) H)
abbrev zhZ(K:W.Frag):R2:=λx y H Q=>Ex2 λd e=>An5 (Rep K H d x) (Rep K H e y) (SeqAt.shaped d=true) (SeqAt.shaped e=true) (Q (.bl (!PyData.eqv d e)) H)
def zmw(c:X.A.units+64<cLine):OpR X (compareOp .Eq) (zea X.K):=by
 intro π s σ H x y v u Q I i j h;obtain⟨d,e,a,b,k,l,q⟩:=h;obtain⟨m,f⟩:=Rep.reads I d x v a i;obtain⟨n,g⟩:=Rep.reads I e y u b j;exact eq_dataH f g k l c ⟨.bl _,H,I,rfl,q⟩
def zmx(c:X.A.units+64<cLine):OpR X (compareOp .NotEq) (zhZ X.K):=by
 intro π s σ H x y v u Q I i j h;obtain⟨d,e,a,b,k,l,q⟩:=h;obtain⟨m,f⟩:=Rep.reads I d x v a i;obtain⟨n,g⟩:=Rep.reads I e y u b j;exact ne_dataH f g k l c ⟨.bl _,H,I,rfl,q⟩
abbrev zah:Expr->Bool
 |.Starred ..=>false
 |_=>true
def J6{env:Env}(h:zah e=true):starEach (e::es) env=(false,eval e env)::starEach es env:=by
 cases e<;>first|rfl|cases h
structure QA (X:Cx) (es:List Expr) (t:TA):Prop where
 pa:PA X es t
def qn:QA X [] Zq:=⟨zmg⟩
def qc{a:TE}{t:TA}(b:PE X e a)(c:QA X es t)(h:zah e=true:=by rfl):QA X (e::es) (Xb a t):=⟨zkp b c.pa (J6 h)⟩
def yB{t:TA}(h:QA X es t):PE X (.List es pos) (K8 t):=zf1 h.pa
def zC{t:TA}{k:Nat}(h:QA X es t):PE X (.Tuple es k pos) (zd4 t):=zf0 h.pa
abbrev Sm(a:Int):Prop:=-1000000000000<=a/\a<=1000000000000
def Sm.mulL{a b:Int}(h:Sm a):Qh a b:=.inl ⟨Int.lt_of_lt_of_le ∅ h.1,Int.lt_of_le_of_lt h.2 ∅⟩
def Sm.mulR{a b:Int}(h:Sm b):Qh a b:=.inr ⟨Int.lt_of_lt_of_le ∅ h.1,Int.lt_of_le_of_lt h.2 ∅⟩
def zkx{a b:Int}(c:-1000000000000<=a)(d:a<=1000000000000):Qh a b:=Sm.mulL ⟨c,d⟩
def zh0{a b:Int}(c:-1000000000000<=b)(d:b<=1000000000000):Qh a b:=Sm.mulR ⟨c,d⟩
def zai{o:HO}(a:H p=none):Same H (upd H p o):=λb u e=>by
 rw[zi (zW e a)];exact e
def X4{a:Hp}{r:Addr}{o:HO}(d:Same H a)(c:H r=none):Same H (upd a r o):=λb u e=>by
 rw[zi (zW e c)];exact d b u e
structure FunD (K:W.Frag) (x qual:Str) (st:Stmt) (ds:List Value) (f:Addr) (fd:FuncData):Prop where
 ex:∃(oc:Value) (od:Option Addr) (kV doc pm:Value) (an:Option Addr) (cdv ct:Value) (osl:Array (Option Value)) (T:Addr) (oT:Obj) (n:Nat),
  fd=W.fnOf x qual (defArgs st) (defBody st) (defScope st) (.ref T) kV doc pm an cdv ct/\K.lookup f=some ⟨oc,od,.func fd,osl⟩/\W.codeIn K cdv qual=true/\K.lookup T=some oT/\oT.data=.seq ds.toArray n
 kp:W.keepIn K (.ref f)=true
section
variable {base:Heap}
def FunD.ok{b:Str}{ds:List Value}{i:List Str}{k:Nat}{sp:Sp}(F:FunD K x b st ds f fd)(S:FnScope N i (defScope st))(len:∀vs H Q E,sp vs H Q E->vs.length=i.length)
    (d:∀ (c:Value) (A:Around) (a:List Env) (s:Shared) (H:Hp) (vs:List V) (Q:VK) (E:XK),Room k (A.deeper (envOfC b (defScope st) s.heap.objs.size f c))->sp vs H Q E->
      ∃t,PSs (vG CX0 P w K mg base N b (defScope st) f c A a s H E).nox (defBody st) t/\t { nx:=λ_ j=>Q .non j,rt:=Q } (L2.start N vs) H):FnOk P w K mg base CX0 (k+1) f fd i sp:=by
  obtain⟨v,y,kV,doc,z,p,c,r,o,T,u,n,rfl,m,e,_,_⟩:=F.ex;refine zjE m e S len λA a s H vs Q E l g=>?_;obtain⟨t,h,q⟩:=d c A a s H vs Q E l g;exact⟨t,h.nox,q⟩
def FunD.binds{a:Str}{ds es:List Value}{g:List Str}(F:FunD K x a st ds f fd)
    (h:∀ (T:Addr) (kV doc e:Value) (c:Option Addr) (b d:Value) (us:List Value),(us ++ es).length=g.length->
      ∃k,bindArgs (W.fnOf x a (defArgs st) (defBody st) (defScope st) (.ref T) kV doc e c b d) ⟨us,[]⟩=seqItems? (W.fnOf x a (defArgs st) (defBody st) (defScope st) (.ref T) kV doc e c b d).defaults >>= k/\k (some ds.toArray)=pure (g.zip (us++es))):Binds K fd g es:=by
  obtain⟨v,w,kV,doc,e,c,b,d,r,T,u,n,rfl,t,o,m,p⟩:=F.ex;intro s us l q;obtain⟨k,i,j⟩:=h T kV doc e c b d us q;exact .of_defaults rfl (l _ _ m) p i j
end
def ki{α:Type}{c:α}:∀{l:List (Str×α)},l.lookup x=some c->(x,c)∈l
 |[],h=>by cases h
 |(y,d)::l,h=>by
  rw[List.lookup_cons]at h;cases e:x==y with
  |true=>
   rw[e]at h;have a:x=y:=by simpa using e
   have b:d=c:=lV h;rw[a,b];exact lh
  |false=>rw[e]at h;exact lg _ (ki h)
abbrev Qk(k:Option NameKind):Bool:=match k with
 |some .cell=>true
 |some .free=>true
 |_=>false
def zc1{k:Option NameKind}(h:Qk k=true):k=some .cell\/k=some .free:=by
 unfold Qk at h;split at h
 .exact .inl rfl
 .exact .inr rfl
 .cases h
inductive CellsIn (a:List (Str×Addr)):List (Str×Addr)->Prop
 |nil:CellsIn a []
 |cons {x:Str}{c:Addr}{l:List (Str×Addr)}:a.lookup x=some c->CellsIn a l->CellsIn a ((x,c)::l)
def CellsIn.mem{a:List (Str×Addr)}{c:Addr}:∀{l:List (Str×Addr)},CellsIn a l->(x,c)∈l->a.lookup x=some c
 |_,.nil,h=>by cases h
 |_,.cons e r,h=>by
  rcases lu.mp h with z|z
  .cases z;exact e
  .exact r.mem z
def xM{js:List Nat}{scope:Scope}{cl:List (Str×Addr)}(clos:closureFor scope X.env=pure cl:=by rfl)(nocell:(scope.names.all λy=>!(y.2 == .cell))=true:=by rfl)(kind:scope.kind=.function:=by rfl)
  (names:(scope.names.all λy=>!(y.2 == .local)||scope.names.lookup y.1==some .local)=true:=by rfl)(cells:CellsIn X.env.cells cl:=by repeat' first|exact CellsIn.nil|refine CellsIn.cons rfl ?_)
  (has:((relabel scope X.env).names.all λy=>!(Qk (some y.2))||(cl.lookup y.1).isSome)=true:=by rfl)(len:n+js.length=N.length:=by rfl)
  (free:((N.drop n).zip js).all (λp=>X.N[p.2]? == some p.1&&Qk (X.env.scope.names.lookup p.1)&&Qk ((relabel scope X.env).names.lookup p.1)&&(cl.lookup p.1).isSome)=true:=by rfl):LcOk X N n js scope cl where
 clos:=clos
 nocell:=λy d e=>by have h:=mZ.mp nocell y d;rw[e]at h;cases h
 kind:=kind
 names:=λy d e=>by have h:=mZ.mp names y d;rw[e]at h;simpa using h
 cells:=λx c h=>cells.mem (ki h)
 has:=λx h=>by
  have b:∀k,(relabel scope X.env).names.lookup x=some k->Qk (some k)=true->∃c,cl.lookup x=some c:=λk e s=>by have a:=mZ.mp has (x,k) (ki e);rw[s]at a;exact nO.mp (by simpa using a)
  rcases h with h|h
  .exact b _ h rfl
  .exact b _ h rfl
 len:=len
 free:=λi x h=>by
  have f:(N.drop n)[i]? =some x:=by rw[nY];exact h
  have r:i<(N.drop n).length:=(lv.mp f).1;have g:i<js.length:=by rw[m9]at r;lia
  have hz:((N.drop n).zip js)[i]? =some (x,js[i]):=by rw[List.getElem?_zip_eq_some];exact⟨f,lp g⟩
  have a:=mZ.mp free (x,js[i]) (lE hz);simp only[mI,oj]at a;obtain⟨⟨⟨j,l⟩,m⟩,o⟩:=a;obtain⟨c,q⟩:=nO.mp o;exact⟨js[i],c,lp g,j,zc1 l,zc1 m,q⟩
/---/abbrev Cel:=Str×Int
/---/abbrev zpo:=List (List Cel)
abbrev celD(c:Cel):PyData:=.tuple [.str c.1,.int c.2]
abbrev okC(c:Cel):Prop:=PyData.strOk c.1=true
abbrev jT(p:Int×Int):PyData:=.tuple [.int p.1,.int p.2]
abbrev zc2(l:List (Int×Int)):PyData:=.list (l.map jT)
def Jz:∀l:List (Int×Int),PyData.canLayAll0 (l.map jT)=true/\PyData.depthAll (l.map jT)<=1
 |[]=>⟨rfl,lY _⟩
 |p::l=>by
  obtain⟨a,b⟩:=Jz l;refine⟨?_,?_⟩
  .simp[PyData.canLayAll0,jT,PyData.canLay0,a]
  .simp only[lG,PyData.depthAll,jT,PyData.depth]
   lia
def J7(l:List (Int×Int)):SeqAt.shaped (zc2 l)=true:=by
 obtain⟨a,b⟩:=Jz l;simp only[SeqAt.shaped,zc2,PyData.canLay0,PyData.depth,a,Bool.true_and,nr]
 lia
section
variable {H0 H1:Hp}{av:List Addr}{r t l:Addr}{es:List PyData}{d:PyData}
end
section
variable {H0 H1:Hp}{r t:Addr}{p:zpo}{row:List Cel}
end
abbrev rLo(K:W.Frag):List V->Hp->VK->Prop:=λb H Q=>∃p a,b=[.ref p]/\(SqL K H p a\/SqT K H p a)/\∀l:Addr,H l=none->Q (.ref l) (upd H l (.lst a))
def Ue(h:X.K=K):yj X (.type "list") (rLo K):=by
 subst h;exact zaf
def zmy(h:X.K=K):SlR X (zhU K):=by
 subst h;exact zkv
def xx(h:X.K=K):IxR X (zhS K):=by
 subst h;exact zku
abbrev zh1(K:W.Frag):R2:=λx y H Q=>∃l b a c,x=.ref l/\y=.ref b/\SqL K H l a/\SqL K H b c/\a.length+c.length<=sizeLine/\∀p,H p=none->Q (.ref p) (upd H p (.lst (a++c)))
def jc(A:X.K=K):OpR X (binaryOp .Add) (zh1 K):=by
 subst A;intro π s σ H x y v u Q I J L h;obtain⟨l,b,T,W,rfl,rfl,z,w,hz,q⟩:=h;cases J;cases L;obtain⟨c,r,⟨E,C,i,d,f,k⟩,U⟩:=I.list z;obtain⟨a,n,⟨G,D,j,e,g,m⟩,V⟩:=I.list w;obtain⟨P,R,S,t⟩:=E;obtain⟨M,N,O,p⟩:=G;simp only at d f k e g m;subst d f k e g m;have B:c.length+a.length<=sizeLine:=by rw[<-r.length,<-n.length];exact hz
 have o:c.toArray++a.toArray=(c++a).toArray:=m!""
 refine concat_meets ⟨_,i,rfl⟩ ⟨_,j,rfl⟩ noFill_list_add seq_list_add F.slot_list_add F.entry_list_add (F.args_list_add_2 _ _) (list_addW l b c.toArray a.toArray C D none none t p (by simpa using B)) ⟨i,j,?_⟩;rw[o];exact⟨.ref _,_,I.lnew (t':=s.toks) (r.append n) (by rw[lx];omega),rfl,q _ I.fresh⟩
section
variable {M:Model}
end
end L2
namespace L2
open PySem PySem.W PySem.Spec PySem.Calls PyProof.Rows
section
variable {e:Addr}{oe:Obj}
end
section
variable {ps:List (Addr×Obj)}{Z:Value->Shared->Prop}{e:Addr}
end
end L2
namespace L2
open PySem PySem.Spec PyProof.Rows
section
variable {js:List Nat}{scope:Scope}{cl:List (Str×Addr)}{y:Str}
end
section
variable {κ:Type}[DecidableEq κ]
abbrev vh(kvs:List (κ×V))(k:κ):Option V:=(kvs.find? λa=>decide (a.1=k)).map (·.2)
abbrev yU(kvs:List (κ×V))(k:κ)(v:V):List (κ×V):=
 if(kvs.any λa=>decide (a.1=k))=true then kvs.map (λa=>if a.1=k then(a.1,v)else a)else kvs++[(k,v)]
def X5{p:κ×V}{r:List (κ×V)}{k:κ}(e:p.1=k):vh (p::r) k=some p.2:=by simp[vh,nB,e]
def X6{p:κ×V}{r:List (κ×V)}{k:κ}(e:¬p.1=k):vh (p::r) k=vh r k:=by simp[vh,nB,e]
def zaj(k:κ):∀kvs:List (κ×V),(kvs.any λa=>decide (a.1=k))=(vh kvs k).isSome
 |[]=>rfl
 |p::r=>by
  rw[mY];by_cases e:p.1=k
  .simp only[X5 e,lM e,Bool.true_or,Option.isSome_some]
  .rw[X6 e,lR e,Bool.false_or];exact zaj k r
def qd(kvs:List (κ×V))(k:κ)(v:V):(yU kvs k v).length<=kvs.length+1:=by
 unfold yU;split
 .rw[l8];lia
 .rw[lx,lQ,nE];lia
def vg.isSome_eq{o:Option V}{u:Option Value}(r:vg o u):o.isSome=u.isSome:=by
 cases o with
 |none=>cases u with
  |none=>rfl
  |some _=>exact(show False from r).elim
 |some _=>cases u with
  |none=>exact(show False from r).elim
  |some _=>rfl
def KV.val{kvs:List (κ×V)}{vs:List (κ×Value)}(r:KV kvs vs)(k:κ):vg (vh kvs k) (valueAt vs k):=by
 unfold KV at r;induction r with
 |nil=>exact True.intro
 |@cons p q ps qs h t ih=>
  obtain⟨c,d⟩:=h;by_cases e:p.1=k
  .have a:q.1=k:=c.symm.trans e;have b:valueAt (q::qs) k=some q.2:=by simp[valueAt,nB,a]
   rw[X5 e,b];exact d
  .have a:¬q.1=k:=λz=>e (c.trans z);have b:valueAt (q::qs) k=valueAt qs k:=by simp[valueAt,nB,a]
   rw[X6 e,b];exact ih
def KV.any{kvs:List (κ×V)}{vs:List (κ×Value)}(r:KV kvs vs)(k:κ):(kvs.any λa=>decide (a.1=k))=vs.any λa=>decide (a.1=k):=by
 unfold KV at r;induction r with
 |nil=>rfl
 |cons h t ih=>rw[mY,mY,ih,h.1]
def KV.repl{kvs:List (κ×V)}{vs:List (κ×Value)}(r:KV kvs vs)(k:κ){y:V}(d:RelV y u) :
  KV (kvs.map λa=>if a.1=k then(a.1,y)else a) (vs.map λa=>if a.1=k then(a.1,u)else a):=by
 unfold KV at r ⊢;induction r with
 |nil=>exact .nil
 |@cons p q ps qs h t ih=>
  rw[lG,lG];refine .cons ?_ ih;obtain⟨b,c⟩:=h;by_cases e:p.1=k
  .rw[l9 e,l9 (b.symm.trans e)];exact⟨b,d⟩
  .rw[l7 e,l7 (λz=>e (b.trans z))];exact⟨b,c⟩
def KV.put{kvs:List (κ×V)}{vs:List (κ×Value)}(r:KV kvs vs)(k:κ){y:V}(a:RelV y u):KV (yU kvs k y) (stored vs k u):=by
 unfold yU stored;rw[r.any k];by_cases e:(vs.any λb=>decide (b.1=k))=true
 .rw[l9 e,l9 e];exact r.repl k a
 .rw[l7 e,l7 e];exact Paired.snoc r ⟨rfl,a⟩
def KV.keys{kvs:List (κ×V)}{vs:List (κ×Value)}(r:KV kvs vs):kvs.map (·.1)=vs.map (·.1):=by
 unfold KV at r;induction r with
 |nil=>rfl
 |cons h t ih=>rw[lG,lG,ih,h.1]
def KV.length{kvs:List (κ×V)}{vs:List (κ×Value)}(r:KV kvs vs):kvs.length=vs.length:=lJ r
end
def Xg{k:Key}(r:RelV (kV k) u):(zK P w).is k u=true:=by
 cases k with
 |inl i=>obtain⟨t,e⟩:=(show ∃t,u=Value.int i t from r);subst e;exact zcr P w i t
 |inr x=>obtain⟨t,e⟩:=(show ∃t,u=Value.str x t from r);subst e;exact zcs P w x t
def JA:∀{ks:List Key}{us:List Value},Vals (ks.map kV) us->ItemsAre (zK P w) ks us
 |[],_,r=>by rw[pz]at r;cases r;exact .nil
 |k::ks,_,r=>by
  rw[lG]at r;cases r with
  |cons h t=>exact .cons (Xg h) (JA t)
/---/abbrev KT(H:Hp):List (List Key×V)->List (List Key×Addr×Value)->Prop:=Paired λp q=>p.1=q.1/\H q.2.1=some (.tup (p.1.map kV))/\RelV p.2 q.2.2
def KT.val{kvs:List (List Key×V)}{d:List (List Key×Addr×Value)}(r:KT H kvs d)(k:List Key):vg (vh kvs k) ((atKey d k).map (·.2)):=by
 induction r with
 |nil=>exact True.intro
 |@cons p q ps qs h t ih=>
  obtain⟨c,_,f⟩:=h;by_cases e:p.1=k
  .have a:q.1=k:=c.symm.trans e;have b:atKey (q::qs) k=some q.2:=by simp[atKey,nB,a]
   rw[X5 e,b];exact f
  .have a:¬q.1=k:=λz=>e (c.trans z);have b:atKey (q::qs) k=atKey qs k:=by simp[atKey,nB,a]
   rw[X6 e,b];exact ih
def KT.repl{kvs:List (List Key×V)}{d:List (List Key×Addr×Value)}(r:KT H kvs d)(k:List Key){y:V}(g:RelV y u) :
  KT H (kvs.map λb=>if b.1=k then(b.1,y)else b) (d.map (putAt k u)):=by
 induction r with
 |nil=>exact .nil
 |@cons p q ps qs h t ih=>
  rw[lG,lG];refine .cons ?_ ih;obtain⟨a,c,f⟩:=h;unfold putAt;by_cases e:p.1=k
  .rw[l9 e,l9 (a.symm.trans e)];exact⟨a,c,g⟩
  .rw[l7 e,l7 (λz=>e (a.trans z))];exact⟨a,c,f⟩
def KT.put{kvs:List (List Key×V)}{a:List (List Key×Addr×Value)}(r:KT H kvs a)(k:List Key){y:V}(d:H b=some (.tup (k.map kV)))(c:RelV y u) :
  KT H (yU kvs k y) (storedH a k b u):=by
 have e:(kvs.any λf=>decide (f.1=k))=(atKey a k).isSome:=by rw[zaj,(r.val k).isSome_eq,Option.isSome_map]
 unfold yU storedH;rw[e];by_cases q:(atKey a k).isSome=true
 .rw[l9 q,l9 q];exact r.repl k c
 .rw[l7 q,l7 q];exact Paired.snoc r ⟨rfl,d,c⟩
def KT.keeps{a:Hp}{kvs:List (List Key×V)}{xs:List (List Key×Addr×Value)}(r:KT H kvs xs)(d:∀b c,H b=some (.tup c)->a b=some (.tup c)):KT a kvs xs:=
 Paired.mapP r λ_ _ z=>⟨z.1,d _ _ z.2.1,z.2.2⟩
def zjH{u:HO}(b:HOk P w H h)(e:Rd H a u):zN P w H h a u:=e.ok b
def Ks(b:HOk P w H h)(e:Rd H a (.dK kvs)):kvs.length<=sizeLine/\(a==sysModules)=false/\∃vs,KV kvs vs/\h.DictOf (zK P w) a vs:=
 show zN P w H h a (.dK kvs)from zjH b e
def Uf(b:HOk P w H h)(e:H a=some (.dK kvs)):kvs.length<=sizeLine/\(a==sysModules)=false/\∃vs,KV kvs vs/\h.DictOf (zK P w) a vs:=Ks b (.inl e)
def Ya{ks:List Key}(g:HOk P w H h)(e:H a=some (.tup (ks.map kV))):(tupleKind (zK P w)).is h ks a:=by
 obtain⟨_,b,r,o,c,d,n,f⟩:=(show zN P w H h a (.tup (ks.map kV))from g a _ e);exact⟨o,b.toArray,n,c,d,f,by simpa using JA r⟩
def Kt{kvs:List (List Key×V)}(b:HOk P w H h)(e:Rd H a (.dT kvs)):kvs.length<=sizeLine/\(a==sysModules)=false/\
  ∃xs,KT H kvs xs/\h.DictOfH (tupleKind (zK P w)) a xs:=by
 obtain⟨z,y,xs,r,o,es,ep,c,d,f,g,i⟩:=(show zN P w H h a (.dT kvs)from zjH b e);refine⟨z,y,xs,r,o,es,ep,c,d,f,g,λx hx=>?_,i⟩;have all:∀{l:List (List Key×V)}{m:List (List Key×Addr×Value)},KT H l m->∀x∈m,(tupleKind (zK P w)).is h x.1 x.2.1:=by
  intro l m q;induction q with
  |nil=>intro x hx;exact nomatch hx
  |@cons p q ps qs hq t ih=>
   intro x hx;rcases lu.mp hx with e|hx
   .subst e;exact Ya b (by rw[<-hq.1];exact hq.2.1)
   .exact ih x hx
 exact all r x hx
def zeb{kvs:List (List Key×V)}(b:HOk P w H h)(e:H a=some (.dT kvs)):kvs.length<=sizeLine/\(a==sysModules)=false/\
  ∃xs,KT H kvs xs/\h.DictOfH (tupleKind (zK P w)) a xs:=Kt b (.inl e)
abbrev jd(H:Hp)(a:Addr)(y:V)(r:Option V):Prop:=
 (Ex2 λkvs k=>An3 (Rd H a (.dK kvs)) (y=kV k) (r=vh kvs k))\/Ex3 λkvs k b=>An4 (Rd H a (.dT kvs)) (y=.ref b) (H b=some (.tup (k.map kV))) (r=vh kvs k)
abbrev zak(H:Hp)(a:Addr)(y v:V)(c:Hp):Prop:=
 (Ex2 λkvs k=>An4 (H a=some (.dK kvs)) (y=kV k) (kvs.length<sizeLine) (c=upd H a (.dK (yU kvs k v))))\/
 Ex3 λkvs k b=>An5 (H a=some (.dT kvs)) (y=.ref b) (H b=some (.tup (k.map kV))) (kvs.length<sizeLine) (c=upd H a (.dT (yU kvs k v)))
def jd.k{k:Key}(e:H a=some (.dK kvs)):jd H a (kV k) (vh kvs k):=.inl ⟨kvs,k,.inl e,rfl,rfl⟩
def jd.t{kvs:List (List Key×V)}{k:List Key}(e:H a=some (.dT kvs))(c:H b=some (.tup (k.map kV))):jd H a (.ref b) (vh kvs k):=.inr ⟨kvs,k,b,.inl e,rfl,c,rfl⟩
def zak.k{k:Key}(e:H a=some (.dK kvs))(b:kvs.length<sizeLine):zak H a (kV k) v (upd H a (.dK (yU kvs k v))):=.inl ⟨kvs,k,e,rfl,b,rfl⟩
section
variable {y:V}{r:Value}{o:Option V}
def Inv.big(I:Inv X π σ H s):sysModules<s.heap.objs.size:=by
 have h:mainGlobals<s.heap.objs.size:=(I.mod.glob.keeps I.bk).lt;exact nP ∅ h
def zga(t:A.units+1<cLine)(I:Inv X π σ H s)(g:jd H a y (some v))(n:RelV y u)(h:∀f s',Inv X π σ H s'->RelV v f->Q f s') :
  wpAny (model X.prog X.w) A (getItem (.ref a) u) Q E s:=by
 rcases g with⟨kvs,k,e,ey,l⟩|⟨kvs,k,b,e,ey,eb,l⟩
 .subst ey;obtain⟨z,q,vs,c,i⟩:=Ks I.hok e;obtain⟨f,m,d⟩:=vg.some_of (v:=v) (o:=valueAt vs k) (by rw[l];exact c.val k);exact wpAny_getItem_of (Xg n) i.mapOf m (h f _ (I.tok _) d)
 .subst ey;cases(show u=Value.ref b from n);obtain⟨z,q,x,c,i⟩:=Kt I.hok e;obtain⟨f,m,d⟩:=vg.some_of (v:=v) (o:=(atKey x k).map (·.2)) (by rw[l];exact c.val k);obtain⟨p,r,j⟩:=mW.mp m;refine wpAny_getItem_heap (pW t) (Ya I.hok eb) i r ?_;rw[j];exact h f _ (I.tok _) d
def zpp(j:A.units+1<cLine)(I:Inv X π σ H s)(g:jd H a y o)(i:RelV y u)(h:∀s',Inv X π σ H s'->Q (.bool o.isSome) s') :
  wpAny (model X.prog X.w) A (compareOp .In u (.ref a)) Q E s:=by
 rcases g with⟨kvs,k,e,ey,l⟩|⟨kvs,k,b,e,ey,eb,l⟩
 .subst ey;obtain⟨z,f,vs,c,d⟩:=Ks I.hok e;refine wpAny_in_of (Xg i) f d.mapOf ?_;rw[<-(c.val k).isSome_eq,<-l];exact h _ (I.tok _)
 .subst ey;cases(show u=Value.ref b from i);obtain⟨z,f,m,c,d⟩:=Kt I.hok e;refine wpAny_in_heap (pW j) (Ya I.hok eb) f d ?_;have q:=(c.val k).isSome_eq;rw[Option.isSome_map]at q;rw[<-q,<-l];exact h _ (I.tok _)
def kX{h':Heap}{t':Nat}{d:HO}(I:Inv X π σ H s)(i:Mut (H a))(h:Heap.SameBut a s.heap h')(g:∃q,h'.get? a=some q)(c:zN X.prog X.w (upd H a d) h' a d) :
  Inv X π σ (upd H a d) { s with heap:=h',toks:=t' }:=
 I.write (x:=a) (e:=a) i (.inl rfl) (λb q f z=>(h.2 b f).trans z) g c
def Ug{c:Hp}{h':Heap}{vs:List (Key×Value)}(z:kvs.length<=sizeLine)(e:(a==sysModules)=false)(b:KV kvs vs)(d:h'.DictOf (zK P w) a vs) :
  zN P w c h' a (.dK kvs):=⟨z,e,vs,b,d⟩
def zgb{p:Hp}{Q:Unit->Shared->Prop}(L:A.units+1<cLine)(I:Inv X π σ H s)(g:zak H a y v p)(C:RelV y u)(B:RelV v r)(h:∀s',Inv X π σ p s'->Q () s') :
  wpAny (model X.prog X.w) A (setItem (.ref a) u r) Q E s:=by
 rcases g with⟨kvs,k,e,ey,l,eH⟩|⟨kvs,k,b,e,ey,t,l,eH⟩
 .subst ey eH;obtain⟨z,m,vs,d,j⟩:=Uf I.hok e;have hz:vs.length<=sizeLine:=by rw[<-d.length];exact z
  have n:(yU kvs k v).length<=sizeLine:=by have:=qd kvs k v;lia
  refine wpAny_setItem_pairs (hsz:=hz) (Xg C) j λh' f o=>h _ ?_;have K:∃q,h'.get? a=some q:=let⟨q,_,_,i,_⟩:=f;⟨q,i⟩;exact kX I (by rw[e];exact True.intro) o K (Ug n m (d.put k B) f)
 .subst ey eH;cases(show u=Value.ref b from C);obtain⟨z,m,M,d,j⟩:=zeb I.hok e;have hz:M.length<=sizeLine:=by rw[<-lJ d];exact z
  have n:(yU kvs k v).length<=sizeLine:=by have:=qd kvs k v;lia
  refine wpAny_setItem_heap (hsz:=hz) (pW L) (Ya I.hok t) j λh' f o=>h _ ?_;obtain⟨q,es,ep,i,D,F,G,_,J⟩:=f;refine kX I (by rw[e];exact True.intro) o ⟨q,i⟩ ⟨n,m,_,(d.put k t B).keeps λc N x=>?_,q,es,ep,i,D,F,G,J⟩;rw[zi (zju x e (λz=>nomatch z))];exact x
end
section
variable {k:Key}
def zky(I:Inv X π σ H s)(e:H a=some (.dK kvs))(h:∀s',Inv X π σ (upd H a (.dK [])) s'->Q .none s'):wpAny (model X.prog X.w) A (call (.builtin "dict.clear") [.ref a]) Q E s:=by
 obtain⟨z,f,vs,c,d⟩:=Uf I.hok e;refine call_meetsIn PySem.F.slot_dict_clear d.typeIs PySem.F.entry_dict_clear (PySem.F.args_dict_clear_1 _) (meets_dict_clear (zK X.prog X.w) a) ⟨vs,d,by rw[<-c.length];exact z,λh' b i=>h _ ?_⟩;have g:∃q,h'.get? a=some q:=let⟨q,_,_,hq,_⟩:=b;⟨q,hq⟩;exact kX (t':=s.toks) I (by rw[e];exact True.intro) i g (Ug (lY _) f .nil b)
end
abbrev zh2(i:Expr):Prop:=∀b a,subscripted i false b a=operate [b,a] (getItem b a)
def zkz{f:Env}{b a:Expr}{T id:String}
  (m:typeLookup (.type T) "__getitem__" =pure (some (.builtin id)))(n:zh2 a)
  (h:wpAny (model prog w) A (eval b f) (λo d=>wpAny (model prog w) A (eval a f) (λi s₂=>s₂.TypeIs o T/\wpAny (model prog w) A (getItem o i) Q E s₂) E d) E s) :
  wpAny (model prog w) A (eval (.Subscript b a pos) f) Q E s:=by
 refine Subscript_ (nc h (λo d j=>nc j (λi s₂ c=>?_) λ_ _ x=>x) λ_ _ x=>x);obtain⟨l,c⟩:=c;unfold subscriptTail;refine l6 ?_;rw[getitemInPython_of_ne l.not_modules];refine l6 (wpAny_specialOf l m ?_);have g:wpAny (model prog w) A (subscripted a false o i) (λr e=>wpAny (model prog w) A (letTemporaryGo b o r >>= λ_=>pure r) Q E e) E s₂:=by rw[n o i];exact wpAny_operating (nc c (λr e k=>l6 (wpAny_letTemporaryGo (lz k))) λ_ _ x=>x)
 first
  |exact lz (l6 g)
  |exact l6 (lz (l6 g))
  |exact l6 g
def zcv{y:V}{o:Option V}(I:Inv X π σ H s)(g:jd H a y o):s.TypeIs (.ref a) "dict":=by
 rcases g with⟨kvs,k,e,_,_⟩|⟨kvs,k,b,e,_,_,_⟩
 .obtain⟨_,_,vs,_,c⟩:=Ks I.hok e;exact c.typeIs
 .obtain⟨_,_,d,_,c⟩:=Kt I.hok e;exact c.typeIs
abbrev zof(d e:TE):TE:=λσ H Q=>d σ H λx c=>e σ c λy b=>Ex2 λa v=>An3 (x=.ref a) (jd b a y (some v)) (Q v b)
abbrev zmz(e d:TE):TE:=λσ H Q=>e σ H λy c=>d σ c λx b=>Ex2 λa o=>An3 (x=.ref a) (jd b a y o) (Q (.bl o.isSome) b)
abbrev zog(f h g:TE):TS:=λD σ H=>g σ H λv c=>f σ c λx d=>h σ d λy e=>Ex2 λa b=>An3 (x=.ref a) (zak e a y v b) (D.nx σ b)
section
variable {o i value:Expr}{pos' tpos:Pos}{td ty tv:TE}
def zkA(p:X.A.units+1<cLine)(m:PE X o td)(l:PE X i ty)(n:zh2 i):PE X (.Subscript o i pos) (zof td ty):=by
 intro π s σ H Q I h;refine zkz PySem.F.slot_dict_getitem.lookup n (thn (m π s σ H _ I h) λu z ⟨x,d,f,t,q⟩=>thn (l π z σ d _ f q) λB C ⟨y,e,c,w,a,v,k,g,r⟩=>?_);subst k;obtain rfl:u=Value.ref a:=t;exact⟨zcv c g,zga p c g w λE D j b=>⟨v,e,j,b,r⟩⟩
def zmA(m:X.A.units+1<cLine)(k:PE X i ty)(l:PE X o td):PC X .In i o (zmz ty td):=by
 intro π s σ H Q I h;refine thn (k π s σ H _ I h) λw v ⟨y,b,d,t,p⟩=>thn (l π v σ b _ d p) λu z ⟨x,c,e,r,a,n,j,g,q⟩=>?_;subst j;obtain rfl:u=Value.ref a:=r;exact zpp m e g t λB f=>⟨.bl n.isSome,c,f,rfl,q⟩
def zkB(q:X.A.units+1<cLine)(n:PE X o td)(m:PE X i ty)(t:PE X value tv)(p:swapsWith value (some (.Subscript o i pos')) pos.line X.env=pure false) :
  PS X (.Assign [.Subscript o i pos'] value pos) (zog td ty tv):=by
 intro π s σ H D I h;refine wpAny_Assign_Subscript (thn (t π s σ H _ I h) λr G ⟨v,b,e,C,w⟩=>thn (n π G σ b _ e w) λu J ⟨x,c,f,E,z⟩=>thn (m π J σ c _ f z) λL M ⟨y,K,j,F,a,d,l,g,B⟩=>?_) p;subst l;obtain rfl:u=Value.ref a:=E;exact zgb q j g F C λN k=>⟨σ,d,k,B⟩
end
def zh3(h:Heap)(a:sysModules<h.objs.size):zN P w H (h.push { cls:=.type "dict",data:=.dict #[] }) h.objs.size (.dK []):=
 ⟨lY _,mM.mpr (Ne.symm (lK a)),[],.nil,Heap.DictOf.new h⟩
def zh4(h:Heap)(a:sysModules<h.objs.size):zN P w H (h.push { cls:=.type "dict",data:=.dict #[] }) h.objs.size (.dT []):=
 ⟨lY _,mM.mpr (Ne.symm (lK a)),[],.nil,_,#[],0,lL _ rfl,⟨rfl,rfl,rfl⟩,rfl,rfl,pP⟩
abbrev zgc:TE:=λ_ H Q=>∀p,H p=none->Q (.ref p) (upd H p (.dT []))
def zh5:PE X (.Dict [] [] pos) zgc:=λπ s σ H Q I h=>
 wpAny_Dict_empty ⟨.ref s.heap.objs.size,_,I.laid (a:=s.heap.objs.size) (o:=.dT []) (t':=s.toks) (λ_ _ q=>li _ q) (ll _) (zh4 s.heap I.big),rfl,h _ (I.hok.fresh (ll _))⟩
abbrev Uh:List (TE×TE)->St->Hp->(List (V×V)->Hp->Prop)->Prop
 |[],_,H,Q=>Q [] H
 |(tk,tv)::r,σ,H,Q=>tk σ H λx a=>tv σ a λy b=>Uh r σ b λd c=>Q ((x,y)::d) c
/---/abbrev VV:List (V×V)->List (Value×Value)->Prop:=Paired λp q=>RelV p.1 q.1/\RelV p.2 q.2
abbrev PPs(X:Cx)(pos:Pos)(b:List (Option Expr))(a:List Expr)(c:List (TE×TE)):Prop:=
 ∀(π:List (Addr×Obj)) (s:Shared) (σ:St) (H:Hp) (Q:List (V×V)->Hp->Prop),Inv X π σ H s->Uh c σ H Q->
  wpAny (model X.prog X.w) X.A (evalPairs (pairTrees b a X.env pos)) (λvs s'=>Ex2 λe d=>An3 (Inv X π σ d s') (VV e vs) (Q e d)) X.xe s
def zkC:PPs X pos [] [] []:=λπ s σ H Q I h=>pairTrees_nil_walk ⟨[],H,I,.nil,h⟩
def zal{k v:Expr}{ks:List (Option Expr)}{vs:List Expr}{c d:TE}{a:List (TE×TE)}(m:PE X k c)(o:PE X v d)(n:PPs X pos ks vs a) :
    PPs X pos (some k::ks) (v::vs) ((c,d)::a):=λπ s σ H Q I h=>
  pairTrees_cons_walk (thn (m π s σ H _ I h) fun u A ⟨x,e,i,w,q⟩=>thn (o π A σ e _ i q) fun D B ⟨y,f,j,z,r⟩=>
    thn (n π B σ f _ j r) λws C ⟨p,g,l,b,t⟩=>⟨(x,y)::p,g,l,.cons ⟨w,z⟩ b,t⟩)
abbrev xT(kvs more:List (Key×V)):List (Key×V):=more.foldl (λa b=>yU a b.1 b.2) kvs
def KV.merge:∀{more:List (Key×V)}{rs:List (Key×Value)}{kvs:List (Key×V)}{vs:List (Key×Value)},KV more rs->KV kvs vs->KV (xT kvs more) (merged vs rs):=by
 intro more rs kvs vs r;unfold KV at r;induction r generalizing kvs vs with
 |nil=>intro q;exact q
 |@cons p q ps qs h t ih=>
  intro a;have e:KV (yU kvs p.1 p.2) (stored vs q.1 q.2):=by have:=a.put p.1 h.2;rw[<-h.1];exact this
  exact ih e
def qv:∀(more kvs:List (Key×V)),(xT kvs more).length<=kvs.length+more.length
 |[],kvs=>by show kvs.length<=kvs.length+0;lia
 |p::r,kvs=>by have a:=qv r (yU kvs p.1 p.2);have b:=qd kvs p.1 p.2;show(xT (yU kvs p.1 p.2) r).length<=_;rw[lQ];lia
def Ui{P:Program}{w:World}:∀{kvs:List (Key×V)}{ws:List (Value×Value)},VV (kvs.map λd=>(kV d.1,d.2)) ws->∃rs,Carries (zK P w) ws rs/\KV kvs rs
 |[],_,r=>by rw[pz]at r;cases r;exact⟨[],True.intro,.nil⟩
 |p::kvs,_,r=>by
  rw[lG]at r;cases r with
  |@cons a b as bs h t=>obtain⟨rs,c,q⟩:=Ui (P:=P) (w:=w) t;obtain⟨f,e⟩:=b;exact⟨(p.1,e)::rs,⟨Xg h.1,rfl,c⟩,.cons ⟨rfl,h.2⟩ q⟩
abbrev zjI(a:List (TE×TE)):TE:=λσ H Q=>∀p,H p=none->Uh a σ (upd H p (.dK [])) λd b=>b p=some (.dK [])/\Ex1 λ(kvs:List (Key×V))=>An3 (d=kvs.map (λc=>(kV c.1,c.2))) (kvs.length<=15) (Q (.ref p) (upd b p (.dK (xT [] kvs))))
def zkD{b:List (Option Expr)}{d:List Expr}{i:List (TE×TE)}(h:PPs X pos b d i)(g:b.all (·.isSome)=true)(v:b.length=d.length)(p:b≠[])
  (j:b.length<=15):PE X (.Dict b d pos) (zjI i):=by
 intro π s σ H Q I q;have x:=I.hok.fresh (ll s.heap.objs.size);have m:=I.laid (a:=s.heap.objs.size) (o:=.dK []) (h':=s.heap.push { cls:=.type "dict",data:=.dict #[] }) (t':=s.toks) (λ_ _ q=>li _ q) (ll _) (zh3 s.heap I.big);refine wpAny_Dict_walk (knd:=zK X.prog X.w) g v p j (thn (h π _ σ _ _ m (q _ x)) λws J ⟨G,E,l,k,e,kvs,ep,F,A⟩=>?_);subst ep;obtain⟨rs,c,C⟩:=Ui (P:=X.prog) (w:=X.w) k;obtain⟨z,t,D,B,n⟩:=Uf l.hok e;cases B;refine⟨rs,c,n,λh' f y=>⟨.ref s.heap.objs.size,_,?_,rfl,A⟩⟩;have hz:(xT [] kvs).length<=sizeLine:=by have r:=qv kvs [];rw[nE]at r;rw[lI];lia
 have u:∃q,h'.get? s.heap.objs.size=some q:=let⟨q,_,_,hq,_⟩:=f;⟨q,hq⟩;exact kX l (by rw[e];exact True.intro) y u (Ug hz t (C.merge .nil) f)
section
variable {y d:V}{r:Value}{o:Option V}
end
section
variable {o f:Expr}{apos cpos:Pos}{td ty tx:TE}
end
section
variable {y:V}
end
end L2
namespace PySem
def J8:typeLookup (.type "list") "keys" =pure none:=by rw[typeLookup_type,builtinLookup_eq_fast];kernel_rfl
def x8:entryFor table "dict.update.loop" =some Builtin.«dict.update.loop»:=entryFor_of_tree (by kernel_rfl)
def ym:plainId "dict.update.loop" =true:=f!""
def XH{o:Obj}{r:Array Value}{k:Nat}{Q:Option Value->Shared->Prop}
  (hx:s.heap.get? a=some o)(n:o.cls=.type "list")(f:o.data=.seq r k)(p:o.dict=none)(x:A.handled=none)
  (h:∀h' q,(∀b u,s.heap.get? b=some u->h'.get? b=some u)->Q none { s with heap:=h',toks:=q }) :
  wpAny (model prog w) A (getAttr? (.ref a) "keys") Q E s:=by
 obtain⟨c,v,t,z⟩:=o;simp only at n f p;subst n f p;obtain⟨y,g,d,q,os⟩:=s;have m:∀l,(⟨y,g,d,l,os⟩:Shared).TypeIs (.ref a) "list":=λ_=>⟨_,hx,rfl⟩;have B:=sub_AttributeError;have C:=F.slot_list_getattribute.lookup;have D:=F.slot_list_getattribute.bind (.ref a);have G:=am_list_getattr_none;have i:(["__module__","__name__","__qualname__","__doc__","__annotations__"]:List Str).contains "keys" =false:=∅
 unfold getAttr? getAttrBy? getAttrBy
 repeat(any_goals (first|assumption|exact m _|((with_reducible show wpAny _ _ (call (Value.builtin "list.__getattribute__") _ _) _ _ _);refine ni F.slot_list_getattribute (m _) am_entry_list_getattribute (F.args_list_getattribute_2 _ _) (meets_getattribute_miss_list a r k z "keys" _ J8 i ∅) ⟨hx,x,λh' l e j=>?_⟩)|wp_step))
 obtain⟨t',I,H⟩:=j.there;show wpAny _ _ (getattributeRaised _ _ _ _ _ _ _) _ _ _;unfold getattributeRaised
 repeat(any_goals (first|assumption|wp_step))
 exact h _ _ j.keeps
section
variable {K:Type}[DecidableEq K]{knd:KeyKind prog w K}
def zh6(hh:A.handled=none){d it l:Addr}{items:Array Value}{r:Value}{R:Result->Shared->Prop}(e:d≠it)(L:d≠l)(N:it≠l) :
  ∀(more:List (K×Value)) (i:Nat) (s:Shared) (kvs:List (K×Value)),i+more.length=items.size->s.heap.DictOf knd d kvs->s.heap.IsListIter it l i->s.heap.IsList l items->
   (∀(j:Nat) kv,more[j]? =some kv->∃t b,items[i+j]? =some (.ref t)/\t≠d/\t≠it/\PyProof.Rows.IsTup s.heap t #[b,kv.2]/\knd.is kv.1 b=true)->kvs.length+more.length<=sizeLine->
   (∀h' X,h'.DictOf knd d (merged kvs more)->(∀c o,c≠d->c≠it->s.heap.get? c=some o->h'.get? c=some o)->R (.ok (.ret r)) { s with heap:=h',toks:=X })->
   codeAny (model prog w) A (.builtin "dict.update.loop" ⟨[.ref d,.ref it,rawInt i,r],[]⟩) R s:=by
 intro more;induction more with
 |nil=>intro i s kvs M H f B S hz F;refine nZ x8 ?_;rw[nj ym _];show wpAny _ A.in1 (pyNext (.ref it) >>= _) _ _ _;refine l6 (oZ (A:=A.in1) hh f B (by simp at M;simp;lia) λh' Y=>?_);show wpAny _ _ (Builtin.Dict.addKeywords d [] >>= _) _ _ _;exact l6 (lz (lz (F h' s.toks (H.extBut Y e) λc o _ G q=>Y c o G q)))
 |cons kv more ih=>
  intro i s kvs M H f B S hz F;obtain⟨t,b,hx,zs,U,⟨o,ho,G,n,m⟩,hk⟩:=S 0 kv rfl;refine nZ x8 ?_;rw[nj ym _];show wpAny _ A.in1 (pyNext (.ref it) >>= _) _ _ _;refine l6 (oP f B (x:=.ref t) (by simpa using hx) λh1 p g=>?_);have u:h1.get? t=some o:=(g.2 t U).trans ho;show wpAny _ _ (holding [.ref t] _ >>= _) _ _ _;refine l6 (mD ?_);refine l6 (nN ?_);unfold Builtin.Dict.pairItems;refine l6 (oA (T:="tuple") ⟨o,u,G⟩ ?_);rw[l9 ∅];refine l6 (og u m ?_);refine lz ?_;show wpAny _ _ (holding [b,kv.2] (dictSet d b kv.2)) _ _ _;refine mD (wpAny_dictSet_pairs hk (H.sameBut g e) (λh2 I y=>?_) (by simp at hz;lia));show wpAny _ _ (again (.builtin "dict.update.loop" ⟨[.ref d,.ref it,rawInt ((i:Int)+1),r],[]⟩)) _ _ _;have ei:((i:Int)+1)=(((i+1:Nat)):Int):=⋯
  rw[ei];have a:∀c o,c≠d->c≠it->s.heap.get? c=some o->h2.get? c=some o:=λc o D z q=>(y.2 c D).trans ((g.2 c z).trans q);refine lz ⟨nJ ym _,ih (i+1) _ (stored kvs kv.1 kv.2) (by simp at M;lia) I ?_ ?_ (λj V hj=>?_) ?_ λD X J k3=>?_⟩
  .obtain⟨oi,P,W⟩:=p;exact⟨oi,(y.2 it (Ne.symm e)).trans P,W⟩
  .obtain⟨ol,Q,W⟩:=B;exact⟨ol,a l ol (Ne.symm L) (Ne.symm N) Q,W⟩
  .obtain⟨t',v,C,h,k,⟨o',O,r'⟩,E⟩:=S (j+1) V (by simpa using hj);refine⟨t',v,?_,h,k,⟨o',a t' o' h k O,r'⟩,E⟩;rw[<-C];congr 1
   lia
  .have:=stored_length_le kvs kv.1 kv.2;simp at hz
   lia
  .exact F D X J λc o z Z q=>k3 c o z Z (a c o z Z q)
def zh7(I:A.handled=none){l:Addr}{o:Obj}{items:Array Value}(J:s.heap.get? l=some o)(y:o.cls=.type "list")(a:o.data=.seq items n)(C:o.dict=none){more:List (K×Value)}(m:more.length=items.size)
  (S:∀(j:Nat) r,more[j]? =some r->∃t f,items[j]? =some (.ref t)/\PyProof.Rows.IsTup s.heap t #[f,r.2]/\knd.is r.1 f=true)(hz:more.length<=sizeLine)
  (h:∀h' N,h'.DictOf knd s.heap.objs.size (merged [] more)->(∀c o,s.heap.get? c=some o->h'.get? c=some o)->Q (.ref s.heap.objs.size) { s with heap:=h',toks:=N }) :
  wpAny (model prog w) A (call (.type "dict") [.ref l]) Q E s:=by
 refine callType_codes (Q₁:=λv g=>v=.ref s.heap.objs.size/\g= { s with heap:=s.heap.push { cls:=.type "dict",data:=.dict #[] } }) F.kt_called_dict (F.kt_typeCall_dict_1 _) F.entry_dict_init (kt_code_dict_new _ ⟨rfl,rfl⟩) ?_;rintro v g ⟨rfl,rfl⟩;have b:(s.heap.push { cls:=.type "dict",data:=.dict #[] }).DictOf knd s.heap.objs.size []:=Heap.DictOf.new s.heap;refine⟨b.typeIs,F.args_dict_init_2 _ _,?_⟩;have i:(s.heap.push { cls:=.type "dict",data:=.dict #[] }).get? l=some o:=li _ J;refine l6 ?_;unfold Builtin.Dict.selfAndRest;refine l6 (p9 b.typeIs ?_);refine lz ?_;show wpAny _ _ (Builtin.Dict.updateFrom "dict.__init__" s.heap.objs.size (.ref l) [] .none) _ _ _;unfold Builtin.Dict.updateFrom;refine l6 (oA (T:="list") ⟨o,i,y⟩ ?_);rw[l9 ∅];refine l6 (XH (A:=A.in1.in1) i y a C I λx N z=>?_);rw[l9 (by rfl)];refine l6 (qh ?_);have p:x.get? l=some o:=z _ _ i;refine l6 (oH (items:=items) ⟨o,p,y,n,a⟩ ?_);have e:s.heap.objs.size<x.objs.size:=lD (z _ _ (lL s.heap (o:={ cls:=.type "dict",data:=.dict #[] }) rfl));have k:l<s.heap.objs.size:=lD J;obtain⟨V,es,ep,D,Y⟩:=b;have M:∀c u,s.heap.get? c=some u->(x.push { cls:=.type "list_iterator",data:=.fields #[.ref l,.int 0 0] }).get? c=some u:=λc u q=>li _ (z _ _ (li _ q));refine lz ⟨nJ ym _,zh6 (knd:=knd) (A:=A.in1) (d:=s.heap.objs.size) (it:=x.objs.size) (l:=l) (items:=items) I (lK e) (pj k) (pj (nP k e)) more 0 _ [] (by rw[m];lia) ?_ ?_ ?_ (λj r R=>?_) (by simpa using hz) λh' G B U=>⟨rfl,?_⟩⟩
 .exact⟨V,es,ep,li _ (z _ _ D),Y⟩
 .exact⟨_,lL _ rfl,rfl,rfl⟩
 .exact⟨o,li _ p,y,n,a⟩
 .obtain⟨t,f,O,⟨W,H,X⟩,P⟩:=S j r R;have L:t<s.heap.objs.size:=lD H;exact⟨t,f,by simpa using O,lK L,lK (nP L e),⟨W,M _ _ H,X⟩,P⟩
 .exact h h' G B λc u q=>U c u (lK (lD q)) (lK (nP (lD q) e)) (M c u q)
end
end PySem
namespace PySem
open PySem PySem.W PySem.Calls PyProof.Rows
section
variable {T:String}{r d:Addr}{P:Nat->Value->Prop}{OK:Heap->Prop}
def zam:∀(vs:List Value) (ns:List Int),vs.length=ns.length->(∀(j:Nat) v,vs[j]? =some v->∃i t,v=Value.int i t/\ns[j]? =some i)->PyProof.Rows.IntsAre vs ns
 |[],[],_,_=>.nil
 |v::vs,i::ns,e,h=>by obtain⟨k,t,rfl,b⟩:=h 0 v rfl;cases b;exact .cons _ t (zam vs ns (by simpa using e) λj v a=>h (j+1) v (by simpa using a))
def zkE(C:KdlSrc prog w T r d n P OK)(J:A.handled=none)(x:OK s.heap)(z:n<=sizeLine){ns:List Int}(u:ns.length=n)(l:n<64)(H:∀(j:Nat) v,P j v->∃i t,v=Value.int i t/\ns[j]? =some i)
  (h:∀(f h':Heap) (y:Nat) (out:Array Value) (a:List Int) (e:Nat),PyProof.Rows.IntsAre out.toList a->a.Perm ns->a.Pairwise (·<=·)->(∀b o,s.heap.get? b=some o->f.get? b=some o)->(∀b o,f.get? b=some o->h'.get? b=some o)->h'.get? f.objs.size=some (seqObj "list" out e)->Q (.ref f.objs.size) { s with heap:=h',toks:=y }) :
  wpAny (model prog w) A (call (.builtin "sorted") [.ref r]) Q E s:=by
 refine call_function_entry kind_sorted plain_sorted entry_sorted (args_sorted1 _) ?_;unfold Builtin.«sorted»;refine l6 (m:=checkCount "sorted" 1 1 _) (lz ?_);refine l6 (kdu_collect (A:=A.in1) C J x z λf y c L g=>?_);have p:c.toList.length=n:=by rw[mN];exact g.1
 refine l6 (wpAny_newList ?_ (by rw[p];exact z));have k:(f.push (seqObj "list" c.toList.toArray 0)).get? f.objs.size=some (seqObj "list" c.toList.toArray 0):=lL _ rfl;have G:PyProof.Rows.IntsAre c.toList ns:=zam _ _ (by rw[p,u]) λj v K=>H j v (g.2 j v (by rw[<-n6];exact K));refine l6 (mD (wpAny_call_entry slot_list_sort ⟨_,k,rfl⟩ entry_list_sort (list_sort_tree k G (by rw[p];exact l) λout a B D F=>⟨_,rfl,?_⟩) (args_list_sort _)));obtain⟨e,I⟩:=sortedHeap_at (out:=out) k;exact lz ⟨_,rfl,h f _ y out a e B D F L (λb o q=>by rw[sortedHeap_old (lK (lD q)) (by rw[size_push'];exact Nat.lt_succ_of_lt (lD q))];exact li _ q) I⟩
end
end PySem
namespace L2
open PySem PySem.Spec PyProof.Rows
def Inv.turnedL{h':Heap}{t':Nat}{fp:List Addr}(I:Inv X π σ H s)(k:∀b o,b∉fp->s.heap.get? b=some o->h'.get? b=some o)
  (f:∀b∈fp,FpOk X π H b):Inv X π σ H { s with heap:=h',toks:=t' }:=by
 have d:∀b u,H b=some u->b∉fp:=λb u e z=>by rw[(f b z).1]at e;cases e
 refine I.step (g':=s.gens) (d':=s.drawn) (ch:=fp) (λb l=>?_) (λb o _ _ a e _=>k b o a e) (λb o _ _ a e _=>⟨o.slots,k b o a e⟩) (λ_ _ _ _ n=>n)
  (λb o a e=>⟨o,k b o a e⟩) (λ_ _ e=>e) (λ_ _ _ e=>e) (λb y e=>⟨#[],by rw[e];simp⟩) (λm p=>?_) (λb u e=>?_) I.bare
 .obtain⟨w,g,x,h,i,j⟩:=f b l;exact⟨h,g,i,j⟩
 .obtain⟨o,es,ep,t,r⟩:=p;exact⟨o,es,ep,k _ o (λz=>(f _ z).2.1 rfl) t,r⟩
 .refine(I.hok b u e).stay (λc v a q=>k c v ?_ q) (λ_ q=>q) λ_ _ q=>q;rcases a with z|z
  .rw[z];exact d b u e
  .exact d c _ z
abbrev Ite(K:W.Frag)(a:Addr):It:=
 ⟨λi H=>∃b x,SqL K H a b/\b[i]? =some x,λi H x c=>∃t y,x=.ref t/\H t=none/\c=upd H t (.tup [.int i,y])/\∀b,SqL K H a b->b[i]? =some y,λi H=>∃b,SqL K H a b/\b.length<=i⟩
def zgd{k:Nat}(a e it:Addr)(r:e≠it) :
    Turn P w K (.Tuple es k pos) (Ite K a) [e,it] e (λi h=>(∃f,IsEnum h e it (i:Nat) f)/\h.IsListIter it a i) where
  mem:=m!""
  obj:=λi h st b g=>by
    obtain⟨⟨f,j⟩,o,B,c,d⟩:=st;have m:b=e\/b=it:=by simpa using g
    rcases m with rfl|rfl
    · exact⟨_,j,fun v z=>by
        have z':Data.fields _=Data.cell v:=z;cases z'⟩
    · exact⟨o,B,λv z=>by rw[d]at z;cases z⟩
  keep:=λi h h' st k=>⟨st.1.elim λf j=>⟨f,k e m!"" _ j⟩,st.2.at λo q=>k it m!"" o q⟩
  item:=by
    intro X G N F S i π s σ H E I y st M;subst G N F;obtain⟨⟨f,j⟩,l⟩:=st;obtain⟨xs,x,A,hx⟩:=M;obtain⟨O,Q,p,hz⟩:=I.list A;obtain⟨u,hu,ru⟩:=Q.get hx;refine wpAny_pyNext_enum_item j l p.isList (x:=u) (by simpa using hu) r λh' J n ht hsz kk=>?_;refine⟨_,rfl,wpAny_letOwnedTupleGo_enum J λh2 L R=>?_⟩;have hn:=I.hok.fresh (ll s.heap.objs.size);have U:Inv X π σ (upd H s.heap.objs.size (.tup [.int i,x])) { s with heap:=s.heap.push { cls:=.type "tuple",data:=.seq [Value.int i s.toks,u].toArray },toks:=s.toks+1 }:=
      I.laid (λb o e=>li _ e) (ll _) ⟨by show 2<=sizeLine;decide,[Value.int i s.toks,u],.cons ⟨_,rfl⟩ (.cons ru .nil),IsTup.new s.heap _⟩
    have lt:∀b∈[e,it],b≠s.heap.objs.size:=λb g=>by
      have m:b=e\/b=it:=by simpa using g
      rcases m with rfl|rfl
      · exact lK (lD j)
      · obtain⟨o,B,_⟩:=l
        exact lK (lD B)
    have T:∀b∈[e,it],upd H s.heap.objs.size (.tup [.int i,x]) b=none:=λb g=>by rw[zi (lt b g)];exact(y b g).1
    have V:=U.turnedL (h':=h2) (t':=s.toks+1) (fp:=[e,it]) (fun b o g q=>by
      have C:b≠e:=λz=>g (by simp[z]);have D:b≠it:=λz=>g (by simp[z]);by_cases hbz:b=s.heap.objs.size
      · subst hbz
        have t:(s.heap.push { cls:=.type "tuple",data:=.seq #[Value.int i s.toks,u] }).get? s.heap.objs.size=some o:=q;rw[lL s.heap (o:={ cls:=.type "tuple",data:=.seq #[Value.int i s.toks,u] }) rfl]at t;exact(R.2 _ C).trans (ht.trans t)
      · have t:(s.heap.push { cls:=.type "tuple",data:=.seq #[Value.int i s.toks,u] }).get? b=some o:=q
        rw[Heap.get?_push_ne _ _ _ hbz]at t;exact(R.2 b C).trans (kk b o C D t)) λb g=>⟨T b g,(y b g).2⟩
    have Y:((i:Int)+1)=(((i+1:Nat)):Int):=⋯
    refine⟨.ref s.heap.objs.size,_,V,rfl,⟨_,x,rfl,hn,rfl,λys hy=>by rw[I.list_inj hy A];exact hx⟩,⟨⟨_,Y▸L⟩,n.at λo q=>(R.2 it (Ne.symm r)).trans q⟩,T⟩
  done:=by intro X G N F S i π s σ H E I y st M;subst G N F;obtain⟨⟨f,j⟩,l⟩:=st;obtain⟨xs,A,hx⟩:=M;obtain⟨O,Q,p,hz⟩:=I.list A;have hl:=Q.length;obtain⟨Z,f1,f2,f3,f4,f5⟩:=y it m!"";exact wpAny_pyNext_enum_end (I.ok.hd S) j l p.isList (by simp;lia) λh' W=>⟨rfl,I.turned (t':=s.toks) (λb o g e=>W b o g e) Z f1 f3 f4 f5⟩
  self:=λ_ _ _ _ _ st h=>st.1.elim λf j=>oI j h
abbrev zec(K:W.Frag)(c:TA):TI:=λσ H R=>c σ H λvs b=>∃a,vs=[.ref a]/\(∃d,SqL K b a d)/\R (Ite K a) b
def zkF{k:Nat}{B:Pos}{l:Expr}{i:TA}{p:Pos}(t:Gl X "enumerate")(v:X.mg "enumerate" =none)(n:PA X [l] i)(x:starEach [l] X.env=[(false,eval l X.env)]:=by rfl) :
  PI X (.Tuple es k B) (.Call (.Name "enumerate" p) [l] [] pos) (zec X.K i):=by
 intro π s σ H R I h;refine Call_ (vY I t v boot_enumerate (mF (thn (n pos π s σ H _ I h) λus d ⟨vs,j,c,A,z⟩=>?_) x rfl));obtain⟨a,e,⟨D,w⟩,q⟩:=z;subst e;cases A with
 |cons r rr=>
  cases rr;cases r;obtain⟨y,C,p,hz⟩:=c.list w;refine call_enumerate_list p.isList λh' g m hsz u=>oI g ?_;refine⟨d.heap.objs.size+1,[d.heap.objs.size+1,d.heap.objs.size],_,_,j,rfl,c.kept (t':=d.toks) u,zgd a _ _ (Nat.succ_ne_self _),⟨⟨_,g⟩,m⟩,λb o=>?_,q⟩;have f:b=d.heap.objs.size+1\/b=d.heap.objs.size:=by simpa using o
  rcases f with rfl|rfl
  .exact c.fpOk (nM _) (c.hok.fresh (nM _))
  .exact c.fpOk (ll _) (c.hok.fresh (ll _))
abbrev zmB(lo c:Int)(n:Nat):It:=⟨λi _=>i<n,λi H x a=>a=H/\x=.int (lo+(i:Nat)*c),λi _=>n<=i⟩
def zcw(it:Addr)(lo c:Int)(n:Nat):Turn P w K tg (zmB lo c n) [it] it (λi h=>IsRangeIter h it (lo+(i:Nat)*c) ((n:Int)-(i:Nat)) c) where
 mem:=m!""
 obj:=λi h st b a=>by
  have e:b=it:=by simpa using a
  subst e;exact⟨_,st,fun v z=>by
   have J:Data.fields _=Data.cell v:=z;cases J⟩
 keep:=λi h h' st k=>k it m!"" _ st
 item:=by intro X r y q u i π s σ H E I f st x;subst r y q;obtain⟨g,j,D,l,m,p⟩:=f it m!"";have W:=Walks.range (prog:=X.prog) (w:=X.w) (I.ok.hd u) it lo c n;refine W.item i s _ _ x st λv h' A F d G=>?_;obtain⟨t,rfl⟩:=F;have B:Inv X π σ H { s with heap:=h',toks:=A }:=I.turned (λb o a e=>G b o (by simpa using a) e) g j l m p;exact⟨_,rfl,Y7 (s:={ s with heap:=h',toks:=A }) (n:="range_iterator") d rfl rfl ∅ ⟨.int (lo+(i:Nat)*c),H,B,⟨t,rfl⟩,⟨rfl,rfl⟩,d,λb a=>(f b a).1⟩⟩
 done:=by intro X r y q u i π s σ H E I f st x;subst r y q;obtain⟨g,j,D,l,m,p⟩:=f it m!"";exact wpAny_pyNext_range_end (I.ok.hd u) st (by have:n<=i:=x;lia) λh' C=>⟨rfl,I.turned (t':=s.toks) (λb o a e=>C b o a e) g j l m p⟩
 self:=λ_ _ _ _ _ st h=>wpAny_pyIter_rangeiter st h
abbrev R3(i j c:Int)(n:Nat):Prop:=c≠0/\Builtin.Range.small i j c=true/\Builtin.Range.rangeSize i j c=n/\Builtin.divisionGoesByPylong (j-i) c=false
abbrev zjJ(b:TA):TI:=λσ H R=>b σ H λvs a=>∃(i j c:Int) (n:Nat),vs=[.int i,.int j,.int c]/\R3 i j c n/\R (zmB i c n) a
def zge{a b c:Expr}{u:TA}{p:Pos}(B:Gl X "range")(C:X.mg "range" =none)(z:PA X [a,b,c] u)(D:starEach [a,b,c] X.env=(false,eval a X.env)::starEach [b,c] X.env:=by rfl)
  (g:(backTo pos (starEach [b,c] X.env)).any (·.1)=false:=by rfl):PI X tg (.Call (.Name "range" p) [a,b,c] [] pos) (zjJ u):=by
 intro π s σ H R I h;refine Call_ (vY I B C boot_range (mF (thn (z pos π s σ H _ I h) λus d ⟨vs,m,v,G,F⟩=>?_) D g));obtain⟨i,j,k,n,e,⟨E,J,K,w⟩,q⟩:=F;subst e;cases G with
 |cons r rr=>
  cases rr with
  |cons r' rr=>
   cases rr with
   |cons r2 rr=>
    cases rr;obtain⟨t,rfl⟩:=r;obtain⟨t',rfl⟩:=r';obtain⟨l,rfl⟩:=r2;refine call_range_3 E ?_ (.inl w);refine wpAny_pyIter_range (IsRange.new ..) J ?_;have f:Inv X π σ m { d with heap:=d.heap.push { cls:=.type "range",data:=.fields #[.int i t,.int j t',.int k l] } }:=v.kept (t':=d.toks) λb o e=>li _ e;refine⟨_,[(d.heap.push { cls:=.type "range",data:=.fields #[.int i t,.int j t',.int k l] }).objs.size],_,_,m,rfl,f.kept (t':=d.toks) λb o e=>li _ e,zcw _ i k n,?_,λb A=>?_,q⟩
    .have x:i+((0:Nat):Int)*k=i:=m!""
     have y:((n:Nat):Int)-((0:Nat):Int)=Builtin.Range.rangeSize i j k:=by rw[K];simp
     show IsRangeIter _ _ (i+((0:Nat):Int)*k) (((n:Nat):Int)-((0:Nat):Int)) k;rw[x,y];exact lL _ rfl
    .have e:b=(d.heap.push { cls:=.type "range",data:=.fields #[.int i t,.int j t',.int k l] }).objs.size:=by simpa using A
     subst e;exact f.fpOk (ll _) (f.hok.fresh (ll _))
abbrev srt(ns:List Int):List Int:=ns.mergeSort λa b=>decide (a<=b)
def zmC(ns:List Int):(srt ns).Pairwise (·<=·):=by
 have h:=List.pairwise_mergeSort (le:=λa b:Int=>decide (a<=b)) (λa b c d e=>by simp at d e ⊢;lia) (λa b=>by simp;lia) ns;exact h.imp λh=>by simpa using h
def zan:∀{a b:List Int},a.Perm b->a.Pairwise (·<=·)->b.Pairwise (·<=·)->a=b
 |[],b,h,_,_=>by
  have:=h.length_eq;cases b with
  |nil=>rfl
  |cons=>cases this
 |x::a,[],h,_,_=>by cases h.length_eq
 |x::a,y::b,h,ha,hb=>by
  have e:x=y:=by
   have c:x∈y::b:=h.mem_iff.mp (lh ..);have d:y∈x::a:=h.mem_iff.mpr (lh ..);have f:x<=y:=by
    rcases lu.mp d with z|z
    .exact Int.le_of_eq z.symm
    .exact(oB.mp ha).1 y z
   have g:y<=x:=by
    rcases lu.mp c with z|z
    .exact Int.le_of_eq z.symm
    .exact(oB.mp hb).1 x z
   lia
  subst e;rw[zan (List.Perm.cons_inv h) (oB.mp ha).2 (oB.mp hb).2]
def zmD{ns a:List Int}(b:a.Perm ns)(c:a.Pairwise (·<=·)):a=srt ns:=zan (b.trans (List.mergeSort_perm ns _).symm) c (zmC ns)
def zkG(ns:List Int):(srt ns).length=ns.length:=(List.mergeSort_perm ns _).length_eq
def Yb:∀{ns:List Int}{us:List Value},Vals (ns.map V.int) us->IntsAre us ns
 |[],_,h=>by cases h;exact .nil
 |n::ns,_,h=>by
  cases h with
  |cons h1 h2=>obtain⟨t,rfl⟩:=h1;exact .cons n t (Yb h2)
abbrev zed:List V->Hp->VK->Prop:=λb H Q=>∃a kvs ns,b=[.ref a]/\H a=some (.dK kvs)/\kvs.map (·.1)=ns.map (Sum.inl:Int->Key)/\ns.length<64/\∀p,H p=none->Q (.ref p) (upd H p (.lst ((srt ns).map V.int)))
def zao(F:X.calm=true):yj X (.builtin "sorted") zed:=by
 intro π s σ H T us Q I r h;obtain⟨a,kvs,ns,rfl,e,J,S,q⟩:=h;obtain⟨u,rfl,P⟩:=r.one;cases P;obtain⟨z,G,vs,m,B⟩:=Uf I.hok e;obtain⟨ep,f⟩:=B.dictAt;have l:=m.keys;rw[J]at l;have c:ns.length=vs.length:=by have:=mH List.length l;simpa using this
 refine zkE (PySem.W.kdl_dict (knd:=zK X.prog X.w) (kvs:=vs) (ep:=ep) G) (I.ok.hd F) f (by rw[lI];lia) (ns:=ns) c ⋯ (λj v L=>?_) λd h' R out O C p y A M N K=>?_
 .obtain⟨k,x,hx,g⟩:=L;have b:(vs.map (·.1))[j]? =some k:=by rw[lw,hx];rfl
  rw[<-l,lw]at b;cases hn:ns[j]? with
  |none=>rw[hn]at b;cases b
  |some i=>
   rw[hn]at b;have E:(Sum.inl i:Key)=k:=lV b;subst E;rcases yh (k:=Sum.inl i) (show jR (Sum.inl i) v=true from g)with⟨i',t,e1,e2⟩|⟨x',t,e1,e2⟩
   .cases e1;exact⟨i,t,e2,rfl⟩
   .cases e1
 .have D:=zmD y A;subst D;have n:Inv X π σ H { s with heap:=d }:=I.kept (t':=s.toks) M;refine⟨.ref d.objs.size,_,n.laid (a:=d.objs.size) (o:=.lst ((srt ns).map V.int)) (t':=R) N (ll _) ⟨?_,out.toList,C,Z9 p,?_⟩,rfl,q _ (n.hok.fresh (ll _))⟩
  .rw[l8,zkG,lI];lia
  .rw[Array.toArray_toList];exact K
abbrev Uj(K:W.Frag)(H:Hp):List V->List (Key×V)->Prop:=Paired λy a=>∃t,y=.ref t/\SqT K H t [kV a.1,a.2]
def Uj.keep{a:Hp}{d:List V}(h:Uj K H d kvs)(k:∀b c,SqT K H b c->SqT K a b c):Uj K a d kvs:=
 Paired.imp' (λy f ⟨t,e,q⟩=>⟨t,e,k t _ q⟩) h
abbrev zgf(K:W.Frag):List V->Hp->VK->Prop:=λc H Q=>∃a b kvs,c=[.ref a]/\SqL K H a b/\Uj K H b kvs/\kvs.length<=1000/\∀p,H p=none->Q (.ref p) (upd H p (.dK (xT [] kvs)))
def zee(S:X.calm=true):yj X (.type "dict") (zgf X.K):=by
 intro π s σ H xs us Q I r h;obtain⟨a,ys,kvs,rfl,G,F,T,q⟩:=h;obtain⟨u,rfl,ru⟩:=r.one;cases ru;obtain⟨k,J,⟨o,n,e,c,A,E⟩,hz⟩:=I.list G;have V:=lJ F;have W:=J.length;have i:∃ws:List (Key×Value),KV kvs ws/\∀(j:Nat) f,ws[j]? =some f->∃t d,k[j]? =some (.ref t)/\IsTup s.heap t #[d,f.2]/\(zK X.prog X.w).is f.1 d=true:=by
  clear q E e hz V W G;induction F generalizing k with
  |nil=>exact⟨[],.nil,λj f g=>by simp at g⟩
  |@cons y f ys kvs hy t ih=>
   cases J with
   |@cons _ w1 _ ws1 r1 r2=>
    obtain⟨ws,m,C⟩:=ih (by simp at T;lia) _ r2;obtain⟨b,rfl,R⟩:=hy;cases r1;obtain⟨tt,rt,Z,_⟩:=I.tuple R;cases rt with
    |@cons _ d _ t1 rk t1r=>
     cases t1r with
     |@cons _ v _ t2 rv' t2r=>
      cases t2r;refine⟨(f.1,v)::ws,.cons ⟨rfl,rv'⟩ m,λj D g=>?_⟩;cases j with
      |zero=>cases g;obtain⟨Y,M,N,_,O⟩:=Z;exact⟨b,d,rfl,⟨Y,M,N,_,O⟩,Xg rk⟩
      |succ j=>obtain⟨t',l,p,x,z⟩:=C j D (by simpa using g);exact⟨t',l,by simpa using p,x,z⟩
 obtain⟨ws,m,C⟩:=i;have l3:=m.length;refine zh7 (knd:=zK X.prog X.w) (I.ok.hd S) e c E A (more:=ws) (by simp;lia) (λj f g=>?_) (by rw[lI];lia) λh' tk L U=>?_
 .obtain⟨t,d,p,x,z⟩:=C j f g;exact⟨t,d,by simpa using p,x,z⟩
 .refine⟨.ref s.heap.objs.size,_,I.laid (a:=s.heap.objs.size) (o:=.dK (xT [] kvs)) (t':=tk) U (ll _) ?_,rfl,q _ (I.hok.fresh (ll _))⟩;have B:(xT [] kvs).length<=sizeLine:=by
   have P:=qv kvs [];rw[nE]at P;rw[lI];lia
  exact Ug B (mM.mpr (Ne.symm (lK I.big))) (KV.merge m .nil) L
abbrev zc3:V->List V->Hp->VK->Prop:=λx vs H Q=>∃a kvs,x=.ref a/\vs=[]/\H a=some (.dK kvs)/\Q .non (upd H a (.dK []))
def zgg:MtR X "dict.clear" zc3:=by
 intro π s σ H x e v us Q I d r h;obtain⟨a,kvs,rfl,rfl,c,q⟩:=h;cases r;cases d;exact zky I c λs' b=>⟨.non,_,b,rfl,q⟩
structure CalM (P:Program) (w:World) (K:W.Frag) (mg:Str->Option Value) (base:Heap) (k:Nat) (x:Str) (C:Addr) (sp:Sp):Prop where
 ex:∃(f:Addr) (fd:FuncData) (ps:List Str),Mk K C f/\FnOk P w K mg base CX0 k f fd ps sp/\mg x=some (.ref C)/\Binds K fd ps []
section
variable {k:Nat}{sp:Sp}{p:Pos}{t:TA}
def ql(c:CalM X.prog X.w X.K X.mg X.base k x C sp)(l:Room (k+1) X.A)(i:Gl X x)(d:PA X (e::es) t)(a:(x==("__debug__":Str))=false:=by decide)
  (h:starEach (e::es) X.env=(false,eval e X.env)::starEach es X.env:=by rfl)(b:(backTo pos (starEach es X.env)).any (·.1)=false:=by rfl):PE X (.Call (.Name x p) (e::es) [] pos) (Ua C sp [] E0 t):=by
 obtain⟨f,fd,m,M,F,j,g⟩:=c.ex;exact zks M F l i j g .nil Ud d a h b
end
def jU{i:Int}(b:Gl X x)(h:∃t,X.mg x=some (.int i t))(a:(x==("__debug__":Str))=false:=by decide):PE X (.Name x pos) (tC (.int i)):=by
 obtain⟨t,e⟩:=h;exact Y5 b e ⟨t,rfl⟩ a
abbrev cE:Expr->Option V
 |.Constant (.int i) _ _=>some (.int i)
 |.Constant .none _ _=>some .non
 |.Constant (.bool b) _ _=>some (.bl b)
 |.Constant (.str x) _ _=>some (.str x)
 |_=>none
abbrev zef:List Expr->Option (List V)
 |[]=>some []
 |e::es=>match cE e,zef es with
  |some v,some vs=>some (v::vs)
  |_,_=>none
abbrev tCs(vs:List V):TA:=λ_ H Q=>Q vs H
def zoh(h:cE e=some v):PE X e (tC v):=by
 unfold cE at h;split at h
 .cases h;exact zb
 .cases h;exact xh
 .cases h;exact zT
 .cases h;exact zh
 .cases h
def zkH(h:cE e=some v):zah e=true:=by
 unfold cE at h;split at h<;>first|rfl|cases h
def zgh:∀{es:List Expr}{vs:List V},zef es=some vs->QA X es (tCs vs)
 |[],vs,h=>by cases h;exact qn
 |e::es,vs,h=>by
  simp only[zef]at h;split at h
  .rename_i v ws a b;cases h;exact qc (zoh a) (zgh b) (zkH a)
  .cases h
def zkI(h:zef es=some vs):PE X (.List es pos) (K8 (tCs vs)):=yB (zgh h)
end L2
namespace L2
open PySem PySem.W PySem.Calls PyProof.Rows
def zgi{vs:List Value}{ns:List Int}(b:IntsAre vs ns):∃a,vs.toArray=PySem.intItems a/\ns=a.toList.map (·.1):=by
 obtain⟨a,e⟩:=b.allInts.items;exact⟨a,e,by rw[<-b.numsOf,<-nums_intItems,<-e]⟩
end L2
namespace PySem
open PySem PySem.W PySem.Calls PyProof.Rows
section
variable {R:Result->Shared->Prop}{I S:Addr}{fp wr:List Addr}{P:Nat->Value->Prop}{St:Nat->Heap->Prop}
abbrev zeg(a:Nat->Int)(j:Nat)(v:Value):Prop:=∃b t,b<j/\v=.int (a b) t/\∀i,i<j->a b<=a i
def zh8(W:Walks prog w A.in1 I fp wr n P St)(a:Nat->Int)(B:∀i v,P i v->∃t,v=.int (a i) t)(D:S∉fp)(d:Value)(k:Nat) :
  ∀(j:Nat) (s:Shared) (g:Array Value) (c:Nat),n-j=k->j<=n->St j s.heap->((j= 0/\g= #[])\/∃v,zeg a j v/\g= #[v,v])->
   s.heap.get? S=some { cls:=.type "list",dict:=none,data:=.seq g c,slots:=#[] }->
   (∀v h' X,((n= 0/\v=d)\/zeg a n v)->(∀b o,b∉wr->b≠S->s.heap.get? b=some o->h'.get? b=some o)->R (.ok (.ret v)) { s with heap:=h',toks:=X })->
   codeAny (model prog w) A (.builtin "min.loop" ⟨[.ref I,.none,.ref S],[("default",d)]⟩) R s:=by
 have Y:S∉wr:=λz=>D (W.sub _ z);have U:(toString "min" ++ toString ".loop":String)= "min.loop":=∅
 induction k with
 |zero=>
  intro j s g c ek ej p N y q;have O:j=n:=⋯
  subst O;refine nZ F.entry_min_loop ?_;rw[nj nQ _];rcases N with⟨e0,rfl⟩|⟨v,hv,rfl⟩
  .show wpAny _ A.in1 (seqItems? (.ref S) >>= _) _ _ s;refine l6 (og y rfl (?_:wpAny _ A.in1 (tryCatch (pyNext (.ref I)) _ >>= _) _ _ s));refine l6 (nN (W.done s _ _ p λK l kept=>?_));refine l6 (qh (lz ?_));exact q d K l (.inl ⟨e0,rfl⟩) λb o r _ Q=>kept b o r Q
  .show wpAny _ A.in1 (seqItems? (.ref S) >>= _) _ _ s;refine l6 (og y rfl (?_:wpAny _ A.in1 (tryCatch (pyNext (.ref I)) _ >>= _) _ _ s));refine l6 (nN (W.done s _ _ p λK l kept=>?_));have f:=kept S _ Y y;refine l6 (m:=updateSeq S (λ_=>#[])) (wpAny_updateSeq f rfl (l6 (wpAny_letGo (lz ?_))));exact q v _ l (.inr hv) λb o r Q h4=>(mK _ _ (Ne.symm Q)).trans (kept b o r h4)
 |succ k ih=>
  intro j s g c ek ej p N y q;have lt:j<n:=⋯
  refine nZ F.entry_min_loop ?_;rw[nj nQ _];have go:∀(r:Heap) (H:Nat) (J:Value) (L:Nat),zeg a (j+1) J->St (j+1) r->r.get? S=some { cls:=.type "list",dict:=none,data:=.seq #[J,J] L,slots:=#[] }->(∀b o,b∉wr->b≠S->s.heap.get? b=some o->r.get? b=some o)->
    codeAny (model prog w) A (.builtin "min.loop" ⟨[.ref I,.none,.ref S],[("default",d)]⟩) R { s with heap:=r,toks:=H }:=λr H J L b1 b2 b3 b4=>
   ih (j+1) _ _ L ⋯ lt b2 (.inr ⟨J,b1,rfl⟩) b3 λv h' X z kk=>q v h' X z λb o C E G=>kk b o C E (b4 b o C E G)
  rcases N with⟨e0,rfl⟩|⟨v,⟨b0,t0,hb0,rfl,hle⟩,rfl⟩
  .subst e0;show wpAny _ A.in1 (seqItems? (.ref S) >>= _) _ _ s;refine l6 (og y rfl (?_:wpAny _ A.in1 (tryCatch (pyNext (.ref I)) _ >>= _) _ _ s));refine l6 (nN (W.item 0 s _ _ lt p λx K l V u kept=>?_));have f:=kept S _ Y y;obtain⟨t,rfl⟩:=B _ _ V;refine l6 (m:=updateSeq S (λ_=>#[.int (a 0) t,.int (a 0) t])) (wpAny_updateSeq f rfl ?_);rw[U];refine lz ⟨nJ nQ _,go _ l _ _ ⟨0,t,⋯,rfl,λi Z=>?_⟩ (W.frame _ _ _ u λb T o e=>?_) (n5 _ f rfl) λb o C E G=>?_⟩
   .have:i= 0:=⋯
    subst this;exact pR _
   .exact(mK _ _ (λz:S=b=>D (z▸T))).trans e
   .exact(mK _ _ (Ne.symm E)).trans (kept b o C G)
  .show wpAny _ A.in1 (seqItems? (.ref S) >>= _) _ _ s;refine l6 (og y rfl (?_:wpAny _ A.in1 (tryCatch (pyNext (.ref I)) _ >>= _) _ _ s));refine l6 (nN (W.item j s _ _ lt p λx K l V u kept=>?_));have f:=kept S _ Y y;obtain⟨t,rfl⟩:=B _ _ V;have M:=CmpOf.ints_lt (prog:=prog) (w:=w) (A:=A.in1) (P:=λi v=>∃t,v=Value.int (a i) t) a (λi v h=>h);refine l6 (m:=tryCatch (holding _ (richCompare .Lt (.int (a j) t) (.int (a b0) t0) >>= _)) _) (nN (mD (l6 (M j b0 _ _ _ _ _ ⟨t,rfl⟩ ⟨t0,rfl⟩ ?_))));refine l6 (mD (mj (l6 (wpAny_letGo (lz ?_)))));by_cases hlt:a j<a b0
   .simp only[hlt,decide_true,p7];refine l6 (m:=updateSeq S (λ_=>#[.int (a j) t,.int (a j) t])) (wpAny_updateSeq f rfl (l6 (wpAny_letGo ?_)));rw[U];refine lz ⟨nJ nQ _,go _ l _ _ ⟨j,t,⋯,rfl,λi Z=>?_⟩ (W.frame _ _ _ u λb T o e=>?_) (n5 _ f rfl) λb o C E G=>?_⟩
    .by_cases hij:i=j
     .rw[hij];exact pR _
     .have:=hle i ⋯
      lia
    .exact(mK _ _ (λz:S=b=>D (z▸T))).trans e
    .exact(mK _ _ (Ne.symm E)).trans (kept b o C G)
   .simp only[hlt,decide_false,pX,pO];refine l6 (wpAny_letGo ?_);rw[U];refine lz ⟨nJ nQ _,go _ l _ _ ⟨b0,t0,⋯,rfl,λi Z=>?_⟩ u f λb o C E G=>kept b o C G⟩;by_cases hij:i=j
    .rw[hij]
     lia
    .exact hle i ⋯
def zgj(a v:Value):argsOk "min" ⟨[a],[("default",v)]⟩:=by
 unfold argsOk
 kernel_rfl
def call_minDf{l:Addr}{a:Array (Int×Tok)}{d:Value}(k:A.handled=none)(n:s.heap.IsList l (intItems a))
  (h:∀v h' g,((a.size= 0/\v=d)\/zeg (numAt a) a.size v)->(∀b o,s.heap.get? b=some o->h'.get? b=some o)->Q v { s with heap:=h',toks:=g }):wpAny (model prog w) A (call (.builtin "min") [.ref l] [("default",d)]) Q E s:=by
 have q:(toString "min" ++ toString ".loop":String)= "min.loop":=∅
 have r:(intItems a).size=a.size:=by simp[intItems]
 refine kmb_tree F.kind_min F.plain_min F.entry_min (zgj _ _) ?_;refine l6 (m:=Builtin.Builtins.bindParams "min" ["key","default"] 0 ⟨[],[("default",d)]⟩) (wpAny_of_eq (show _=pure [none,some d]from rfl) ?_);refine l6 (lz (l6 (iter_intList n λu e st c f=>?_)));subst e;refine l6 (nK ?_);rw[q];have i:=Walks.list (prog:=prog) (w:=w) (A:=A.in1) k s.heap.objs.size l f (intItems a);refine lz ⟨nJ nQ _,zh8 i (numAt a) (λ_ _=>intItems_at) (λz=>nI _ (c _ z)) d _ 0 _ #[] _ rfl (lY _) (i.frame _ _ _ st λb _ o e=>li _ e) (.inl ⟨rfl,rfl⟩) (lL _ rfl) λv h' g z p=>?_⟩;rw[r]at z;exact h v h' g z (old_kept λb o t j=>p b o t (lK (lD j)) (li _ j))
end
end PySem
namespace L2
open PySem PySem.W PySem.Calls PyProof.Rows
section
variable {p:Pos}{kws:List Keyword}{ks:List Str}{t tk:TA}{id:String}{r:List V->List V->Hp->VK->Prop}
abbrev zmE(r:List V->List V->Hp->VK->Prop)(t tk:TA):TE:=λσ H Q=>t σ H λvs a=>tk σ a λc b=>r vs c b Q
abbrev zap(X:Cx)(f:Value)(ks:List Str)(r:List V->List V->Hp->VK->Prop):Prop:=∀(π:List (Addr×Obj)) (s:Shared) (σ:St) (H:Hp) (vs:List V) (us:List Value) (a:List V) (ws:List Value) (Q:VK),
 Inv X π σ H s->Vals vs us->Vals a ws->r vs a H Q->wpAny (model X.prog X.w) X.A (call f us (ks.zip ws)) (EP X π σ Q) X.xe s
def zgk(n:zap X (.builtin id) ks r)(q:Gl X x)(u:X.mg x=none)(w:bootBuiltins x=some (.builtin id))(m:PA X (e::es) t)(d:PK X kws tk)(c:(backToKw pos (keywordEach kws X.env)).filterMap (·.1)=ks:=by rfl)
  (v:x≠"__name__":=by decide)(b:(x==("__debug__":Str))=false:=by decide)(o:backTo pos (starEach (e::es) X.env)=(false,eval e X.env)::backTo pos (starEach es X.env):=by rfl)(g:(backTo pos (starEach (e::es) X.env)).any (·.1)=false:=by rfl)
  (a:(backToKw pos (keywordEach kws X.env)).all (·.1.isSome)=true:=by rfl)(f:(backToKw pos (keywordEach kws X.env)).any (·.1.isNone)=false:=by rfl):PE X (.Call (.Name x p) (e::es) kws pos) (zmE r t tk):=by
 intro π s σ H Q I h;refine n4 (vY I q u w ?_ v b);refine callWith_kw (thn (m pos π s σ H _ I h) λus C ⟨vs,i,k,A,y⟩=>thn (d pos π C σ i _ k y) λws D ⟨E,j,l,B,z⟩=>?_) o g a f;rw[c];exact n π D σ j vs us E ws Q l A B z
abbrev zaq(K:W.Frag):List V->List V->Hp->VK->Prop:=λvs c H Q=>∃(a:Addr) (ns:List Int) (d:Int),vs=[.ref a]/\c=[.int d]/\SqL K H a (ns.map V.int)/\(ns=[]->Q (.int d) H)/\∀M,M∈ns->(∀b∈ns,M<=b)->Q (.int M) H
def call_minDf(k:X.calm=true):zap X (.builtin "min") ["default"] (zaq X.K):=by
 intro π s σ H vs us C ws Q I r y h;obtain⟨a,ns,d,rfl,rfl,m,o,q⟩:=h;obtain⟨u,rfl,w⟩:=r.one;obtain⟨v,rfl,A,rfl⟩:=y.one;cases w;obtain⟨n,x,p,hz⟩:=I.list m;obtain⟨B,e,c⟩:=zgi (Yb x);have i:=p.isList;rw[e]at i;have len:ns.length=B.size:=by rw[c,l8,mN]
 refine PySem.call_minDf (I.ok.hd k) i λv h' tk z g=>?_;rcases z with⟨z,rfl⟩|⟨b,t,hb,rfl,hle⟩
 .exact⟨.int d,H,I.kept (t':=tk) g,⟨A,rfl⟩,o (mG.mp ⋯)⟩
 .refine⟨.int _,H,I.kept (t':=tk) g,⟨t,rfl⟩,q _ ?_ λa f=>?_⟩
  .rw[c,numAt_eq];exact getD_mem (by rw[l8,mN];lia)
  .rw[c]at f;obtain⟨j,l,rfl⟩:=mem_getD f;rw[l8,mN]at l;rw[<-numAt_eq];exact hle j ⋯
end
end L2
namespace L2
open PySem PySem.Spec PyProof.Rows
structure CalT (P:Program) (w:World) (K:W.Frag) (mg:Str->Option Value) (base:Heap) (k:Nat) (m:Str) (C:Addr) (sp:Sp):Prop where
 ex:∃(f:Addr) (fd:FuncData) (ps:List Str),Cls K C/\Meth K C m f/\FnOk P w K mg base CX0 k f fd ps sp/\Binds K fd ps []
section
variable {k:Nat}{sp:Sp}{m:Str}{apos:Pos}{o:Expr}{ta:TE}{t:TA}
def zQ{pl:Sem Bool}(c:CalT X.prog X.w X.K X.mg X.base k m C sp)(d:Room k X.A)(b:PE X o ta)
    (e:eval (.Call (.Attribute o m apos) [] [] pos) X.env=(do
      let ov<-eval o X.env
      standAt apos.atName
      let(f,first)<-holding [ov] (getMethod ov m pl)
      callWith pos f first (backTo pos (starEach [] X.env)) (backToKw pos (keywordEach [] X.env))):=by rfl):PE X (.Call (.Attribute o m apos) [] [] pos) (Xc C m sp [] E0 ta Zq):=by
  obtain⟨f,fd,g,c,M,F,a⟩:=c.ex;exact zhO (pl:=pl) b c M F d a .nil Ud e
def zmF{pl:Sem Bool}(c:CalT X.prog X.w X.K X.mg X.base k m C sp)(i:Room k X.A)(h:PE X o ta)(d:PA X (e::es) t)
    (b:starEach (e::es) X.env=(false,eval e X.env)::starEach es X.env:=by rfl)(a:(backTo pos (starEach es X.env)).any (·.1)=false:=by rfl)
    (j:eval (.Call (.Attribute o m apos) (e :: es) [] pos) X.env=(do
      let ov<-eval o X.env
      standAt apos.atName
      let(f,first)<-holding [ov] (getMethod ov m pl)
      callWith pos f first (backTo pos (starEach (e::es) X.env)) (backToKw pos (keywordEach [] X.env))):=by rfl):PE X (.Call (.Attribute o m apos) (e::es) [] pos) (Xc C m sp [] E0 ta t):=by
  obtain⟨f,fd,l,c,M,F,g⟩:=c.ex;exact zkr (pl:=pl) h c M F i g .nil Ud d b a j
end
structure SV where
 wide:Int
 high:Int
 row:Int
 col:Int
 late:Bool
 ink:Int
 wrap:Bool
 putting:Bool
 home:Bool
 top:Int
 bottom:Int
 left:Int
 right:Int
 last:V
section
variable {st kp:Addr}{S:SV}
end
structure Sta (K:W.Frag) (C:Addr):Prop where
 cl:Cls K C
 n_picture:NoAttr K C "picture"
 n_wide:NoAttr K C "wide"
 n_high:NoAttr K C "high"
 n_row:NoAttr K C "row"
 n_column:NoAttr K C "column"
 n_late:NoAttr K C "late"
 n_ink:NoAttr K C "ink"
 n_wrap:NoAttr K C "wrap"
 n_putting:NoAttr K C "putting"
 n_home:NoAttr K C "home"
 n_top:NoAttr K C "top"
 n_bottom:NoAttr K C "bottom"
 n_left:NoAttr K C "left"
 n_right:NoAttr K C "right"
 n_stops:NoAttr K C "stops"
 n_kept:NoAttr K C "kept"
 n_last:NoAttr K C "last"
section
variable {sl:Addr}{S:SV}
end
abbrev zgl(d e:TE):TE:=λσ H Q=>d σ H λx c=>e σ c λy b=>∃a kvs k v,x=.ref a/\b a=some (.dK kvs)/\y=kV k/\vh kvs k=some v/\Q v b
abbrev zgm(e g f:TE):TS:=λD σ H=>f σ H λv c=>e σ c λx d=>g σ d λy b=>∃a kvs k,x=.ref a/\b a=some (.dK kvs)/\y=kV k/\kvs.length<1000/\D.nx σ (upd b a (.dK (yU kvs k v)))
section
variable {o i value:Expr}{td ty tv:TE}{pos':Pos}
def PE.cl{t:TE}(h:PE X e t):PE X e (λσ H Q=>∃b:VK,t σ H b/\∀x a,b x a->Q x a):=λπ s σ H Q I ⟨b,q,w⟩=>
 thn (h π s σ H b I q) λv g ⟨x,a,c,f,d⟩=>⟨x,a,c,f,w x a d⟩
def zh9(m:X.A.units+1<cLine)(j:PE X o td)(g:PE X i ty)(l:zh2 i):PE X (.Subscript o i pos) (zgl td ty):=λπ s σ H Q I h=>
 (zkA m j.cl g.cl l) π s σ H Q I ⟨_,h,λx n f=>⟨_,f,λy p ⟨a,kvs,k,v,b,c,d,e,q⟩=>⟨a,v,b,by rw[d,<-e];exact jd.k c,q⟩⟩⟩
def zia(m:X.A.units+1<cLine)(j:PE X o td)(g:PE X i ty)(n:PE X value tv)(l:swapsWith value (some (.Subscript o i pos')) pos.line X.env=pure false) :
  PS X (.Assign [.Subscript o i pos'] value pos) (zgm td ty tv):=λπ s σ H D I h=>
 (zkB m j.cl g.cl n.cl l) π s σ H D I ⟨_,h,λv p e=>⟨_,e,λx r f=>⟨_,f,λy t ⟨a,kvs,k,b,c,d,u,q⟩=>⟨a,_,b,by rw[d];exact zak.k c (qk f!"i"),q⟩⟩⟩⟩
end
def JB:∀ns:List Int,Reps K H (ns.map .int) (ns.map V.int)
 |[]=>rfl
 |n::ns=>⟨_,_,rfl,rfl,JB ns⟩
abbrev DK(K:W.Frag)(a:Addr)(D:List (Int×Int)):Prop:=KTD.keyedLook (λb=>K.lookup b) a (D.map λp=>(p.1,PyData.int p.2))=true
abbrev yV(D:List (Int×Int))(k:Int):Option Int:=match D with
 |[]=>none
 |(i,d)::r=>if k=i then some d else yV r k
def XI(k:Int):∀D:List (Int×Int),KTD.datumAt k (D.map λp=>(p.1,PyData.int p.2))=(yV D k).map PyData.int
 |[]=>rfl
 |(i,d)::D=>by
  have a:=XI k D;show(if decide (k=i)=true then some (PyData.int d)else KTD.datumAt k (D.map λp=>(p.1,PyData.int p.2)))=((if k=i then some d else yV D k).map PyData.int);by_cases h:k=i
  .rw[l9 (lM h),l9 h,nA]
  .rw[l7 (by simpa using h),l7 h,a]
abbrev zeh(K:W.Frag)(e:TE)(t:TA):TE:=λσ H Q=>e σ H λx b=>∃a D,x=.ref a/\DK K a D/\t σ b λf c=>∃i d,f=[.int i,.int d]/\Q (.int ((yV D i).getD d)) c
def zkJ{o:Expr}{M:TE}{t:TA}{g c:Pos}(Y:PE X o M)(W:PA X (e::es) t)
    (j:attributeBase o "get" X.env (eval o X.env)=eval o X.env:=by rfl)
    (l:((backTo c (starEach (e :: es) X.env)).all (fun x=>!x.1) && (backToKw c (keywordEach [] X.env)).all (fun x=>x.1.isSome)
      && decide ((e::es).length+([]:List Keyword).length+(if([]:List Keyword).isEmpty then 0 else 1)<30))=true:=by rfl)
    (k:(g.endLine==c.line)=true:=by rfl)(Z:starEach (e::es) X.env=(false,eval e X.env)::starEach es X.env:=by rfl)(f:(backTo c (starEach es X.env)).any (·.1)=false:=by rfl) :
    PE X (.Call (.Attribute o "get" g) (e::es) [] c) (zeh X.K M t):=by
  intro π s σ H Q I h;refine oR j l k rfl (thn (Y π s σ H _ I h) λv J ⟨x,N,u,r1,a,D,S,B,q1⟩=>?_);subst S;cases r1;have P:=KTD.keyed_of_look (h:=J.heap) (λb o q=>u.kIn b o q) B;obtain⟨_,kvs,⟨E,bs,ep,m,C,_⟩,_⟩:=id (P X.prog X.w);refine⟨"dict","dict.get",oF,PySem.F.slot_dict_get,PySem.F.type_dict_get,⟨E,m,C.1⟩,λb e=>by injection e with e;subst e;exact⟨E,m,C.2.1⟩,?_⟩;have A:=W c π J σ N _ u q1;rw[Z]at A ⊢;refine o0 (by show(false||(backTo c (starEach es X.env)).any (·.1))=false;rw[f]<;>rfl) (pw ?_);refine thn A λus L ⟨vs,O,y,r2,i,d,R,G⟩=>?_;subst R;obtain⟨u1,u2,rfl,T,U⟩:=r2.two;obtain⟨t1,rfl⟩:=T;obtain⟨t2,rfl⟩:=U;have r:=KTD.keyed_of_look (h:=L.heap) (λb o q=>y.kIn b o q) B;refine call_get2_intTab (r X.prog X.w) (.int d t2) λv n=>?_;rw[KTD.lookup_keyed,XI]at n;have p:PyProof.V.Flat v (PyData.int ((yV D i).getD d)):=by
    cases e:yV D i with
    |none=>rw[e]at n;exact n
    |some z=>rw[e]at n;exact n
  generalize(yV D i).getD d=z at p G;cases p L.heap with
  |int _ t=>exact⟨.int _,O,y.tok _,⟨t,rfl⟩,G⟩
inductive W where
 |d (x:PyData)
 |own (a:Addr)
 |row (a:Addr) (i:Nat)
inductive OO where
 |lst (ws:List W)
 |dK (kvs:List (Key×W))
 |ins (C dx:Addr) (fs:List (Str×W))
 |grid (rows:List (List PyData))
 |raw (p:HO->Hp->Prop)
/---/abbrev OM:=Addr->Option OO
abbrev updO(O:OM)(a:Addr)(o:OO):OM:=λb=>if b=a then some o else O b
abbrev del(O:OM)(a:Addr):OM:=λb=>if b=a then none else O b
def zd{O:OM}{o:OO}:updO O a o a=some o:=by simp[updO]
def ze{O:OM}{o:OO}(h:b≠a):updO O a o b=O b:=by simp[updO,h]
def xU{O:OM}:del O a a=none:=by simp[del]
def ua{O:OM}(h:b≠a):del O a b=O b:=by simp[del,h]
def yW{O:OM}{o u:OO}:updO (updO O a o) a u=updO O a u:=by
 funext b;unfold updO;split<;>rfl
def neO{O:OM}{o:OO}(h:O a=some o)(h':O b=none):a≠b:=by
 intro e;subst e;rw[h]at h';cases h'
structure Gh where
 Z:Hp
 G:Addr->Option (List Addr)
 F:Hp
structure Le (Γ Γ':Gh):Prop where
 f:Γ'.F=Γ.F
 z:Same Γ.Z Γ'.Z
 g:∀a rs,Γ.G a=some rs->∃more,Γ'.G a=some (rs++more)
def Le.refl(Γ:Gh):Le Γ Γ:=⟨rfl,Same.refl _,λ_ rs h=>⟨[],by rw[mm];exact h⟩⟩
def Le.trans {Γ c Γ2:Gh}(a:Le Γ c) (b:Le c Γ2):Le Γ Γ2:=⟨b.f.trans a.f,a.z.trans b.z,fun x rs h=>by
 obtain⟨m,d⟩:=a.g x rs h;obtain⟨i,e⟩:=b.g x _ d;exact⟨m++i,by rw[<-mS];exact e⟩⟩
def Le.zOnly{Γ:Gh}{Z:Hp}(h:Same Γ.Z Z):Le Γ ⟨Z,Γ.G,Γ.F⟩:=⟨rfl,h,λ_ rs h=>⟨[],by rw[mm];exact h⟩⟩
section
variable (K:W.Frag)
abbrev relW(Γ:Gh):W->V->Prop
 |.d x,v=>Rep K Γ.Z x v
 |.own a,v=>v=.ref a
 |.row a i,v=>∃rs r,Γ.G a=some rs/\rs[i]? =some r/\v=.ref r
/---/abbrev relWs(Γ:Gh):List W->List V->Prop:=Paired (relW K Γ)
abbrev Xh(Γ:Gh):Option W->Option V->Prop
 |some w,some v=>relW K Γ w v
 |none,_=>True
 |_,_=>False
/---/abbrev relR(Γ:Gh):List (Option W)->St->Prop:=Paired (Xh K Γ)
abbrev zX{κ:Type}(Γ:Gh):List (κ×W)->List (κ×V)->Prop:=Paired λp q=>p.1=q.1/\relW K Γ p.2 q.2
abbrev ObjW(Γ:Gh)(O:OM)(H:Hp)(a:Addr):OO->Prop
 |.lst ws=>∃vs,H a=some (.lst vs)/\relWs K Γ ws vs
 |.dK kvs=>∃vs,H a=some (.dK vs)/\zX K Γ kvs vs
 |.ins C dx fs=>∃vs,H a=some (.ins C dx vs)/\zX K Γ fs vs
 |.grid rows=>∃rs,Γ.G a=some rs/\H a=some (.lst (rs.map V.ref))/\rs.length=rows.length/\rs.Nodup/\
   ∀(i:Nat) (r:Addr) (ds:List PyData),rs[i]? =some r->rows[i]? =some ds->Γ.Z r=none/\O r=none/\∃vs,H r=some (.lst vs)/\Reps K Γ.Z ds vs
 |.raw p=>∃o,H a=some o/\∀Z,Same Γ.Z Z->p o Z
structure Sim (Γ:Gh) (O:OM) (H:Hp):Prop where
 z:Same Γ.Z H
 o:∀a oo,O a=some oo->Γ.Z a=none/\ObjW K Γ O H a oo
 gd:∀a rs,Γ.G a=some rs->∃o,H a=some o
 f:Same Γ.F H
 gn:∀a oo,O a=some oo->(∀rows,oo≠.grid rows)->Γ.G a=none
 fg:∀a o,Γ.F a=some o->Γ.G a=none
 fd:∀a o,Γ.F a=some o->Γ.Z a=none/\O a=none/\∀b rows rs,O b=some (.grid rows)->Γ.G b=some rs->a∉rs
 u:∀a b ra rb rs ss r,O a=some (.grid ra)->O b=some (.grid rb)->Γ.G a=some rs->Γ.G b=some ss->r∈rs->r∈ss->a=b
end
section
variable {Γ Γ':Gh}{O:OM}{H':Hp}
def relW.mono(h:Le Γ Γ'):∀{w:W}{v:V},relW K Γ w v->relW K Γ' w v
 |.d x,v,r=>Rep.same h.z x v r
 |.own a,v,r=>r
 |.row a i,v,⟨rs,r,e,f,g⟩=>by obtain⟨m,b⟩:=h.g _ _ e;have c:i<rs.length:=(lv.mp f).1;exact⟨rs++m,r,b,by rw[mz c];exact f,g⟩
def relWs.mono(h:Le Γ Γ'){ws:List W}(r:relWs K Γ ws vs):relWs K Γ' ws vs:=Paired.mapP r λ_ _ z=>z.mono h
def Xh.mono(h:Le Γ Γ'):∀{w:Option W}{v:Option V},Xh K Γ w v->Xh K Γ' w v
 |some w,some v,r=>relW.mono h r
 |none,_,_=>trivial
 |some _,none,r=>r.elim
def relR.mono(h:Le Γ Γ'){ρ:List (Option W)}(r:relR K Γ ρ σ):relR K Γ' ρ σ:=Paired.mapP r λ_ _ z=>z.mono h
def zX.mono{κ:Type}(h:Le Γ Γ'){a:List (κ×W)}{b:List (κ×V)}(r:zX K Γ a b):zX K Γ' a b:=Paired.mapP r λ_ _ z=>⟨z.1,z.2.mono h⟩
def relR.get{ρ:List (Option W)}:∀{i:Nat}{w:W},relR K Γ ρ σ->ρ[i]? =some (some w)->∃v,σ[i]? =some (some v)/\relW K Γ w v:=by
 intro i w r;induction r generalizing i with
 |nil=>intro e;simp at e
 |cons h t ih=>
  rename_i x y a b;intro e;cases i with
  |zero=>
   simp at e;subst e;cases y with
   |none=>exact h.elim
   |some v=>exact⟨v,rfl,h⟩
  |succ i=>simpa using ih (i:=i) (by simpa using e)
def Paired.getP{α β:Type}{F:α->β->Prop}{a:List α}{b:List β}(r:Paired F a b):∀{i:Nat}{x:α},a[i]? =some x->∃y,b[i]? =some y/\F x y:=by
 induction r with
 |nil=>intro i x e;simp at e
 |cons h t ih=>
  intro i x e;cases i with
  |zero=>simp at e;subst e;exact⟨_,rfl,h⟩
  |succ i=>simpa using ih (i:=i) (by simpa using e)
def Paired.getQ{α β:Type}{F:α->β->Prop}{a:List α}{b:List β}(r:Paired F a b):∀{i:Nat}{y:β},b[i]? =some y->∃x,a[i]? =some x/\F x y:=by
 induction r with
 |nil=>intro i x e;simp at e
 |cons h t ih=>
  intro i x e;cases i with
  |zero=>simp at e;subst e;exact⟨_,rfl,h⟩
  |succ i=>simpa using ih (i:=i) (by simpa using e)
def Paired.setP{α β:Type}{F:α->β->Prop}{a:List α}{b:List β}{x:α}{y:β}(r:Paired F a b)(h:F x y):∀{i:Nat},Paired F (a.set i x) (b.set i y):=by
 induction r with
 |nil=>intro i;exact .nil
 |cons g t ih=>
  intro i;cases i with
  |zero=>exact .cons h t
  |succ i=>exact .cons g ih
def Paired.appP{α β:Type}{F:α->β->Prop}{c a:List α}{d b:List β}(r:Paired F c d)(s:Paired F a b):Paired F (c++a) (d++b):=by
 induction r with
 |nil=>exact s
 |cons h t ih=>exact .cons h ih
def Paired.takeP{α β:Type}{F:α->β->Prop}{a:List α}{b:List β}(r:Paired F a b):∀n,Paired F (a.take n) (b.take n):=by
 induction r with
 |nil=>intro n;simp;exact .nil
 |cons h t ih=>
  intro n;cases n with
  |zero=>exact .nil
  |succ n=>exact .cons h (ih n)
def Paired.dropP{α β:Type}{F:α->β->Prop}{a:List α}{b:List β}(r:Paired F a b):∀n,Paired F (a.drop n) (b.drop n):=by
 induction r with
 |nil=>intro n;simp;exact .nil
 |cons h t ih=>
  intro n;cases n with
  |zero=>exact .cons h t
  |succ n=>exact ih n
def yk:∀{ds:List PyData}{vs:List V},Reps K Γ.Z ds vs->relWs K Γ (ds.map .d) vs
 |[],_,h=>by rw[show _=[]from h];exact .nil
 |d::ds,_,h=>by obtain⟨x,r,rfl,a,b⟩:=h;exact .cons a (yk b)
def zz:∀{ds:List PyData}{vs:List V},relWs K Γ (ds.map .d) vs->Reps K Γ.Z ds vs
 |[],_,h=>by cases h;rfl
 |d::ds,_,h=>by
  cases h with
  |cons a b=>exact⟨_,_,rfl,a,zz b⟩
abbrev seqL(O:OM):W->Option (List W)
 |.d (.list ds)=>some (ds.map .d)
 |.own a=>match O a with
  |some (.lst ws)=>some ws
  |some (.grid rows)=>some ((List.range rows.length).map (.row a))
  |_=>none
 |.row a i=>match O a with
  |some (.grid rows)=>(rows[i]?).map (·.map .d)
  |_=>none
 |_=>none
abbrev zU:W->Option (List PyData)
 |.d (.tuple ds)=>some ds
 |_=>none
def x9{w:W}(S:Sim K Γ O H)(r:relW K Γ w v)(e:zU w=some ds):∃a vs,v=.ref a/\SqT K H a vs/\relWs K Γ (ds.map .d) vs:=by
 cases w with
 |d x=>
  cases x with
  |tuple es=>simp[zU]at e;subst e;obtain⟨a,g,b,c,f⟩:=r;exact⟨a,g,b,c.same S.z,yk f⟩
  |_=>simp[zU]at e
 |own a=>simp[zU]at e
 |row a i=>simp[zU]at e
def z9{w:W}{ws:List W}(S:Sim K Γ O H)(r:relW K Γ w v)(e:seqL O w=some ws):∃a vs,v=.ref a/\SqL K H a vs/\relWs K Γ ws vs:=by
 cases w with
 |d x=>
  cases x with
  |list es=>simp[seqL]at e;subst e;obtain⟨a,C,t,b,f⟩:=r;exact⟨a,C,t,b.same S.z,yk f⟩
  |_=>simp[seqL]at e
 |own a=>
  cases(show v=.ref a from r);simp only[seqL]at e;split at e
  .rename_i us h;cases e;obtain⟨_,vs,b,f⟩:=S.o _ _ h;exact⟨a,vs,rfl,SqL.of b,f⟩
  .rename_i rows h;cases e;obtain⟨_,rs,l,b,p,_,_⟩:=S.o _ _ h;refine⟨a,_,rfl,SqL.of b,?_⟩;rw[<-p];have m:∀(c:List Addr) (k:Nat),(∀i,c[i]? =rs[k+i]?)->relWs K Γ ((List.range' k c.length).map (W.row a)) (c.map V.ref):=by
    intro c;induction c with
    |nil=>intro k _;exact .nil
    |cons s c ih=>
     intro k n;refine .cons ⟨rs,s,l,?_,rfl⟩ (ih (k+1) λi=>?_)
     .have:=n 0;simpa using this.symm
     .have:=n (i+1);rw[mQ]at this;rw[this];congr 1
      lia
   have u:=m rs 0 (λi=>by rw[Nat.zero_add]);rw[List.range_eq_range'];exact u
  .cases e
 |row a i=>
  obtain⟨rs,q,l,A,rfl⟩:=r;simp only[seqL]at e;split at e
  .rename_i rows h;cases hi:rows[i]? with
   |none=>rw[hi]at e;cases e
   |some ds=>rw[hi]at e;cases e;obtain⟨_,B,g,b,p,_,j⟩:=S.o _ _ h;rw[l]at g;cases g;obtain⟨_,_,vs,f,y⟩:=j i q ds A hi;exact⟨q,vs,rfl,SqL.of f,yk y⟩
  .cases e
abbrev zZ:List W->Option (List PyData)
 |[]=>some []
 |.d x::ws=>(zZ ws).map (x :: ·)
 |_::_=>none
def zV:∀ds:List PyData,zZ (ds.map .d)=some ds
 |[]=>rfl
 |d::ds=>by simp[zZ,zV ds]
def xa:∀{ws:List W}{ds:List PyData},zZ ws=some ds->ws=ds.map .d
 |[],ds,e=>by cases e;rfl
 |.d x::ws,ds,e=>by simp[zZ]at e;obtain⟨es,a,b⟩:=e;subst b;rw[xa a];rfl
 |.own _::_,_,e=>by simp[zZ]at e
 |.row _ _::_,_,e=>by simp[zZ]at e
abbrev Ql(O:OM):W->Option PyData
 |.d x=>some x
 |.own a=>match O a with
  |some (.lst ws)=>(zZ ws).map .list
  |some (.grid rows)=>some (.list (rows.map .list))
  |_=>none
 |.row a i=>match O a with
  |some (.grid rows)=>(rows[i]?).map .list
  |_=>none
def X7{w:W}{x:PyData}(S:Sim K Γ O H)(r:relW K Γ w v)(e:Ql O w=some x):Rep K H x v:=by
 cases w with
 |d y=>cases e;exact Rep.same S.z _ _ r
 |own a=>
  cases(show v=.ref a from r);simp only[Ql]at e;split at e
  .rename_i ws h;cases hd:zZ ws with
   |none=>rw[hd]at e;cases e
   |some ds=>rw[hd]at e;cases e;obtain⟨_,vs,g,j⟩:=S.o _ _ h;rw[xa hd]at j;exact⟨a,vs,rfl,SqL.of g,Reps.same S.z _ _ (zz j)⟩
  .rename_i rows h;cases e;obtain⟨_,rs,n,g,f,_,c⟩:=S.o _ _ h;refine⟨a,_,rfl,SqL.of g,?_⟩;have m:∀(rows:List (List PyData)) (rs:List Addr),rs.length=rows.length->(∀(i:Nat) (r:Addr) (ds:List PyData),rs[i]? =some r->rows[i]? =some ds->∃vs,H r=some (.lst vs)/\Reps K Γ.Z ds vs)->Reps K H (rows.map .list) (rs.map V.ref):=by
    intro rows;induction rows with
    |nil=>intro rs f _;cases rs with|nil=>rfl|cons _ _=>simp at f
    |cons row rows ih=>
     intro rs f l;cases rs with
     |nil=>simp at f
     |cons r rs=>obtain⟨vs,g,j⟩:=l 0 r row rfl rfl;exact⟨.ref r,_,rfl,⟨r,vs,rfl,SqL.of g,Reps.same S.z _ _ j⟩,ih rs (by simpa using f) λi r ds a b=>l (i+1) r ds (by simpa using a) (by simpa using b)⟩
   exact m rows rs f λi r ds a b=>(c i r ds a b).2.2
  .cases e
 |row a i=>
  obtain⟨rs,p,n,l,rfl⟩:=r;simp only[Ql]at e;split at e
  .rename_i rows h;cases hi:rows[i]? with
   |none=>rw[hi]at e;cases e
   |some ds=>rw[hi]at e;cases e;obtain⟨_,s,k,g,f,_,c⟩:=S.o _ _ h;rw[n]at k;cases k;obtain⟨_,_,vs,j,q⟩:=c i p ds l hi;exact⟨p,vs,rfl,SqL.of j,Reps.same S.z _ _ q⟩
  .cases e
def Sim.free(S:Sim K Γ O H)(b:H p=none):Γ.Z p=none/\O p=none/\Γ.G p=none:=by
 refine⟨S.z.free b,?_,?_⟩
 .cases e:O p with
  |none=>rfl
  |some oo=>
   obtain⟨_,h⟩:=S.o _ _ e;cases oo with
   |lst ws=>obtain⟨vs,a,_⟩:=h;rw[b]at a;cases a
   |dK ws=>obtain⟨vs,a,_⟩:=h;rw[b]at a;cases a
   |ins C dx ws=>obtain⟨vs,a,_⟩:=h;rw[b]at a;cases a
   |grid rows=>obtain⟨rs,_,a,_⟩:=h;rw[b]at a;cases a
   |raw p=>obtain⟨o,a,_⟩:=h;rw[b]at a;cases a
 .cases e:Γ.G p with
  |none=>rfl
  |some rs=>obtain⟨o,h⟩:=S.gd _ _ e;rw[b]at h;cases h
def ObjW.keep{oo:OO}(h:ObjW K Γ O H a oo)(e:Le Γ Γ'){f:OM}(d:H' a=H a)(m:Γ'.G a=Γ.G a)(s:∀rs r,Γ.G a=some rs->(∃rows,oo=.grid rows)->r∈rs->H' r=H r/\Γ'.Z r=Γ.Z r/\f r=O r):ObjW K Γ' f H' a oo:=by
 cases oo with
 |lst ws=>obtain⟨vs,b,c⟩:=h;exact⟨vs,by rw[d];exact b,c.mono e⟩
 |dK ws=>obtain⟨vs,b,c⟩:=h;exact⟨vs,by rw[d];exact b,c.mono e⟩
 |ins C dx ws=>obtain⟨vs,b,c⟩:=h;exact⟨vs,by rw[d];exact b,c.mono e⟩
 |raw p=>obtain⟨o,b,c⟩:=h;exact⟨o,by rw[d];exact b,λZ n=>c Z (e.z.trans n)⟩
 |grid rows=>obtain⟨rs,j,b,c,q,l⟩:=h;refine⟨rs,by rw[m];exact j,by rw[d];exact b,c,q,λi r ds g k=>?_⟩;obtain⟨t,u,v⟩:=s rs r j ⟨rows,rfl⟩ (lE g);obtain⟨w,x,vs,y,A⟩:=l i r ds g k;exact⟨by rw[u];exact w,by rw[v];exact x,vs,by rw[t];exact y,Reps.same e.z _ _ A⟩
def Sim.rowIn(S:Sim K Γ O H){rows:List (List PyData)}{rs:List Addr}{r:Addr}(f:O a=some (.grid rows))(d:Γ.G a=some rs)(g:r∈rs):Γ.Z r=none/\O r=none/\∃vs,H r=some (.lst vs):=by
 obtain⟨_,h,b,m,n,_,c⟩:=S.o _ _ f;rw[d]at b;cases b;obtain⟨i,e,rfl⟩:=pG.mp g;obtain⟨j,k,vs,l,_⟩:=c i rs[i] (rows[i]' ⋯) (lp e) (lp ⋯);exact⟨j,k,vs,l⟩
def Sim.newD(S:Sim K Γ O H)(g:H p=none)(o:HO):Le Γ ⟨upd Γ.Z p o,Γ.G,Γ.F⟩/\Sim K ⟨upd Γ.Z p o,Γ.G,Γ.F⟩ O (upd H p o):=by
 obtain⟨hz,n,y⟩:=S.free g;have le:Le Γ ⟨upd Γ.Z p o,Γ.G,Γ.F⟩:=Le.zOnly (zai hz);have k:=S.f.free g;refine⟨le,⟨λb u e=>?_,λa oo e=>?_,λa rs e=>?_,X4 S.f k,S.gn,S.fg,λa j e=>?_,S.u⟩⟩
 .replace e:upd Γ.Z p o b=some u:=e;by_cases hb:b=p
  .subst hb;rw[zu]at e;rw[zu];exact e
  .rw[zi hb]at e;rw[zi hb];exact S.z _ _ e
 .have c:a≠p:=λz=>by rw[z,n]at e;cases e
  obtain⟨l,m⟩:=S.o _ _ e;refine⟨by show upd Γ.Z p o a=none;rw[zi c];exact l,m.keep le (zi c) rfl λrs r s ⟨rows,i⟩ t=>?_⟩;subst i;obtain⟨_,_,vs,q⟩:=S.rowIn e s t;have d:r≠p:=λz=>by rw[z,g]at q;cases q
  exact⟨zi d,zi d,rfl⟩
 .obtain⟨j,h⟩:=S.gd _ _ e;exact⟨j,by rw[zi (zW h g)];exact h⟩
 .obtain⟨v,w,x⟩:=S.fd a j e;exact⟨(zi (zW e k)).trans v,w,x⟩
def Sim.newO(S:Sim K Γ O H)(g:H p=none){o:HO}{oo:OO}(v:∀rows,oo≠.grid rows)(C:ObjW K Γ O (upd H p o) p oo):Sim K Γ (updO O p oo) (upd H p o):=by
 obtain⟨hz,L,A⟩:=S.free g;have t:=S.f.free g;have n:∀{x:Addr}{i:List (List PyData)},updO O p oo x=some (.grid i)->O x=some (.grid i):=λ{x i} h=>by
  by_cases hx:x=p
  .subst hx;rw[zd]at h;cases h;exact absurd rfl (v i)
  .rw[ze hx]at h;exact h
 refine⟨λb u e=>?_,λa c e=>?_,λa rs e=>?_,X4 S.f t,λa c e B=>?_,S.fg,λa c e=>?_,λa b G I rs J r j y=>S.u a b G I rs J r (n j) (n y)⟩
 .rw[zi (λz=>by rw[z,hz]at e;cases e)];exact S.z _ _ e
 .by_cases hap:a=p
  .subst hap;rw[zd]at e;cases e;refine⟨hz,C.keep (Le.refl _) rfl rfl λrs r s ⟨rows,k⟩=>absurd k (v rows)⟩
  .rw[ze hap]at e;obtain⟨s,k⟩:=S.o _ _ e;refine⟨s,k.keep (Le.refl _) (zi hap) rfl λrs r l ⟨rows,m⟩ D=>?_⟩;subst m;obtain⟨_,w,vs,q⟩:=S.rowIn e l D;have d:r≠p:=λz=>by rw[z,g]at q;cases q
   exact⟨zi d,rfl,ze d⟩
 .obtain⟨c,h⟩:=S.gd _ _ e;exact⟨c,by rw[zi (zW h g)];exact h⟩
 .by_cases hap:a=p
  .rw[hap];exact A
  .rw[ze hap]at e;exact S.gn a c e B
 .obtain⟨E,w,F⟩:=S.fd a c e;exact⟨E,by rw[ze (zW e t)];exact w,λb rows rs j=>F b rows rs (n j)⟩
def Sim.put(S:Sim K Γ O H){oo v:OO}{o:HO}(g:O a=some v)(B:∀rows,v≠.grid rows)(w:∀rows,oo≠.grid rows)(C:ObjW K Γ O (upd H a o) a oo):Sim K Γ (updO O a oo) (upd H a o):=by
 obtain⟨hz,l⟩:=S.o _ _ g;have t:∀{x:Addr}{j:List (List PyData)},updO O a oo x=some (.grid j)->O x=some (.grid j):=λ{x j} h=>by
  by_cases hx:x=a
  .subst hx;rw[zd]at h;cases h;exact absurd rfl (w j)
  .rw[ze hx]at h;exact h
 have y:∀b c,Γ.F b=some c->b≠a:=λb c e z=>by have:=(S.fd b c e).2.1;rw[z,g]at this;cases this
 refine⟨λb u e=>?_,λx c e=>?_,λx rs e=>?_,λb u e=>?_,λx c e p=>?_,S.fg,λx c e=>?_,λx b I J rs L r k A=>S.u x b I J rs L r (t k) (t A)⟩
 .rw[zi (λz=>by rw[z,hz]at e;cases e)];exact S.z _ _ e
 .by_cases hap:x=a
  .subst hap;rw[zd]at e;cases e;exact⟨hz,C.keep (Le.refl _) rfl rfl λrs r l ⟨rows,m⟩=>absurd m (w rows)⟩
  .rw[ze hap]at e;obtain⟨l,m⟩:=S.o _ _ e;refine⟨l,m.keep (Le.refl _) (zi hap) rfl λrs r n ⟨rows,s⟩ D=>?_⟩;subst s;obtain⟨_,i,vs,q⟩:=S.rowIn e n D;have d:r≠a:=λz=>by rw[z,g]at i;cases i
   exact⟨zi d,rfl,ze d⟩
 .obtain⟨c,h⟩:=S.gd _ _ e;by_cases hx:x=a
  .exact⟨o,by rw[hx,zu]⟩
  .exact⟨c,by rw[zi hx];exact h⟩
 .rw[zi (y _ _ e)];exact S.f _ _ e
 .by_cases hap:x=a
  .rw[hap];exact S.gn a v g B
  .rw[ze hap]at e;exact S.gn x c e p
 .obtain⟨E,i,G⟩:=S.fd x c e;exact⟨E,by rw[ze (y _ _ e)];exact i,λb rows rs k=>G b rows rs (t k)⟩
def Sim.drop(S:Sim K Γ O H)(a:Addr):Sim K Γ (del O a) H:=by
 have c:∀{x:Addr}{o:OO},del O a x=some o->x≠a/\O x=some o:=λ{x o} h=>by
  by_cases hx:x=a
  .subst hx;rw[xU]at h;cases h
  .rw[ua hx]at h;exact⟨hx,h⟩
 refine⟨S.z,λx o e=>?_,S.gd,S.f,λx o e n=>S.gn x o (c e).2 n,S.fg,λx o e=>⟨(S.fd x o e).1,by unfold del;split;rfl;exact(S.fd x o e).2.1,λb rows rs d=>(S.fd x o e).2.2 b rows rs (c d).2⟩,λx b q s rs t r d j=>S.u x b q s rs t r (c d).2 (c j).2⟩;obtain⟨hx,e⟩:=c e;obtain⟨k,l⟩:=S.o _ _ e;refine⟨k,l.keep (Le.refl _) rfl rfl λrs r m ⟨rows,g⟩ p=>?_⟩;subst g;obtain⟨_,i,_⟩:=S.rowIn e m p;refine⟨rfl,rfl,?_⟩;rw[i];unfold del;split
 .rfl
 .exact i
def Sim.freeze(S:Sim K Γ O H)(h:O a=some (.lst (ds.map .d))):∃Γ',Le Γ Γ'/\Sim K Γ' (del O a) H/\relW K Γ' (.d (.list ds)) (.ref a):=by
 obtain⟨hz,vs,k,l⟩:=S.o _ _ h;have le:Le Γ ⟨upd Γ.Z a (.lst vs),Γ.G,Γ.F⟩:=Le.zOnly (zai hz);have c:=S.drop a;have p:∀b j,Γ.F b=some j->b≠a:=λb j e z=>by have:=(S.fd b j e).2.1;rw[z,h]at this;cases this
 refine⟨⟨upd Γ.Z a (.lst vs),Γ.G,Γ.F⟩,le,⟨λb u e=>?_,λx o e=>?_,S.gd,S.f,c.gn,S.fg,λx o e=>⟨(zi (p x o e)).trans (c.fd x o e).1,(c.fd x o e).2⟩,c.u⟩,⟨a,vs,rfl,SqL.of zu,Reps.same le.z _ _ (zz l)⟩⟩
 .replace e:upd Γ.Z a (.lst vs) b=some u:=e;by_cases hb:b=a
  .subst hb;rw[zu]at e;cases e;exact k
  .rw[zi hb]at e;exact S.z _ _ e
 .have hx:x≠a:=λz=>by rw[z,xU]at e;cases e
  obtain⟨q,g⟩:=c.o _ _ e;refine⟨by show upd Γ.Z a _ x=none;rw[zi hx];exact q,g.keep le rfl rfl λrs r m ⟨rows,i⟩ n=>⟨rfl,?_,rfl⟩⟩;subst i;rw[ua hx]at e;obtain⟨_,g,_⟩:=S.rowIn e m n;exact zi (λz=>by rw[z,h]at g;cases g)
def Sim.cell(S:Sim K Γ O H){r:Addr}{rows:List (List PyData)}{rs:List Addr}{j:Nat}{x:PyData}(m:O a=some (.grid rows))(w:Γ.G a=some rs)(E:rs[i]? =some r)(X:rows[i]? =some ds)
  (hv:H r=some (.lst vs))(rx:Rep K Γ.Z x v):Sim K Γ (updO O a (.grid (rows.set i (ds.set j x)))) (upd H r (.lst (vs.set j v))):=by
 obtain⟨hz,zs,y,h1,hl,Y,p⟩:=S.o _ _ m;rw[w]at y;cases y;obtain⟨z1,L,ys,z3,z4⟩:=p i r ds E X;rw[hv]at z3;cases z3;have N:a≠r:=λe=>by rw[<-e,m]at L;cases L
 have nF:∀b l,Γ.F b=some l->b≠r:=λb l e z=>(S.fd b l e).2.2 a rows rs m w (by rw[z];exact lE E);have V:∀b l,Γ.F b=some l->b≠a:=λb l e z=>by have:=(S.fd b l e).2.1;rw[z,m]at this;cases this
 have U:∀{b:Addr}{J:List (List PyData)},updO O a (.grid (rows.set i (ds.set j x))) b=some (.grid J)->∃W,O b=some (.grid W):=λ{b J} g=>by
  by_cases hx:b=a
  .exact⟨rows,by rw[hx];exact m⟩
  .rw[ze hx]at g;exact⟨J,g⟩
 refine⟨λb u e=>?_,λb oo e=>?_,λb t e=>?_,λb u e=>by rw[zi (nF _ _ e)];exact S.f _ _ e,λb l e B=>?_,S.fg,λb l e=>⟨(S.fd b l e).1,by rw[ze (V _ _ e)];exact(S.fd b l e).2.1,λc rc t g M=>by obtain⟨W,n⟩:=U g;exact(S.fd b l e).2.2 c W t n M⟩,λb c J rc t tt q g n h3 h4 h5 h6=>?_⟩
 .rw[zi (λz=>by rw[z,z1]at e;cases e)];exact S.z _ _ e
 .by_cases hb:b=a
  .subst hb;rw[zd]at e;cases e;refine⟨hz,rs,w,by rw[zi N];exact h1,by rw[oy];exact hl,Y,λk q es g n=>?_⟩;have C:O q=none:=(S.rowIn m w (lE g)).2.1;have D:q≠b:=λe=>by rw[e,m]at C;cases C
   by_cases hk:k=i
   .subst hk;rw[E]at g;cases g;rw[oN (lv.mp X).1]at n;cases n;refine⟨z1,by rw[ze D];exact L,_,zu,?_⟩;have hw:=yk (Γ:=Γ) z4;have I:=Paired.setP hw (show relW K Γ (.d x) v from rx) (i:=j);rw[<-List.map_set]at I;exact zz I
   .have Q:q≠r:=λe=>by
     rw[e]at g;obtain⟨l1,M⟩:=lv.mp g;obtain⟨l2,g2⟩:=lv.mp E;exact hk ((List.getElem_inj Y).mp (M.trans g2.symm))
    rw[pi (Ne.symm hk)]at n;obtain⟨y1,y2,ws,y3,y4⟩:=p k q es g n;exact⟨y1,by rw[ze D];exact y2,ws,by rw[zi Q];exact y3,y4⟩
  .rw[ze hb]at e;obtain⟨q1,q2⟩:=S.o _ _ e;have P:b≠r:=λz=>by rw[z,L]at e;cases e
   refine⟨q1,q2.keep (Le.refl _) (zi P) rfl λt q A ⟨s,T⟩ C=>?_⟩;subst T;obtain⟨w1,w2,ws,w3⟩:=S.rowIn e A C;have R:q≠r:=λz=>hb (S.u b a s rows t rs q e m A w C (by rw[z];exact lE E));exact⟨zi R,rfl,ze (λz=>by rw[z,m]at w2;cases w2)⟩
 .obtain⟨o,h⟩:=S.gd _ _ e;by_cases hb:b=r
  .exact⟨_,by rw[hb,zu]⟩
  .exact⟨o,by rw[zi hb];exact h⟩
 .by_cases hb:b=a
  .subst hb;rw[zd]at e;cases e;exact absurd rfl (B _)
  .rw[ze hb]at e;exact S.gn b l e B
 .obtain⟨r1,f1⟩:=U g;obtain⟨r2,f2⟩:=U n;exact S.u b c r1 r2 t tt q f1 f2 h3 h4 h5 h6
def Sim.absorb(S:Sim K Γ O H){rows:List (List PyData)}{rs:List Addr}(k:O a=some (.grid rows))(A:Γ.G a=some rs)(w:O b=some (.lst (ds.map .d))) :
  H a=some (.lst (rs.map V.ref))/\rs.length=rows.length/\∃Γ',Le Γ Γ'/\Sim K Γ' (updO (del O b) a (.grid (rows++[ds]))) (upd H a (.lst (rs.map V.ref++[.ref b]))):=by
 obtain⟨hz,xq,E,h1,hl,hn,L⟩:=S.o _ _ k;rw[A]at E;cases E;obtain⟨xo,vb,W,X⟩:=S.o _ _ w;have D:a≠b:=λe=>by rw[e,w]at k;cases k
 have Y:b∉rs:=λm=>by obtain⟨_,q,_⟩:=S.rowIn k A m;rw[w]at q;cases q
 have le:Le Γ ⟨Γ.Z,fun x=>if x=a then some (rs ++ [b]) else Γ.G x,Γ.F⟩:=⟨rfl,Same.refl _,fun x ss h=>by
  by_cases hx:x=a
  .subst hx;rw[A]at h;cases h;exact⟨[b],m!""⟩
  .exact⟨[],by simp[hx,h]⟩⟩
 have t:∀c g,Γ.F c=some g->c≠a:=λc g e z=>by have:=(S.fd c g e).2.1;rw[z,k]at this;cases this
 have N:∀c g,Γ.F c=some g->c≠b:=λc g e z=>by have:=(S.fd c g e).2.1;rw[z,w]at this;cases this
 have k1:∀{x:Addr}{rx:List (List PyData)},updO (del O b) a (.grid (rows++[ds])) x=some (.grid rx)->∃ry,O x=some (.grid ry):=λ{x rx} h=>by
  by_cases hx:x=a
  .exact⟨rows,by rw[hx];exact k⟩
  .rw[ze hx]at h;by_cases j:x=b
   .rw[j,xU]at h;cases h
   .rw[ua j]at h;exact⟨rx,h⟩
 refine⟨h1,hl,_,le,⟨λx u e=>?_,λx oo e=>?_,λx ss e=>?_,λc u e=>by rw[zi (t _ _ e)];exact S.f _ _ e,λx g e I=>?_,λc g e=>by have xb:=t c g e;simpa[xb]using S.fg c g e,λc g e=>⟨(S.fd c g e).1,by rw[ze (t _ _ e),ua (N _ _ e)];exact(S.fd c g e).2.1,λd rd ss l p=>?_⟩,λx y ra rb ss tt r l n p B P Q=>?_⟩⟩
 .rw[zi (λz=>by rw[z,show({ Z:=Γ.Z,G:=λx=>if x=a then some (rs++[b])else Γ.G x,F:=Γ.F }:Gh).Z a=none from hz]at e;cases e)];exact S.z _ _ e
 .by_cases hx:x=a
  .subst hx;rw[zd]at e;cases e;refine⟨hz,rs++[b],m!"",by rw[zu,lS];rfl,by simp[hl],?_,λi r es l n=>?_⟩
   .rw[nu];exact⟨hn,m!"",λu hu v hv=>by simp at hv;subst hv;exact λz=>Y (by rw[<-z];exact hu)⟩
   .by_cases hi:i<rs.length
    .rw[mz hi]at l;rw[mz ⋯]at n;obtain⟨y1,y2,ws,y3,y4⟩:=L i r es l n;have M:r≠x:=λz=>by rw[z,k]at y2;cases y2
     refine⟨y1,?_,ws,by rw[zi M];exact y3,y4⟩;rw[ze M];unfold del;split
     .rfl
     .exact y2
    .have ys:i=rs.length:=by
      have:=(lv.mp l).1;simp at this;lia
     subst ys;rw[mJ (ll _)]at l;simp at l;subst l;rw[hl,mJ (ll _)]at n;simp at n;subst n;exact⟨xo,by rw[ze (Ne.symm D),xU],vb,by rw[zi (Ne.symm D)];exact W,zz (Γ:=Γ) X⟩
  .rw[ze hx]at e;have j:x≠b:=λz=>by rw[z,xU]at e;cases e
   rw[ua j]at e;obtain⟨q1,q2⟩:=S.o _ _ e;refine⟨q1,q2.keep le (zi hx) (by simp[hx]) λss r zs ⟨xp,xe⟩ hq=>?_⟩;subst xe;obtain⟨w1,R,ws,w3⟩:=S.rowIn e zs hq;have J:r≠a:=λz=>by rw[z,k]at R;cases R
   have xd:r≠b:=λz=>by rw[z,w]at R;cases R
   exact⟨zi J,rfl,by rw[ze J,ua xd]⟩
 .by_cases hx:x=a
  .exact⟨_,by rw[hx,zu]⟩
  .obtain⟨o,h⟩:=S.gd x ss (by simpa[hx]using e);exact⟨o,by rw[zi hx];exact h⟩
 .by_cases hx:x=a
  .subst hx;rw[zd]at e;cases e;exact absurd rfl (I _)
  .rw[ze hx]at e;by_cases j:x=b
   .rw[j,xU]at e;cases e
   .rw[ua j]at e;simpa[hx]using S.gn x g e I
 .by_cases hd:d=a
  .subst hd;simp at p;subst p;intro m;rcases ls.mp m with m|m
   .exact(S.fd c g e).2.2 d rows rs k A m
   .simp at m;exact N _ _ e m
  .obtain⟨ry,n⟩:=k1 l;exact(S.fd c g e).2.2 d ry ss n (by simpa[hd]using p)
 .obtain⟨r1,T⟩:=k1 l;obtain⟨r2,U⟩:=k1 n;have nb:∀{z:Addr}{rz:List (List PyData)}{sz:List Addr},O z=some (.grid rz)->Γ.G z=some sz->b∉sz:=λxk xl m=>by
   obtain⟨_,q,_⟩:=S.rowIn xk xl m;rw[w]at q;cases q
  by_cases hx:x=a
  .by_cases hy:y=a
   .rw[hx,hy]
   .have C:Γ.G y=some tt:=by simpa[hy]using B
    rw[hx]at p ⊢;simp at p;subst p;rcases ls.mp P with m|m
    .exact S.u a y rows r2 rs tt r k U A C m Q
    .simp at m;subst m;exact absurd Q (nb U C)
  .have s:Γ.G x=some ss:=by simpa[hx]using p
   by_cases hy:y=a
   .rw[hy]at B ⊢;simp at B;subst B;rcases ls.mp Q with m|m
    .exact S.u x a r1 rows ss rs r T k s A P m
    .simp at m;subst m;exact absurd P (nb T s)
   .exact S.u x y r1 r2 ss tt r T U s (by simpa[hy]using B) P Q
def relW.setF{F:Hp}:∀{w:W}{v:V},relW K Γ w v->relW K ⟨Γ.Z,Γ.G,F⟩ w v
 |.d _,_,h=>h
 |.own _,_,h=>h
 |.row _ _,_,h=>h
def relR.setF{F:Hp}{ρ:List (Option W)}(r:relR K Γ ρ σ):relR K ⟨Γ.Z,Γ.G,F⟩ ρ σ:=Paired.mapP r λa b h=>by
 cases a with
 |none=>trivial
 |some w=>cases b with
  |none=>exact h
  |some v=>exact relW.setF h
def ObjW.setF{F:Hp}{oo:OO}(h:ObjW K Γ O H a oo):ObjW K ⟨Γ.Z,Γ.G,F⟩ O H a oo:=by
 cases oo with
 |lst ws=>obtain⟨vs,b,c⟩:=h;exact⟨vs,b,Paired.mapP c λ_ _ z=>z.setF⟩
 |dK ws=>obtain⟨vs,b,c⟩:=h;exact⟨vs,b,Paired.mapP c λ_ _ z=>⟨z.1,z.2.setF⟩⟩
 |ins C dx ws=>obtain⟨vs,b,c⟩:=h;exact⟨vs,b,Paired.mapP c λ_ _ z=>⟨z.1,z.2.setF⟩⟩
 |grid rows=>exact h
 |raw p=>exact h
def Sim.frameNew(S:Sim K Γ O H)(g:H p=none)(o:HO):Sim K ⟨Γ.Z,Γ.G,upd Γ.F p o⟩ O (upd H p o):=by
 obtain⟨hz,k,v⟩:=S.free g;have d:∀a c,upd Γ.F p o a=some c->a=p\/(a≠p/\Γ.F a=some c):=λa c e=>by
  by_cases ha:a=p
  .exact .inl ha
  .rw[zi ha]at e;exact .inr ⟨ha,e⟩
 refine⟨λb u e=>?_,λa oo e=>?_,λa rs e=>?_,λb u e=>?_,S.gn,λa c e=>?_,λa c e=>?_,S.u⟩
 .rw[zi (λz=>by rw[z,show({ Z:=Γ.Z,G:=Γ.G,F:=upd Γ.F p o }:Gh).Z p=none from hz]at e;cases e)];exact S.z _ _ e
 .have i:a≠p:=λz=>by rw[z,k]at e;cases e
  obtain⟨s,t⟩:=S.o _ _ e;refine⟨s,(t.keep (Le.refl _) (zi i) rfl λrs r w ⟨rows,j⟩ x=>?_).setF⟩;subst j;obtain⟨_,_,vs,q⟩:=S.rowIn e w x;exact⟨zi (λz=>by rw[z,g]at q;cases q),rfl,rfl⟩
 .obtain⟨c,h⟩:=S.gd _ _ e;exact⟨c,by rw[zi (zW h g)];exact h⟩
 .replace e:upd Γ.F p o b=some u:=e;rcases d b u e with rfl|⟨hb,e'⟩
  .rw[zu]at e ⊢;exact e
  .rw[zi hb];exact S.f _ _ e'
 .rcases d a c e with rfl|⟨hb,e'⟩
  .exact v
  .exact S.fg _ _ e'
 .rcases d a c e with rfl|⟨hb,e'⟩
  .refine⟨hz,k,λb rows rs l n m=>?_⟩;obtain⟨_,_,vs,q⟩:=S.rowIn l n m;rw[g]at q;cases q
  .exact S.fd _ _ e'
def Sim.framePut(S:Sim K Γ O H){s:HO}(h:Γ.F a=some s)(o:HO):Sim K ⟨Γ.Z,Γ.G,upd Γ.F a o⟩ O (upd H a o):=by
 obtain⟨hz,j,k⟩:=S.fd _ _ h;have n:=S.fg _ _ h;have d:∀b c,upd Γ.F a o b=some c->b=a\/(b≠a/\Γ.F b=some c):=λb c e=>by
  by_cases ha:b=a
  .exact .inl ha
  .rw[zi ha]at e;exact .inr ⟨ha,e⟩
 refine⟨λb u e=>?_,λb oo e=>?_,λb rs e=>?_,λb u e=>?_,S.gn,λb c e=>?_,λb c e=>?_,S.u⟩
 .rw[zi (λz=>by rw[z,show({ Z:=Γ.Z,G:=Γ.G,F:=upd Γ.F a o }:Gh).Z a=none from hz]at e;cases e)];exact S.z _ _ e
 .have g:b≠a:=λz=>by rw[z,j]at e;cases e
  obtain⟨l,m⟩:=S.o _ _ e;refine⟨l,(m.keep (Le.refl _) (zi g) rfl λrs r p ⟨rows,i⟩ q=>?_).setF⟩;subst i;exact⟨zi (λz=>k b rows rs e p (by rw[<-z];exact q)),rfl,rfl⟩
 .obtain⟨c,h⟩:=S.gd _ _ e;by_cases hb:b=a
  .exact⟨o,by rw[hb,zu]⟩
  .exact⟨c,by rw[zi hb];exact h⟩
 .replace e:upd Γ.F a o b=some u:=e;rcases d b u e with rfl|⟨hb,e'⟩
  .rw[zu]at e ⊢;exact e
  .rw[zi hb];exact S.f _ _ e'
 .rcases d b c e with rfl|⟨hb,e'⟩
  .exact n
  .exact S.fg _ _ e'
 .rcases d b c e with rfl|⟨hb,e'⟩
  .exact⟨hz,j,k⟩
  .exact S.fd _ _ e'
def Sim.frameOwn(S:Sim K Γ O H){ws:List W}(h:O a=some (.lst ws)):∃vs,H a=some (.lst vs)/\relWs K Γ ws vs/\Sim K ⟨Γ.Z,Γ.G,upd Γ.F a (.lst vs)⟩ (del O a) H:=by
 obtain⟨hz,vs,l,n⟩:=S.o _ _ h;have p:=S.gn _ _ h (by intro _ z;cases z);have i:=S.drop a;have d:∀b g,upd Γ.F a (.lst vs) b=some g->b=a\/(b≠a/\Γ.F b=some g):=λb g e=>by
  by_cases ha:b=a
  .exact .inl ha
  .rw[zi ha]at e;exact .inr ⟨ha,e⟩
 refine⟨vs,l,n,⟨S.z,λb oo e=>⟨(i.o b oo e).1,(i.o b oo e).2.setF⟩,S.gd,λb u e=>?_,i.gn,λb g e=>?_,λb g e=>?_,i.u⟩⟩
 .replace e:upd Γ.F a (.lst vs) b=some u:=e;rcases d b u e with rfl|⟨hb,e'⟩
  .rw[zu]at e;cases e;exact l
  .exact S.f _ _ e'
 .rcases d b g e with rfl|⟨hb,e'⟩
  .exact p
  .exact S.fg _ _ e'
 .rcases d b g e with rfl|⟨hb,e'⟩
  .refine⟨hz,xU,λc rows rs j k m=>?_⟩;obtain⟨_,q,_⟩:=i.rowIn j k m;have r:c≠b:=λz=>by rw[z,xU]at j;cases j
   rw[ua r]at j;have:=(S.rowIn j k m).2.1;rw[h]at this;cases this
  .exact i.fd _ _ e'
def Sim.gridify(S:Sim K Γ O H){rs:List Addr}{rows:List (List PyData)}{F:Hp}(Y:F a=none)(k:Γ.F a=some (.lst (rs.map V.ref)))(hn:rs.Nodup)(D:a∉rs)(hl:rs.length=rows.length)
  (p:∀(i:Nat) (r:Addr) (ds:List PyData),rs[i]? =some r->rows[i]? =some ds->F r=none/\∃vs,Γ.F r=some (.lst vs)/\Reps K Γ.Z ds vs)(hF:∀x,x≠a->x∉rs->Γ.F x=F x) :
  O a=none/\∃N,(∀b j,Γ.G b=some j->N b=some j)/\Sim K ⟨Γ.Z,N,F⟩ (updO O a (.grid rows)) H:=by
 obtain⟨hz,hO,_⟩:=S.fd _ _ k;have P:=S.fg _ _ k;have l:∀r∈rs,F r=none/\∃vs,Γ.F r=some (.lst vs):=λr hr=>by obtain⟨i,hi,rfl⟩:=pG.mp hr;obtain⟨t,vs,y,_⟩:=p i rs[i] (rows[i]' ⋯) (lp hi) (lp ⋯);exact⟨t,vs,y⟩
 have C:∀b o,F b=some o->b≠a/\b∉rs/\Γ.F b=some o:=λb o e=>by
  have d:b≠a:=λz=>by rw[z,Y]at e;cases e
  have v:b∉rs:=λm=>by rw[(l b m).1]at e;cases e
  exact⟨d,v,by rw[hF b d v];exact e⟩
 have le:Le Γ ⟨Γ.Z,fun b=>if b=a then some rs else Γ.G b,Γ.F⟩:=⟨rfl,Same.refl _,fun b j h=>⟨[],by
  have:b≠a:=λe=>by rw[e,P]at h;cases h
  simp[this,h]⟩⟩
 refine⟨hO,fun b=>if b=a then some rs else Γ.G b,fun b j h=>by
  have:b≠a:=λe=>by rw[e,P]at h;cases h
  simp[this,h],⟨S.z,λb oo e=>?_,λb j e=>?_,λb u e=>S.f _ _ (C b u e).2.2,λb oo e w=>?_,λb o e=>?_,λb o e=>?_,λb c U W j X r s A n B I J=>?_⟩⟩
 .by_cases d:b=a
  .subst d;rw[zd]at e;cases e;refine⟨hz,rs,m!"",S.f _ _ k,hl,hn,λi r ds t y=>?_⟩;obtain⟨_,vs,T,q4⟩:=p i r ds t y;obtain⟨L,M,_⟩:=S.fd _ _ T;refine⟨L,?_,vs,S.f _ _ T,q4⟩;rw[ze (λz=>D (by rw[<-z];exact lE t))];exact M
  .rw[ze d]at e;obtain⟨t,y⟩:=S.o _ _ e;refine⟨t,(y.keep le rfl (by simp[d]) λj r Q ⟨g,E⟩ R=>⟨rfl,rfl,?_⟩).setF⟩;subst E;obtain⟨_,q,_⟩:=S.rowIn e Q R;exact ze (λz=>(S.fd _ _ k).2.2 b g j e Q (by rw[<-z];exact R))
 .by_cases d:b=a
  .rw[d];exact⟨_,S.f _ _ k⟩
  .exact S.gd b j (by simpa[d]using e)
 .by_cases d:b=a
  .subst d;rw[zd]at e;cases e;exact absurd rfl (w _)
  .rw[ze d]at e;simpa[d]using S.gn b oo e w
 .have:=(C b o e).1;simpa[this]using S.fg b o (C b o e).2.2
 .obtain⟨k1,k2,k3⟩:=C b o e;obtain⟨L,M,y3⟩:=S.fd _ _ k3;refine⟨L,by rw[ze k1];exact M,λc g j s n=>?_⟩;by_cases hc:c=a
  .subst hc;simp at n;subst n;exact k2
  .rw[ze hc]at s;exact y3 c g j s (by simpa[hc]using n)
 .by_cases d:b=a
  .by_cases hc:c=a
   .rw[d,hc]
   .subst d;simp at n;subst n;rw[ze hc]at A;obtain⟨_,vs,q⟩:=l r I;exact absurd J ((S.fd _ _ q).2.2 c W X A (by simpa[hc]using B))
  .rw[ze d]at s;by_cases hc:c=a
   .subst hc;simp at B;subst B;obtain⟨_,vs,q⟩:=l r J;exact absurd I ((S.fd _ _ q).2.2 b U j s (by simpa[d]using n))
   .rw[ze hc]at A;exact S.u b c U W j X r s A (by simpa[d]using n) (by simpa[hc]using B) I J
end
/---/abbrev WS:=List (Option W)
/---/abbrev WK:=W->OM->Prop
/---/abbrev TEW:=WS->OM->WK->Prop
/---/abbrev TTW:=WS->OM->(Bool->OM->Prop)->Prop
/---/abbrev TAW:=WS->OM->(List W->OM->Prop)->Prop
structure EndsW where
 nx:WS->OM->Prop
 rt:WK
 bk:WS->OM->Prop:=λ_ _=>False
 ct:WS->OM->Prop:=λ_ _=>False
/---/abbrev TSW:=EndsW->WS->OM->Prop
/---/abbrev TGW:=W->WS->OM->(WS->OM->Prop)->Prop
/---/abbrev TGsW:=List PyData->WS->OM->(WS->OM->Prop)->Prop
/---/abbrev R2W:=W->W->OM->WK->Prop
section
variable (K:W.Frag)
abbrev RefE(t:TE)(T:TEW):Prop:=∀Γ O H ρ σ,Sim K Γ O H->relR K Γ ρ σ->∀(Q:VK) (R:WK),T ρ O R->(∀Γ' b a w v,Le Γ Γ'->Sim K Γ' b a->relW K Γ' w v->R w b->Q v a)->t σ H Q
abbrev xt(t:TT)(T:TTW):Prop:=∀Γ O H ρ σ,Sim K Γ O H->relR K Γ ρ σ->∀(Q:Bool->Hp->Prop) (R:Bool->OM->Prop),T ρ O R->(∀Γ' c a b,Le Γ Γ'->Sim K Γ' c a->R b c->Q b a)->t σ H Q
abbrev yQ(t:TA)(T:TAW):Prop:=∀Γ O H ρ σ,Sim K Γ O H->relR K Γ ρ σ->∀(Q:List V->Hp->Prop) (R:List W->OM->Prop),T ρ O R->(∀Γ' b a ws vs,Le Γ Γ'->Sim K Γ' b a->relWs K Γ' ws vs->R ws b->Q vs a)->t σ H Q
structure EndsR (Γ:Gh) (D:Ends) (DW:EndsW):Prop where
 nx:∀Γ' O' H' ρ' σ',Le Γ Γ'->Sim K Γ' O' H'->relR K Γ' ρ' σ'->DW.nx ρ' O'->D.nx σ' H'
 rt:∀Γ' O' H' w v,Le Γ Γ'->Sim K Γ' O' H'->relW K Γ' w v->DW.rt w O'->D.rt v H'
 bk:∀Γ' O' H' ρ' σ',Le Γ Γ'->Sim K Γ' O' H'->relR K Γ' ρ' σ'->DW.bk ρ' O'->D.bk σ' H'
 ct:∀Γ' O' H' ρ' σ',Le Γ Γ'->Sim K Γ' O' H'->relR K Γ' ρ' σ'->DW.ct ρ' O'->D.ct σ' H'
abbrev RefS(t:TS)(T:TSW):Prop:=∀Γ O H ρ σ D a,Sim K Γ O H->relR K Γ ρ σ->T a ρ O->EndsR K Γ D a->t D σ H
abbrev RefG(t:TG)(T:TGW):Prop:=∀Γ O H ρ σ w v,Sim K Γ O H->relR K Γ ρ σ->relW K Γ w v->∀(Q:St->Hp->Prop) (R:WS->OM->Prop),T w ρ O R->(∀Γ' d c a b,Le Γ Γ'->Sim K Γ' d c->relR K Γ' a b->R a d->Q b c)->t v σ H Q
abbrev RefGs(t:TGs)(T:TGsW):Prop:=∀Γ O H ρ σ ds vs,Sim K Γ O H->relR K Γ ρ σ->Reps K Γ.Z ds vs->∀(Q:St->Hp->Prop) (R:WS->OM->Prop),T ds ρ O R->(∀Γ' d c a b,Le Γ Γ'->Sim K Γ' d c->relR K Γ' a b->R a d->Q b c)->t vs σ H Q
abbrev RefR(r:R2)(rw:R2W):Prop:=∀Γ O H x y v u,Sim K Γ O H->relW K Γ x v->relW K Γ y u->∀(Q:VK) (R:WK),rw x y O R->(∀Γ' b a w v,Le Γ Γ'->Sim K Γ' b a->relW K Γ' w v->R w b->Q v a)->r v u H Q
abbrev RefU(r:V->Hp->VK->Prop)(rw:W->OM->WK->Prop):Prop:=∀Γ O H x v,Sim K Γ O H->relW K Γ x v->∀(Q:VK) (R:WK),rw x O R->(∀Γ' b a w v,Le Γ Γ'->Sim K Γ' b a->relW K Γ' w v->R w b->Q v a)->r v H Q
abbrev RefC(r:List V->Hp->VK->Prop)(rw:List W->OM->WK->Prop):Prop:=∀Γ O H c vs,Sim K Γ O H->relWs K Γ c vs->∀(Q:VK) (R:WK),rw c O R->(∀Γ' b a w v,Le Γ Γ'->Sim K Γ' b a->relW K Γ' w v->R w b->Q v a)->r vs H Q
abbrev RefM(d:String)(r:V->List V->Hp->VK->Prop)(rw:W->List W->OM->WK->Prop):Prop:=∀Γ O H x v c vs,Sim K Γ O H->relW K Γ x v->relWs K Γ c vs->∀(Q:VK) (R:WK),rw x c O R->(∀Γ' b a w v,Le Γ Γ'->Sim K Γ' b a->relW K Γ' w v->R w b->Q v a)->r v vs H Q
end
def EndsR.mono{Γ Γ':Gh}{D:Ends}{DW:EndsW}(h:EndsR K Γ D DW)(l:Le Γ Γ'):EndsR K Γ' D DW:=
 ⟨λ_ _ _ _ _ a=>h.nx _ _ _ _ _ (l.trans a),λ_ _ _ _ _ a=>h.rt _ _ _ _ _ (l.trans a),λ_ _ _ _ _ a=>h.bk _ _ _ _ _ (l.trans a),λ_ _ _ _ _ a=>h.ct _ _ _ _ _ (l.trans a)⟩
abbrev ofV:V->W
 |.int i=>.d (.int i)
 |.bl b=>.d (.bool b)
 |.str x=>.d (.str x)
 |_=>.d .none
abbrev scV:V->Bool
 |.int _=>true
 |.bl _=>true
 |.str _=>true
 |.non=>true
 |_=>false
def Xi{Γ:Gh}(h:scV v=true):relW K Γ (ofV v) v:=by
 cases v<;>first|rfl|simp[scV]at h
abbrev vOf:PyData->V
 |.int i=>.int i
 |.bool b=>.bl b
 |.str x=>.str x
 |.none=>.non
 |_=>.ty ""
abbrev scD:PyData->Bool
 |.int _=>true
 |.bool _=>true
 |.str _=>true
 |.none=>true
 |_=>false
def kY{Z:Hp}{x:PyData}(h:Rep K Z x v)(s:scD x=true):v=vOf x:=by
 cases x<;>first|exact h|simp[scD]at s
def yT{Γ:Gh}{b:Bool}:relW K Γ (.d (.bool b)) (.bl b):=rfl
def vR{Γ:Gh}{b:Str}:relW K Γ (.d (.str b)) (.str b):=rfl
def uL{Γ:Gh}{b:Int}:relW K Γ (.d (.int b)) (.int b):=rfl
def yf{Γ:Gh}:relW K Γ (.own a) (.ref a):=rfl
def zoi{Γ:Gh}{x:PyData}(h:Rep K Γ.Z x v):relW K Γ (.d x) v:=h
def vS{Γ:Gh}:relW K Γ (.d .none) .non:=rfl
abbrev wC(x:PyData):TEW:=λ_ O R=>R (.d x) O
def Ku{x:PyData}(h:vOf x=v:=by rfl)(b:scD x=true:=by rfl):RefE K (tC v) (wC x):=by
 rintro Γ O H ρ σ S r Q R a k;subst h;refine k _ _ _ _ _ (Le.refl _) S ?_ a;cases x<;>first|rfl|simp[scD]at b
def Qm{i:Int}:RefE K (tC (.int i)) (wC (.int i)):=Ku
def Qn{i:Str}:RefE K (tC (.str i)) (wC (.str i)):=Ku
def zar{i:Bool}:RefE K (tC (.bl i)) (wC (.bool i)):=Ku
def Qo:RefE K (tC .non) (wC .none):=Ku
abbrev wOp(r:R2W)(c d:TEW):TEW:=λρ O R=>c ρ O λx a=>d ρ a λy b=>r x y b R
def zas{r:R2}{rw:R2W}{j l:TE}{d e:TEW}(I:RefR K r rw)(F:RefE K j d)(G:RefE K l e):RefE K (tOp r j l) (wOp rw d e):=by
 intro Γ O H ρ σ S i Q R h k;refine F Γ O H ρ σ S i _ _ h λa p m x v f t L C=>?_;refine G a p m ρ σ t (i.mono f) _ _ C λb q n y u g A M D=>?_;exact I b q n x y v u A (L.mono g) M _ _ D λc s o w z J B N E=>k c s o w z ((f.trans g).trans J) B N E
abbrev wUn(r:W->OM->WK->Prop)(b:TEW):TEW:=λρ O R=>b ρ O λx a=>r x a R
def zat{r:V->Hp->VK->Prop}{rw:W->OM->WK->Prop}{d:TE}{c:TEW}(p:RefU K r rw)(o:RefE K d c):RefE K (tUn r d) (wUn rw c):=by
 intro Γ O H ρ σ S t Q R h k;refine o Γ O H ρ σ S t _ _ h λa g e x v q j u m=>?_;exact p a g e x v j u _ _ m λb i f w z s l y n=>k b i f w z (q.trans s) l y n
abbrev Zu:W->Bool
 |.d .none=>true
 |_=>false
def zau{Γ:Gh}{w:W}(r:relW K Γ w v):decide (v=.non)=Zu w:=by
 cases w with
 |d x=>
  cases x with
  |none=>rw[show v=.non from r];rfl
  |list ds=>obtain⟨a,_,rfl,_⟩:=r;rfl
  |tuple ds=>obtain⟨a,_,rfl,_⟩:=r;rfl
  |dict _=>obtain⟨_,a,rfl,_⟩:=r;rfl
  |int i=>rw[show v=.int i from r];rfl
  |bool i=>rw[show v=.bl i from r];rfl
  |str i=>rw[show v=.str i from r];rfl
 |own a=>rw[show v=.ref a from r];rfl
 |row a i=>obtain⟨rs,b,_,_,rfl⟩:=r;rfl
abbrev Yc(b:Bool):W->Bool
 |.d (.bool c)=>decide (c=b)
 |_=>false
def zkK{Γ:Gh}{w:W}{b:Bool}(r:relW K Γ w v):decide (v=.bl b)=Yc b w:=by
 cases w with
 |d x=>
  cases x with
  |none=>rw[show v=.non from r];rfl
  |list ds=>obtain⟨a,_,rfl,_⟩:=r;rfl
  |tuple ds=>obtain⟨a,_,rfl,_⟩:=r;rfl
  |dict _=>obtain⟨_,a,rfl,_⟩:=r;rfl
  |int i=>rw[show v=.int i from r];rfl
  |bool i=>rw[show v=.bl i from r];simp[Yc]
  |str i=>rw[show v=.str i from r];rfl
 |own a=>rw[show v=.ref a from r];rfl
 |row a i=>obtain⟨rs,c,_,_,rfl⟩:=r;rfl
abbrev zav:R2W:=λx y O R=>∃b,y=.d (.bool b)/\R (.d (.bool (Yc b x))) O
def zei:RefR K (λx y H Q=>∃b,y=.bl b/\Q (.bl (decide (x=.bl b))) H) zav:=by
 rintro Γ O H x y v u S a c Q R ⟨b,rfl,h⟩ k;refine⟨b,c,k _ _ _ _ _ (Le.refl _) S ?_ h⟩;rw[zkK a];rfl
abbrev ub:R2W:=λx y O R=>∃ds i e,y=.d (.int i)/\zU x=some ds/\atI ds i=some e/\R (.d e) O
abbrev zej:R2W:=λx y O R=>∃z i c,x=.d (.str z)/\y=.d (.int i)/\z.length<=sizeLine/\atI z.cps.toList i=some c/\R (.d (.str ⟨#[c]⟩)) O
def Zv{α β:Type}{F:α->β->Prop}{a:List α}{b:List β}{i:Int}{x:α}(r:Paired F a b)(e:atI a i=some x):∃y,atI b i=some y/\F x y:=by
 unfold atI at e ⊢;rw[<-lJ r];cases h:ixN a.length i with
 |none=>rw[h]at e;cases e
 |some j=>rw[h]at e;exact Paired.getP r e
def zek:RefR K (zhT K) ub:=by
 rintro Γ O H x y v u S n o Q R ⟨ds,i,w,rfl,e,b,h⟩ k;obtain⟨a,vs,rfl,l,m⟩:=x9 S n e;have c:atI (ds.map W.d) i=some (.d w):=by
  unfold atI at b ⊢;rw[l8];cases hj:ixN ds.length i with
  |none=>rw[hj]at b;cases b
  |some j=>rw[hj]at b;replace b:ds[j]? =some w:=b;show(ds.map W.d)[j]? =some (.d w);rw[lw,b];rfl
 obtain⟨z,f,g⟩:=Zv m c;exact⟨a,vs,i,z,rfl,o,l,f,k _ _ _ _ _ (Le.refl _) S g h⟩
def zel:RefR K zmk zej:=by
 rintro Γ O H x y v u S d e Q R ⟨z,i,c,rfl,rfl,b,a,h⟩ k;exact⟨z,i,c,d,e,b,a,k _ _ _ _ _ (Le.refl _) S vR h⟩
abbrev Zw(T U:TTW):TTW:=λρ O R=>T ρ O λc a=>if c=true then U ρ a R else R false a
abbrev wOr(T U:TTW):TTW:=λρ O R=>T ρ O λc a=>if c=true then R true a else U ρ a R
abbrev Yd(T:TTW):TTW:=λρ O R=>T ρ O λc a=>R (!c) a
def Qp{t u:TT}{T U:TTW}(h:xt K t T)(g:xt K u U):xt K (zlX t u) (Zw T U):=by
 intro Γ O H ρ σ S f Q R l k;refine h Γ O H ρ σ S f _ _ l λn r p b d e a=>?_;cases b with
 |true=>rw[l9 rfl]at a ⊢;exact g _ _ _ _ _ e (f.mono d) _ _ a λo s q c m i j=>k _ _ _ _ (d.trans m) i j
 |false=>rw[l7 ∅]at a ⊢;exact k _ _ _ _ d e a
def zaw{t u:TT}{T U:TTW}(h:xt K t T)(g:xt K u U):xt K (tOr t u) (wOr T U):=by
 intro Γ O H ρ σ S f Q R l k;refine h Γ O H ρ σ S f _ _ l λn r p b d e a=>?_;cases b with
 |false=>rw[l7 ∅]at a ⊢;exact g _ _ _ _ _ e (f.mono d) _ _ a λo s q c m i j=>k _ _ _ _ (d.trans m) i j
 |true=>rw[l9 rfl]at a ⊢;exact k _ _ _ _ d e a
def Qq{t:TT}{T:TTW}(h:xt K t T):xt K (zlY t) (Yd T):=by
 intro Γ O H ρ σ S f Q R d k;exact h Γ O H ρ σ S f _ _ d λg j i b e a c=>k _ _ _ _ e a c
abbrev Kv(b e:TEW):TEW:=λρ O R=>b ρ O λx a=>∃c,x=.d (.bool c)/\if c=true then e ρ a R else R (.d (.bool false)) a
abbrev zem(b e:TEW):TEW:=λρ O R=>b ρ O λx a=>∃c,x=.d (.bool c)/\if c=true then R (.d (.bool true)) a else e ρ a R
abbrev Kw(b:TEW):TEW:=λρ O R=>b ρ O λx a=>∃c,x=.d (.bool c)/\R (.d (.bool (!c))) a
def X8{h i:TE}{e f:TEW}(n:RefE K h e)(o:RefE K i f):RefE K (zjv h i) (Kv e f):=by
 intro Γ O H ρ σ S g Q R m k;refine n Γ O H ρ σ S g _ _ m λs A w x v b d q a=>?_;obtain⟨c,rfl,a⟩:=a;refine⟨c,q,?_⟩;cases c with
 |true=>rw[l9 rfl]at a ⊢;exact o _ _ _ _ _ d (g.mono b) _ _ a λt B z y u p j r l=>k _ _ _ _ _ (b.trans p) j r l
 |false=>rw[l7 ∅]at a ⊢;exact k _ _ _ _ _ b d yT a
def Qr{h i:TE}{e f:TEW}(n:RefE K h e)(o:RefE K i f):RefE K (zlZ h i) (zem e f):=by
 intro Γ O H ρ σ S g Q R m k;refine n Γ O H ρ σ S g _ _ m λs A w x v b d q a=>?_;obtain⟨c,rfl,a⟩:=a;refine⟨c,q,?_⟩;cases c with
 |false=>rw[l7 ∅]at a ⊢;exact o _ _ _ _ _ d (g.mono b) _ _ a λt B z y u p j r l=>k _ _ _ _ _ (b.trans p) j r l
 |true=>rw[l9 rfl]at a ⊢;exact k _ _ _ _ _ b d yT a
def X9{d:TE}{b:TEW}(g:RefE K d b):RefE K (zjw d) (Kw b):=by
 intro Γ O H ρ σ S i Q R f k;refine g Γ O H ρ σ S i _ _ f λl n m x v h e j a=>?_;obtain⟨c,rfl,a⟩:=a;exact⟨c,j,k _ _ _ _ _ h e yT a⟩
abbrev wIf(T:TTW)(b d:TEW):TEW:=λρ O R=>T ρ O λc a=>if c=true then b ρ a R else d ρ a R
def zax{t:TT}{T:TTW}{o p:TE}{m n:TEW}(h:xt K t T)(v:RefE K o m)(w:RefE K p n):RefE K (tIf t o p) (wIf T m n):=by
 intro Γ O H ρ σ S g Q R s k;refine h Γ O H ρ σ S g _ _ s λx A z b c l a=>?_;cases b with
 |true=>rw[l9 rfl]at a ⊢;exact v _ _ _ _ _ l (g.mono c) _ _ a λj r q y u f d i e=>k _ _ _ _ _ (c.trans f) d i e
 |false=>rw[l7 ∅]at a ⊢;exact w _ _ _ _ _ l (g.mono c) _ _ a λj r q y u f d i e=>k _ _ _ _ _ (c.trans f) d i e
abbrev kj(O:OM):W->Option Bool
 |.d .none=>some false
 |.d (.bool b)=>some b
 |.d (.int i)=>some (i != 0)
 |.d (.str z)=>some (z.length != 0)
 |.d (.list ds)=>some (!ds.isEmpty)
 |.d (.tuple ds)=>some (!ds.isEmpty)
 |.own a=>match O a with
  |some (.lst ws)=>some (!ws.isEmpty)
  |some (.dK kvs)=>some (!kvs.isEmpty)
  |_=>none
 |_=>none
abbrev kZ:W->Prop
 |.d (.str z)=>z.length<=sizeLine
 |_=>True
def va{α β:Type}{F:α->β->Prop}{a:List α}{b:List β}(r:Paired F a b):a.isEmpty=b.isEmpty:=by cases r<;>rfl
def zib{Γ:Gh}{O:OM}{w:W}{b:Bool}(S:Sim K Γ O H)(r:relW K Γ w v)(e:kj O w=some b)(j:kZ w):K6 K v H b:=by
 cases w with
 |d x=>
  cases x with
  |none=>rw[show v=.non from r];cases e;rfl
  |bool i=>rw[show v=.bl i from r];cases e;rfl
  |int i=>rw[show v=.int i from r];cases e;rfl
  |str z=>
   rw[show v=.str z from r];cases e;refine⟨j,?_⟩;show(z.length != 0)=((z.length:Int) != 0);cases hz:z.length with
   |zero=>rfl
   |succ n=>simp only[bne,Nat.beq_eq_true_eq];simp;lia
  |list ds=>cases e;obtain⟨a,g,rfl,c,f⟩:=r;refine .inl ⟨g,c.same S.z,?_⟩;rw[<-va (yk f:relWs K Γ _ _)];simp
  |tuple ds=>cases e;obtain⟨a,g,rfl,c,f⟩:=r;refine .inr (.inl ⟨g,c.same S.z,?_⟩);rw[<-va (yk f:relWs K Γ _ _)];simp
  |dict _=>cases e
 |own a=>
  cases(show v=.ref a from r);simp only[kj]at e;split at e
  .rename_i ws h;cases e;obtain⟨_,vs,c,f⟩:=S.o _ _ h;exact .inl ⟨vs,SqL.of c,by rw[va f]⟩
  .rename_i kvs h;cases e;obtain⟨_,vs,c,f⟩:=S.o _ _ h;exact .inr (.inr ⟨vs,c,by rw[va f]⟩)
  .cases e
 |row a i=>cases e
abbrev Qs(T:TEW):TTW:=λρ O R=>T ρ O λx a=>∃b,kj a x=some b/\kZ x/\R b a
def zkL{t:TE}{T:TEW}(h:RefE K t T):xt K (λσ H Q=>t σ H λx b=>∃k,K6 K x b k/\Q k b) (Qs T):=by
 intro Γ O H ρ σ S j Q R f k;refine h Γ O H ρ σ S j _ _ f λm o n x v i d l a=>?_;obtain⟨c,e,g,a⟩:=a;exact⟨c,zib d l e g,k _ _ _ _ i d a⟩
abbrev je:TAW:=λ_ O R=>R [] O
abbrev vA(c:TEW)(d:TAW):TAW:=λρ O R=>c ρ O λx a=>d ρ a λe b=>R (x::e) b
def Qt:yQ K Zq je:=λΓ O H ρ σ S a Q R h k=>k _ _ _ _ _ (Le.refl _) S .nil h
def Va{f:TE}{t:TA}{b:TEW}{T:TAW}(o:RefE K f b)(p:yQ K t T):yQ K (Xb f t) (vA b T):=by
 intro Γ O H ρ σ S e Q R h k;refine o Γ O H ρ σ S e _ _ h λa i g x v c j q m=>?_;exact p a i g ρ σ j (e.mono c) _ _ m λr u s ws vs d l rs n=>k _ _ _ _ _ (c.trans d) l (.cons (q.mono d) rs) n
abbrev Ye(T:TAW):TEW:=λρ O R=>T ρ O λws a=>∃ds,zZ ws=some ds/\ds.length<=1000/\R (.d (.tuple ds)) a
abbrev zay(T:TAW):TEW:=λρ O R=>T ρ O λws a=>∃ds,zZ ws=some ds/\ds.length<=1000/\R (.d (.list ds)) a
def Xj(h:n<=1000):n<=sizeLine:=ph (qk h)
def Yf{Γ:Gh}{O:OM}(S:Sim K Γ O H)(b:Reps K Γ.Z ds vs)(a:H p=none):∃Γ',Le Γ Γ'/\Sim K Γ' O (upd H p (.tup vs))/\relW K Γ' (.d (.tuple ds)) (.ref p):=by
 obtain⟨l,S'⟩:=S.newD a (.tup vs);exact⟨_,l,S',p,vs,rfl,SqT.of zu,Reps.same l.z _ _ b⟩
def k4{Γ:Gh}{O:OM}(S:Sim K Γ O H)(b:Reps K Γ.Z ds vs)(a:H p=none):∃Γ',Le Γ Γ'/\Sim K Γ' O (upd H p (.lst vs))/\relW K Γ' (.d (.list ds)) (.ref p):=by
 obtain⟨l,S'⟩:=S.newD a (.lst vs);exact⟨_,l,S',p,vs,rfl,SqL.of zu,Reps.same l.z _ _ b⟩
def k5{Γ:Gh}{O:OM}{ws:List W}(S:Sim K Γ O H)(b:relWs K Γ ws vs)(a:H p=none):O p=none/\Sim K Γ (updO O p (.lst ws)) (upd H p (.lst vs)):=
 ⟨(S.free a).2.1,S.newO a (by intro _ h;cases h) ⟨vs,zu,b⟩⟩
def Qu{t:TA}{T:TAW}(h:yQ K t T):RefE K (zd4 t) (Ye T):=by
 intro Γ O H ρ σ S j Q R c k;refine h Γ O H ρ σ S j _ _ c λm o n ws vs g b rs a=>?_;obtain⟨ds,e,d,a⟩:=a;rw[xa e]at rs;refine⟨by rw[<-lJ rs,l8];exact Xj d,λp f=>?_⟩;obtain⟨Γ',l,S',i⟩:=Yf b (zz rs) f;exact k _ _ _ _ _ (g.trans l) S' i a
def Qv{t:TA}{T:TAW}(h:yQ K t T):RefE K (K8 t) (zay T):=by
 intro Γ O H ρ σ S j Q R c k;refine h Γ O H ρ σ S j _ _ c λm o n ws vs g b rs a=>?_;obtain⟨ds,e,d,a⟩:=a;rw[xa e]at rs;refine⟨by rw[<-lJ rs,l8];exact Xj d,λp f=>?_⟩;obtain⟨Γ',l,S',i⟩:=k4 b (zz rs) f;exact k _ _ _ _ _ (g.trans l) S' i a
/---/abbrev SpW:=List W->OM->WK->Prop
abbrev liftSp(K:W.Frag)(s:SpW):Sp:=λvs H Q _=>∃Γ O ws R,Sim K Γ O H/\relWs K Γ ws vs/\s ws O R/\∀Γ' b a w v,Le Γ Γ'->Sim K Γ' b a->relW K Γ' w v->R w b->Q v a
abbrev Clo(R:WK):WK:=λw O=>R w O\/∃a ds,w=.own a/\O a=some (.lst (ds.map .d))/\R (.d (.list ds)) (del O a)
abbrev yy(N:List Str)(ws:List W):WS:=ws.map some++List.replicate (N.length-ws.length) none
section
def Uk{Γ:Gh}{ws:List W}(h:relWs K Γ ws vs):relR K Γ (yy N ws) (L2.start N vs):=by
 unfold yy L2.start;rw[lJ h];refine Paired.appP ?_ ?_
 .induction h with
  |nil=>exact .nil
  |cons a b ih=>exact .cons a ih
 .generalize N.length-vs.length=n;induction n with
  |zero=>exact .nil
  |succ n ih=>exact .cons trivial ih
def Xk{Γ:Gh}{O:OM}{w:W}{R:WK}{Q:VK}(S:Sim K Γ O H)(r:relW K Γ w v)(h:Clo R w O)(k:∀Γ' c b w v,Le Γ Γ'->Sim K Γ' c b->relW K Γ' w v->R w c->Q v b):Q v H:=by
 rcases h with h|⟨a,ds,rfl,e,h⟩
 .exact k _ _ _ _ _ (Le.refl _) S r h
 .obtain⟨Γ',l,S',d⟩:=S.freeze e;cases(show v=.ref a from r);exact k _ _ _ _ _ l S' d h
variable {base:Heap}
def Fun.okW{b:Str}{n:List Str}{k:Nat}{s:SpW}(F:Fun K x b st f fd)(S:FnScope N n (defScope st))(len:∀ws O R,s ws O R->ws.length=n.length)
    (e:∀ (c:Value) (A:Around) (a:List Env) (g:Shared) (H:Hp) (E:XK),Room k (A.deeper (envOfC b (defScope st) g.heap.objs.size f c))->
      ∃t T,PSs (vG CX0 P w K mg base N b (defScope st) f c A a g H E).nox (defBody st) t/\RefS K t T/\∀ws O R,s ws O R->T { nx:=λ_ i=>Clo R (.d .none) i,rt:=Clo R } (yy N ws) O):FnOk P w K mg base CX0 (k+1) f fd n (liftSp K s):=by
  refine F.ok S (λvs H Q E h=>?_) (λc A a g H vs Q E I h=>?_)
  · obtain⟨Γ,O,ws,R,p,r,j,_⟩:=h
    rw[<-lJ r];exact len ws O R j
  · obtain⟨t,T,C,D,G⟩:=e c A a g H E I
    obtain⟨Γ,O,ws,R,p,r,j,q⟩:=h;refine⟨t,C,D Γ O H _ _ _ _ p (Uk r) (G ws O R j) ⟨λΓ' i y J L l S' u h'=>?_,λΓ' i y w v l S' u h'=>?_,λ_ _ _ _ _ _ _ _ h=>h.elim,λ_ _ _ _ _ _ _ _ h=>h.elim⟩⟩
    · exact Xk S' vS h' λo B z w v m=>q _ _ _ _ _ (l.trans m)
    · exact Xk S' u h' λo B z w v m=>q _ _ _ _ _ (l.trans m)
def Fun.okV{b:Str}{g:List Str}{k:Nat}{s:SpW}{t:TS}{T:TSW}(F:Fun K x b st f fd)(S:FnScope N g (defScope st))(len:∀ws O R,s ws O R->ws.length=g.length)
  (i:∀(c:Value) (A:Around) (a:List Env) (e:Shared) (H:Hp) (E:XK),Room k (A.deeper (envOfC b (defScope st) e.heap.objs.size f c))->PSs (vG CX0 P w K mg base N b (defScope st) f c A a e H E).nox (defBody st) t)
  (j:RefS K t T)(l:∀ws O R,s ws O R->T { nx:=λ_ h=>Clo R (.d .none) h,rt:=Clo R } (yy N ws) O):FnOk P w K mg base CX0 (k+1) f fd g (liftSp K s):=
 F.okW S len λc A a e H E m=>⟨t,T,i c A a e H E m,j,l⟩
def FunD.okW{b:Str}{ds:List Value}{n:List Str}{k:Nat}{s:SpW}(F:FunD K x b st ds f fd)(S:FnScope N n (defScope st))(len:∀ws O R,s ws O R->ws.length=n.length)
    (e:∀ (c:Value) (A:Around) (a:List Env) (g:Shared) (H:Hp) (E:XK),Room k (A.deeper (envOfC b (defScope st) g.heap.objs.size f c))->
      ∃t T,PSs (vG CX0 P w K mg base N b (defScope st) f c A a g H E).nox (defBody st) t/\RefS K t T/\∀ws O R,s ws O R->T { nx:=λ_ i=>Clo R (.d .none) i,rt:=Clo R } (yy N ws) O):FnOk P w K mg base CX0 (k+1) f fd n (liftSp K s):=by
  refine F.ok S (λvs H Q E h=>?_) (λc A a g H vs Q E I h=>?_)
  · obtain⟨Γ,O,ws,R,p,r,j,_⟩:=h
    rw[<-lJ r];exact len ws O R j
  · obtain⟨t,T,C,D,G⟩:=e c A a g H E I
    obtain⟨Γ,O,ws,R,p,r,j,q⟩:=h;refine⟨t,C,D Γ O H _ _ _ _ p (Uk r) (G ws O R j) ⟨λΓ' i y J L l S' u h'=>?_,λΓ' i y w v l S' u h'=>?_,λ_ _ _ _ _ _ _ _ h=>h.elim,λ_ _ _ _ _ _ _ _ h=>h.elim⟩⟩
    · exact Xk S' vS h' λo B z w v m=>q _ _ _ _ _ (l.trans m)
    · exact Xk S' u h' λo B z w v m=>q _ _ _ _ _ (l.trans m)
def FunD.okV{b:Str}{ds:List Value}{g:List Str}{k:Nat}{s:SpW}{t:TS}{T:TSW}(F:FunD K x b st ds f fd)(S:FnScope N g (defScope st))(len:∀ws O R,s ws O R->ws.length=g.length)
  (i:∀(c:Value) (A:Around) (a:List Env) (e:Shared) (H:Hp) (E:XK),Room k (A.deeper (envOfC b (defScope st) e.heap.objs.size f c))->PSs (vG CX0 P w K mg base N b (defScope st) f c A a e H E).nox (defBody st) t)
  (j:RefS K t T)(l:∀ws O R,s ws O R->T { nx:=λ_ h=>Clo R (.d .none) h,rt:=Clo R } (yy N ws) O):FnOk P w K mg base CX0 (k+1) f fd g (liftSp K s):=
 F.okW S len λc A a e H E m=>⟨t,T,i c A a e H E m,j,l⟩
end
def Vb{Γ:Gh}:∀{vs:List V},vs.all scV=true->relWs K Γ (vs.map ofV) vs
 |[],_=>.nil
 |v::vs,h=>by simp at h;exact .cons (Xi h.1) (Vb (by simpa using h.2))
abbrev vB(s:SpW)(a:List V)(T:TAW):TEW:=λρ O R=>T ρ O λws b=>s (ws++a.map ofV) b R
def Vc{s:SpW}{a:List V}{t:TA}{T:TAW}(h:yQ K t T)(j:a.all scV=true:=by rfl):RefE K (Zr (liftSp K s) a E0 t) (vB s a T):=by
 intro Γ O H ρ σ S n Q R i k;refine h Γ O H ρ σ S n _ _ i λb c q ws vs l d rs f=>?_;exact⟨b,c,_,R,d,Paired.appP rs (Vb j),f,λp u r w v m e o g=>k _ _ _ _ _ (l.trans m) e o g⟩
abbrev wCB(r:List W->OM->WK->Prop)(T:TAW):TEW:=λρ O R=>T ρ O λws a=>r ws a R
def zaz{r:List V->Hp->VK->Prop}{rw:List W->OM->WK->Prop}{t:TA}{T:TAW}(f:RefC K r rw)(h:yQ K t T):RefE K (tCB r t) (wCB rw T):=by
 intro Γ O H ρ σ S j Q R e k;refine h Γ O H ρ σ S j _ _ e λm q o ws vs g a rs c=>?_;exact f _ _ _ _ _ a rs _ _ c λn s p w v i b l d=>k _ _ _ _ _ (g.trans i) b l d
def Ul{Γ:Gh}{f:Str}:∀{fs:List (Str×W)}{vs:List (Str×V)},zX K Γ fs vs->(fs.lookup f=none->vs.lookup f=none)/\∀w,fs.lookup f=some w->∃v,vs.lookup f=some v/\relW K Γ w v:=by
 intro fs vs h;unfold zX at h;induction h with
 |nil=>exact⟨λ_=>rfl,λw e=>by cases e⟩
 |cons a b ih=>
  rename_i p q i j;obtain⟨k,x⟩:=p;obtain⟨g,y⟩:=q;obtain⟨c,d⟩:=a;cases(show k=g from c);simp only[List.lookup_cons];cases e:f==k with
  |true=>exact⟨λz=>(by cases z),λw z=>by cases z;exact⟨_,rfl,d⟩⟩
  |false=>exact ih
abbrev Kx(C:Addr)(m:Str)(s:SpW)(d:TEW)(T:TAW):TEW:=λρ O R=>d ρ O λx b=>∃a dx fs,x=.own a/\b a=some (.ins C dx fs)/\fs.lookup m=none/\T ρ b λws c=>s (x::ws) c R
def Vd{m:Str}{s:SpW}{i:TE}{t:TA}{e:TEW}{T:TAW}(u:RefE K i e)(h:yQ K t T):RefE K (Xc C m (liftSp K s) [] E0 i t) (Kx C m s e T):=by
 intro Γ O H ρ σ S g Q R r k;refine u Γ O H ρ σ S g _ _ r λI P L x v f d G b=>?_;obtain⟨a,dx,fs,rfl,z,y,b⟩:=b;cases(show v=.ref a from G);obtain⟨_,vs,D,E⟩:=d.o _ _ z;refine⟨a,dx,vs,rfl,D,(Ul E).1 y,?_⟩;refine h _ _ _ _ _ d (g.mono f) _ _ b λc j M ws us A l rs p=>?_;rw[mm];exact⟨c,j,_,R,l,.cons yf rs,p,λJ U N w v B n F q=>k _ _ _ _ _ ((f.trans A).trans B) n F q⟩
def Sim.junk{Γ:Gh}{O:OM}(S:Sim K Γ O H)(c:H p=none)(o:HO):Sim K Γ O (upd H p o):=by
 obtain⟨hz,k,s⟩:=S.free c;refine⟨λb u e=>?_,λa oo e=>?_,λa rs e=>?_,X4 S.f (S.f.free c),S.gn,S.fg,S.fd,S.u⟩
 .rw[zi (λz=>by rw[z,hz]at e;cases e)];exact S.z _ _ e
 .have d:a≠p:=λz=>by rw[z,k]at e;cases e
  obtain⟨i,j⟩:=S.o _ _ e;refine⟨i,j.keep (Le.refl _) (zi d) rfl λrs r l ⟨rows,g⟩ m=>?_⟩;subst g;obtain⟨_,_,vs,q⟩:=S.rowIn e l m;exact⟨zi (λz=>by rw[z,c]at q;cases q),rfl,rfl⟩
 .obtain⟨n,h⟩:=S.gd _ _ e;exact⟨n,by rw[zi (zW h c)];exact h⟩
abbrev Ky(C:Addr)(s:SpW)(T:TAW):TEW:=λρ O R=>T ρ O λws a=>∀x dx,a x=none->s (.own x::ws) (updO a x (.ins C dx [])) λw b=>w=.d .none/\R (.own x) b
def Ve{s:SpW}{t:TA}{T:TAW}(h:yQ K t T):RefE K (Ua C (liftSp K s) [] E0 t) (Ky C s T):=by
 intro Γ O H ρ σ S r Q R n k;refine h _ _ _ _ _ S r _ _ n λe A g ws vs p i rs m=>?_;intro x dx hx c d;have a:upd g dx (.own x) x=none:=by rw[zi (Ne.symm d)];exact hx
 have f:=i.junk c (.own x);have j:=f.newO a (o:=.ins C dx []) (oo:=.ins C dx []) (by intro _ h;cases h) ⟨[],zu,.nil⟩;rw[mm];refine⟨e,_,_,_,j,.cons yf rs,m x dx (f.free a).2.1,λy B z w v q l u b=>?_⟩;obtain⟨rfl,b⟩:=b;exact⟨u,k _ _ _ _ _ (p.trans q) l yf b⟩
abbrev seqD(O:OM)(w:W):Option (List PyData):=match zU w with
 |some ds=>some ds
 |none=>(seqL O w).bind zZ
def Qw{Γ:Gh}{O:OM}{w:W}(S:Sim K Γ O H)(r:relW K Γ w v)(e:seqD O w=some ds):∃a vs,v=.ref a/\(SqL K H a vs\/SqT K H a vs)/\Reps K Γ.Z ds vs:=by
 unfold seqD at e;split at e
 .rename_i es h;cases e;obtain⟨a,vs,c,d,b⟩:=x9 S r h;exact⟨a,vs,c,.inr d,zz b⟩
 .cases h:seqL O w with
  |none=>rw[h]at e;cases e
  |some ws=>rw[h]at e;obtain⟨a,vs,c,d,b⟩:=z9 S r h;rw[xa (show zZ ws=some ds from e)]at b;exact⟨a,vs,c,.inl d,zz b⟩
abbrev lenW(O:OM)(w:W):Option Nat:=match zU w with
 |some ds=>some ds.length
 |none=>(seqL O w).map (·.length)
abbrev Vf:List W->OM->WK->Prop:=λa O R=>∃w n,a=[w]/\lenW O w=some n/\R (.d (.int n)) O
def zoj:RefC K (λg H Q=>∃p f,g=[.ref p]/\(SqL K H p f\/SqT K H p f)/\Q (.int f.length) H) Vf:=by
 rintro Γ O H g vs S rs Q R ⟨w,n,rfl,e,h⟩ k;cases rs with
 |cons rx t=>
  cases t;unfold lenW at e;split at e
  .rename_i ds i;cases e;obtain⟨a,vs,b,c,d⟩:=x9 S rx i;subst b;refine⟨a,vs,rfl,.inr c,k _ _ _ _ _ (Le.refl _) S ?_ h⟩;rw[<-lJ d,l8];rfl
  .cases hL:seqL O w with
   |none=>rw[hL]at e;cases e
   |some ws=>rw[hL]at e;cases e;obtain⟨a,vs,b,c,d⟩:=z9 S rx hL;subst b;refine⟨a,vs,rfl,.inl c,k _ _ _ _ _ (Le.refl _) S ?_ h⟩;rw[<-lJ d];rfl
abbrev Kz:List W->OM->WK->Prop:=λa O R=>∃z,a=[.d (.str z)]/\z.length<=sizeLine/\R (.d (.int z.length)) O
def zaA:RefC K (λa H Q=>∃z,a=[.str z]/\z.length<=sizeLine/\Q (.int z.length) H) Kz:=by
 rintro Γ O H a vs S rs Q R ⟨z,rfl,e,h⟩ k;cases rs with
 |cons rx t=>cases t;exact⟨z,by rw[show _=V.str z from rx],e,k _ _ _ _ _ (Le.refl _) S uL h⟩
abbrev jf:List W->OM->WK->Prop:=λa O R=>∃w ds,a=[w]/\seqD O w=some ds/\R (.d (.list ds)) O
def zkM:RefC K (λc H Q=>∃p b,c=[.ref p]/\(SqL K H p b\/SqT K H p b)/\∀l,H l=none->Q (.ref l) (upd H l (.lst b))) jf:=by
 rintro Γ O H c vs S rs Q R ⟨w,ds,rfl,e,h⟩ k;cases rs with
 |cons rx t=>cases t;obtain⟨a,vs,d,f,g⟩:=Qw S rx e;subst d;refine⟨a,vs,rfl,f,λl i=>?_⟩;obtain⟨Γ',le,S',j⟩:=k4 S g i;exact k _ _ _ _ _ le S' j h
abbrev Yg:List W->OM->WK->Prop:=λa O R=>∃w ds,a=[w]/\seqD O w=some ds/\∀p,O p=none->R (.own p) (updO O p (.lst (ds.map .d)))
def zkN:RefC K (λc H Q=>∃p b,c=[.ref p]/\(SqL K H p b\/SqT K H p b)/\∀l,H l=none->Q (.ref l) (upd H l (.lst b))) Yg:=by
 rintro Γ O H c vs S rs Q R ⟨w,ds,rfl,e,h⟩ k;cases rs with
 |cons rx t=>cases t;obtain⟨a,vs,d,f,g⟩:=Qw S rx e;subst d;refine⟨a,vs,rfl,f,λl j=>?_⟩;obtain⟨i,S'⟩:=k5 S (yk g) j;exact k _ _ _ _ _ (Le.refl _) S' yf (h l i)
abbrev Yh:List W->OM->WK->Prop:=λa O R=>∃w ds,a=[w]/\seqD O w=some ds/\R (.d (.tuple ds)) O
def zkO:RefC K (λn H Q=>∃p m,n=[.ref p]/\((SqL K H p m/\∀l,H l=none->Q (.ref l) (upd H l (.tup m)))\/(SqT K H p m/\Q (.ref p) H))) Yh:=by
 rintro Γ O H n vs S rs Q R ⟨w,ds,rfl,e,h⟩ k;cases rs with
 |cons rx t=>
  cases t;unfold seqD at e;split at e
  .rename_i es c;cases e;obtain⟨a,vs,f,g,j⟩:=x9 S rx c;subst f;refine⟨a,vs,rfl,.inr ⟨g,k _ _ _ _ _ (Le.refl _) S ?_ h⟩⟩;cases w with
   |d x=>cases x<;>simp[zU]at c;subst c;exact rx
   |own b=>cases c
   |row b i=>cases c
  .cases hL:seqL O w with
   |none=>rw[hL]at e;cases e
   |some ws=>rw[hL]at e;obtain⟨a,vs,f,g,j⟩:=z9 S rx hL;rw[xa (show zZ ws=some ds from e)]at j;subst f;refine⟨a,vs,rfl,.inl ⟨g,λl o=>?_⟩⟩;obtain⟨Γ',le,S',q⟩:=Yf S (zz j) o;exact k _ _ _ _ _ le S' q h
abbrev uc:TSW:=λD ρ O=>D.nx ρ O
abbrev yR(T U:TSW):TSW:=λD ρ O=>T { D with nx:=U D } ρ O
abbrev qe(T:TEW):TSW:=λD ρ O=>T ρ O λ_ a=>D.nx ρ a
abbrev km(T:TEW):TSW:=λD ρ O=>T ρ O D.rt
abbrev KA:TSW:=λD _ O=>D.rt (.d .none) O
abbrev xN(c:TTW)(T U:TSW):TSW:=λD ρ O=>c ρ O λb a=>if b=true then T D ρ a else U D ρ a
abbrev zmG:TSW:=λ_ _ _=>False
def Vg:RefS K zjx uc:=λΓ O H ρ σ D a S r h e=>e.nx _ _ _ _ _ (Le.refl _) S r h
def Yi:RefS K zfP zmG:=λΓ O H ρ σ D a S r h e=>h.elim
def Qx{t u:TS}{T U:TSW}(h:RefS K t T)(g:RefS K u U):RefS K (zl1 t u) (yR T U):=λΓ O H ρ σ D a S r b e=>
 h Γ O H ρ σ { D with nx:=u D } { a with nx:=U a } S r b ⟨λΓ' j i d f l S' c h'=>g _ _ _ _ _ _ _ S' c h' (e.mono l),e.rt,e.bk,e.ct⟩
def Vh{t:TE}{T:TEW}(h:RefE K t T):RefS K (zjy t) (qe T):=λΓ O H ρ σ D f S r c e=>
 h _ _ _ _ _ S r _ _ c λd i g w v l a j b=>e.nx _ _ _ _ _ l a (r.mono l) b
def Qy{t:TE}{T:TEW}(h:RefE K t T):RefS K (zl2 t) (km T):=λΓ O H ρ σ D g S r c e=>
 h _ _ _ _ _ S r _ _ c λf j i w v l a d b=>e.rt _ _ _ _ _ l a d b
def Qz{c:TT}{C:TTW}{t u:TS}{T U:TSW}(i:xt K c C)(h:RefS K t T)(g:RefS K u U):RefS K (zl3 c t u) (xN C T U):=λΓ O H ρ σ D k S r f e=>by
 refine i _ _ _ _ _ S r _ _ f λj n m b l d a=>?_;cases b with
 |true=>rw[l9 rfl]at a ⊢;exact h _ _ _ _ _ _ _ d (r.mono l) a (e.mono l)
 |false=>rw[l7 ∅]at a ⊢;exact g _ _ _ _ _ _ _ d (r.mono l) a (e.mono l)
abbrev kn(T:TEW)(G:TGW):TSW:=λD ρ O=>T ρ O λx a=>G x ρ a D.nx
def QB{t:TE}{T:TEW}{g:TG}{G:TGW}(h:RefE K t T)(d:RefG K g G):RefS K (Qg t g) (kn T G):=λΓ O H ρ σ D o S r c e=>
 h _ _ _ _ _ S r _ _ c λj s p w v l a i b=>d _ _ _ _ _ _ _ a (r.mono l) i _ _ b λk u q m n f=>e.nx _ _ _ _ _ (l.trans f)
abbrev xH(i:Nat):TGW:=λw ρ O R=>R (ρ.set i (some w)) O
def Vi:RefG K (Zo i) (xH i):=λΓ O H ρ σ w v S r rw Q R h k=>k _ _ _ _ _ (Le.refl _) S (Paired.setP r (show Xh K Γ (some w) (some v)from rw)) h
abbrev QC:TGsW:=λds ρ O R=>ds=[]/\R ρ O
abbrev Zx(G:TGW)(U:TGsW):TGsW:=λds ρ O R=>∃e es,ds=e::es/\G (.d e) ρ O λa b=>U es a b R
def Vj:RefGs K zl5 QC:=by
 rintro Γ O H ρ σ ds vs S r rs Q R ⟨rfl,h⟩ k;exact⟨rs,k _ _ _ _ _ (Le.refl _) S r h⟩
def Yj{t:TG}{u:TGs}{G:TGW}{U:TGsW}(h:RefG K t G)(g:RefGs K u U):RefGs K (zjz t u) (Zx G U):=by
 rintro Γ O H ρ σ ds vs S r rs Q R ⟨e,es,rfl,f⟩ k;obtain⟨x,m,rfl,c,d⟩:=rs;refine⟨x,m,rfl,h _ _ _ _ _ _ _ S r (zoi c) _ _ f λn A w p s a b l j=>?_⟩;exact g _ _ _ _ _ _ _ b l (Reps.same a.z _ _ d) _ _ j λo B y q v i=>k _ _ _ _ _ (a.trans i)
abbrev QD(n:Nat)(U:TGsW):TGW:=λw ρ O R=>∃ds,zU w=some ds/\ds.length=n/\U ds ρ O R
def Vk{t:TGs}{U:TGsW}(h:RefGs K t U):RefG K (zhH K n t) (QD n U):=by
 rintro Γ O H ρ σ w v S r rw Q R ⟨ds,e,g,f⟩ k;obtain⟨a,vs,c,d,b⟩:=x9 S rw e;refine⟨a,vs,c,d,by rw[<-lJ b,l8];exact g,h _ _ _ _ _ _ _ S r (zz b) _ _ f k⟩
abbrev qw(O:OM)(o:W)(k:Int)(w:W):Option OM:=match o with
 |.own a=>match O a with
  |some (.lst ws)=>(ixN ws.length k).map λj=>updO O a (.lst (ws.set j w))
  |_=>none
 |.row a r=>match O a,w with
  |some (.grid rows),.d x=>match rows[r]? with
   |some ds=>(ixN ds.length k).map λj=>updO O a (.grid (rows.set r (ds.set j x)))
   |none=>none
  |_,_=>none
 |_=>none
abbrev Vl(f e:TEW):TGW:=λw ρ O R=>f ρ O λo b=>e ρ b λi c=>∃k a,i=.d (.int k)/\qw c o k w=some a/\R ρ a
def Vm{E D:TE}{z y:TEW}(J:RefE K E z)(I:RefE K D y):RefG K (zl7 E D zjG) (Vl z y):=by
 rintro Γ O H ρ σ w v S r rw Q R h k;refine J _ _ _ _ _ S r _ _ h λU Y W o T b F M G=>?_;refine I _ _ _ _ _ F (r.mono b) _ _ G λV Z X i P c q L s=>?_;obtain⟨n,O3,rfl,e,s⟩:=s;have m:=M.mono c;have p:=rw.mono (b.trans c);cases(show P=.int n from L);cases o with
 |d x=>cases e
 |own a=>
  cases(show T=.ref a from m);simp only[qw]at e;split at e
  .rename_i ws f;cases hj:ixN ws.length n with
   |none=>rw[hj]at e;cases e
   |some j=>rw[hj]at e;cases e;obtain⟨_,us,t,u⟩:=q.o _ _ f;refine⟨a,us,n,j,rfl,rfl,t,by rw[<-lJ u];exact hj,?_⟩;exact k _ _ _ _ _ (b.trans c) (q.put (oo:=.lst _) f (by intro _ h;cases h) (by intro _ h;cases h) ⟨_,zu,Paired.setP u p⟩) (r.mono (b.trans c)) s
  .cases e
 |row a i=>
  obtain⟨rs,C,A,B,rfl⟩:=m;simp only[qw]at e;split at e
  .rename_i rows x f;cases hd:rows[i]? with
   |none=>rw[hd]at e;cases e
   |some ds=>
    rw[hd]at e;simp only at e;cases hj:ixN ds.length n with
    |none=>rw[hj]at e;cases e
    |some j=>rw[hj]at e;cases e;obtain⟨_,N,g,_,hl,_,l⟩:=q.o _ _ f;rw[A]at g;cases g;obtain⟨_,_,us,t,u⟩:=l i C ds B hd;refine⟨C,us,n,j,rfl,rfl,t,by rw[<-Reps.length u];exact hj,?_⟩;exact k _ _ _ _ _ (b.trans c) (q.cell f A B hd t p) (r.mono (b.trans c)) s
  .cases e
abbrev zmH(K:W.Frag)(Γ:Gh)(J:It)(ws:List W)(c:OM->Prop):Prop:=∀i Γ' e d,Same Γ.Z Γ'.Z->(∀a rs,Γ.G a=some rs->∃more,Γ'.G a=some (rs++more))->Sim K Γ' e d->c e->
 (∀w,ws[i]? =some w->J.go i d/\∀x f,J.yld i d x f->∃b,Le Γ' b/\Sim K b e f/\relW K b w x)/\(i=ws.length->J.stop i d)
/---/abbrev TIW:=WS->OM->(List W->(OM->Prop)->OM->Prop)->Prop
abbrev vj(K:W.Frag)(t:TI)(T:TIW):Prop:=∀Γ O H ρ σ,Sim K Γ O H->relR K Γ ρ σ->∀(Q:It->Hp->Prop) (R:List W->(OM->Prop)->OM->Prop),T ρ O R->(∀Γ' c b J ws a,Le Γ Γ'->Sim K Γ' c b->zmH K Γ' J ws a->R ws a c->Q J b)->t σ H Q
def relW.up{Γ Γ':Gh}(hz:Same Γ.Z Γ'.Z)(c:∀a rs,Γ.G a=some rs->∃more,Γ'.G a=some (rs++more)){w:W}(h:relW K Γ w v):relW K Γ' w v:=by
 have b:relW K ⟨Γ'.Z,Γ'.G,Γ.F⟩ w v:=relW.mono (Γ:=Γ) (Γ':=⟨Γ'.Z,Γ'.G,Γ.F⟩) ⟨rfl,hz,c⟩ h;cases w<;>exact b
abbrev KB(T:TEW):TIW:=λρ O R=>T ρ O λw a=>∃ws,seqL a w=some ws/\R ws (λb=>seqL b w=some ws) a
def Yk{t:TE}{T:TEW}(h:RefE K t T):vj K (zdT K t) (KB T):=by
 intro Γ O H ρ σ S r Q R o k;refine h _ _ _ _ _ S r _ _ o λC I E w v z g j f=>?_;obtain⟨ws,e,f⟩:=f;obtain⟨a,vs,rfl,A,L⟩:=z9 g j e;refine⟨a,rfl,⟨vs,A⟩,k _ _ _ _ _ _ z g (λi Γ' G D hz p S' l=>?_) f⟩;obtain⟨J,c,n,b,d⟩:=z9 S' (j.up hz p) l;cases n;refine⟨λM s=>?_,λq=>⟨c,b,by rw[<-lJ d,q];exact ll _⟩⟩;obtain⟨x,hx,B⟩:=Paired.getP d s;refine⟨⟨c,x,b,hx⟩,λy F ⟨m,u⟩=>?_⟩;subst m;have:=u c b;rw[hx]at this;cases this;exact⟨Γ',Le.refl _,S',B⟩
abbrev zaB(T:TEW):TIW:=λρ O R=>T ρ O λw a=>∃ds,zU w=some ds/\R (ds.map .d) (λ_=>True) a
def Vn{t:TE}{T:TEW}(h:RefE K t T):vj K (zhI K t) (zaB T):=by
 intro Γ O H ρ σ S r Q R n k;refine h _ _ _ _ _ S r _ _ n λB G D w v u g j f=>?_;obtain⟨ds,e,f⟩:=f;obtain⟨a,vs,rfl,z,L⟩:=x9 g j e;refine⟨a,rfl,⟨vs,z⟩,k _ _ _ _ _ _ u g (λi Γ' F C hz o S' J=>?_) f⟩;obtain⟨I,c,m,b,d⟩:=x9 S' (j.up hz o) e;cases m;refine⟨λM q=>?_,λp=>⟨c,b,by rw[<-lJ d,p];exact ll _⟩⟩;obtain⟨x,hx,A⟩:=Paired.getP d q;refine⟨⟨c,x,b,hx⟩,λy E ⟨l,s⟩=>?_⟩;subst l;have:=s c b;rw[hx]at this;cases this;exact⟨Γ',Le.refl _,S',A⟩
def zaC{Γ:Gh}{f:Nat->Int}{J:It}(e:∀i H,i<n->J.go i H)(l:∀i H x c,J.yld i H x c->c=H/\x=.int (f i))(k:∀i H,n<=i->J.stop i H):zmH K Γ J ((List.range n).map λi=>.d (.int (f i))) λ_=>True:=by
 intro i Γ' m c hz o S' _;refine⟨λw a=>?_,λb=>k i _ (by rw[b];simp)⟩;rw[lw]at a;cases hr:(List.range n)[i]? with
 |none=>rw[hr]at a;cases a
 |some j=>rw[hr]at a;cases a;obtain⟨b,g⟩:=lv.mp hr;simp at b g;subst g;refine⟨e i _ b,λx h y=>?_⟩;obtain⟨rfl,rfl⟩:=l i _ x h y;exact⟨Γ',Le.refl _,S',uL⟩
abbrev Um(T:TAW):TIW:=λρ O R=>T ρ O λws a=>∃j:Int,ws=[.d (.int j)]/\-(2 ^ 62)<=j/\j<2 ^ 62/\R ((List.range j.toNat).map λ(i:Nat)=>.d (.int i)) (λ_=>True) a
def Yl{t:TA}{T:TAW}(h:yQ K t T):vj K (zjA t) (Um T):=by
 intro Γ O H ρ σ S r Q R m k;refine h _ _ _ _ _ S r _ _ m λp u s ws vs n c o a=>?_;obtain⟨j,rfl,d,e,a⟩:=a;cases o with
 |cons rx t=>cases t;refine⟨j,by rw[show _=V.int j from rx],d,e,k _ _ _ _ _ _ n c (zaC (f:=λi=>(i:Int)) (λi H b=>b) (λi H x q ⟨g,l⟩=>⟨g,by rw[l,Int.zero_add]⟩) λi H b=>b) a⟩
abbrev Uo(T:TAW):TIW:=λρ O R=>T ρ O λws a=>∃i j:Int,ws=[.d (.int i),.d (.int j)]/\(-(2 ^ 62)<=i/\i<2 ^ 62/\-(2 ^ 62)<=j/\j<2 ^ 62)/\R ((List.range (j-i).toNat).map λ(k:Nat)=>.d (.int (i+k))) (λ_=>True) a
def Ym{t:TA}{T:TAW}(h:yQ K t T):vj K (zjB t) (Uo T):=by
 intro Γ O H ρ σ S r Q R l k;refine h _ _ _ _ _ S r _ _ l λo s q ws vs m d n a=>?_;obtain⟨i,j,rfl,b,a⟩:=a;cases n with
 |cons rx t=>
  cases t with
  |cons ry t=>cases t;exact⟨i,j,by rw[show _=V.int i from rx,show _=V.int j from ry],b,k _ _ _ _ _ _ m d (zaC (f:=λk=>i+(k:Int)) (λi H c=>c) (λi H x p ⟨e,g⟩=>⟨e,g⟩) λi H c=>c) a⟩
abbrev KC(T:TAW):TIW:=λρ O R=>T ρ O λws a=>∃(i j c:Int) (n:Nat),ws=[.d (.int i),.d (.int j),.d (.int c)]/\R3 i j c n/\R ((List.range n).map λ(k:Nat)=>.d (.int (i+k*c))) (λ_=>True) a
def Yn{t:TA}{T:TAW}(h:yQ K t T):vj K (zjJ t) (KC T):=by
 intro Γ O H ρ σ S r Q R m k;refine h _ _ _ _ _ S r _ _ m λq v u ws vs o e p a=>?_;obtain⟨i,j,c,n,rfl,b,a⟩:=a;cases p with
 |cons rx t=>
  cases t with
  |cons ry t=>
   cases t with
   |cons rz t=>cases t;exact⟨i,j,c,n,by rw[show _=V.int i from rx,show _=V.int j from ry,show _=V.int c from rz],b,k _ _ _ _ _ _ o e (zaC (f:=λk=>i+(k:Int)*c) (λi H d=>d) (λi H x s ⟨g,l⟩=>⟨g,l⟩) λi H d=>d) a⟩
abbrev KE(T:TAW):TIW:=λρ O R=>T ρ O λws a=>∃w us ds,ws=[w]/\seqL a w=some us/\zZ us=some ds/\R ((List.range ds.length).zipWith (λ(i:Nat) d=>W.d (.tuple [.int i,d])) ds) (λb=>seqL b w=some us) a
def Yo{t:TA}{T:TAW}(h:yQ K t T):vj K (zec K t) (KE T):=by
 intro Γ O H ρ σ S r Q R D k;refine h _ _ _ _ _ S r _ _ D λP Y V ws vs I q M m=>?_;obtain⟨w,us,ds,rfl,e,E,m⟩:=m;cases M with
 |cons rx t=>
  cases t;obtain⟨a,vs,rfl,L,q2⟩:=z9 q rx e;refine⟨a,rfl,⟨vs,L⟩,k _ _ _ _ _ _ I q (λi Γ' X U hz F S' v=>?_) m⟩;obtain⟨Z,b,C,f,g⟩:=z9 S' (rx.up hz F) v;cases C;rw[xa E]at g;have hl:ds.length=b.length:=by rw[<-lJ g,l8]
  refine⟨λw' c=>?_,λn=>⟨b,f,by rw[n];simp;lia⟩⟩;rw[oh]at c;cases hr:(List.range ds.length)[i]? with
  |none=>rw[hr]at c;cases c
  |some j=>
   rw[hr]at c;cases hdi:ds[i]? with
   |none=>rw[hdi]at c;cases c
   |some d=>rw[hdi]at c;cases c;obtain⟨n,s⟩:=lv.mp hr;simp at n s;subst s;obtain⟨x,hx,o⟩:=Paired.getP g (i:=i) (x:=.d d) (by rw[lw,hdi];rfl);refine⟨⟨b,x,f,hx⟩,λy W ⟨t,y',z,A,B,G⟩=>?_⟩;have l:=G b f;rw[hx]at l;cases l;subst z B;obtain⟨p,J,u,N⟩:=Yf S' (ds:=[.int i,d]) (vs:=[.int i,x]) ⟨_,_,rfl,rfl,_,_,rfl,o,rfl⟩ A;exact⟨p,J,u,N⟩
abbrev zS(ws:List W)(a:OM->Prop)(G:TGW)(d:TSW)(D:EndsW)(ρ:WS)(O:OM):Prop:=∃Pv:Nat->WS->OM->Prop,Pv 0 ρ O/\(∀i ρ O,Pv i ρ O->a O)/\
 (∀i w ρ O,ws[i]? =some w->Pv i ρ O->G w ρ O λb c=>d { D with nx:=Pv (i+1),ct:=Pv (i+1),bk:=D.nx } b c)/\∀ρ O,Pv ws.length ρ O->D.nx ρ O
abbrev zaD(d:TIW)(G:TGW)(c:TSW):TSW:=λD ρ O=>d ρ O λws a b=>zS ws a G c D ρ b
def QE{X:TI}{R:TIW}{g:TG}{G:TGW}{W:TS}{Q:TSW}(T:vj K X R)(hg:RefG K g G)(hb:RefS K W Q):RefS K (zma X g W) (zaD R G Q):=by
 intro Γ O H ρ σ D DW S r hT e;refine T _ _ _ _ _ S r _ _ hT λk Y H1 J ws U B Z ok h1=>?_;obtain⟨Pv,p0,pk,ps,pd⟩:=h1;refine⟨λi m p E=>i<=ws.length/\m=ws.length-i/\∃Γ' l d,Le k Γ'/\Sim K Γ' l E/\relR K Γ' d p/\Pv i d l,⟨_,lY _,rfl,k,Y,ρ,Le.refl _,Z,r.mono B,p0⟩,?_⟩;rintro i m p E ⟨T,rfl,Γ',l,d,A,S',V,N⟩;obtain⟨ok1,ok2⟩:=ok i Γ' l E A.z A.g S' (pk _ _ _ N);by_cases hlt:i<ws.length
 .obtain⟨go,y⟩:=ok1 _ (lp hlt);refine .inr ⟨go,λq t=>∃a u f,Le k a/\Sim K a u t/\relR K a f q/\Pv (i+1) f u,λq t ⟨a,u,f,C,I,r2,p2⟩=>⟨ws.length-(i+1),f!"i",hlt,rfl,a,u,f,C,I,r2,p2⟩,λx t hy=>?_⟩;obtain⟨a,C,I,rx⟩:=y x t hy;refine hg _ _ _ _ _ _ _ I (V.mono C) rx _ _ (ps i _ d l (lp hlt) N) λzs O3 H3 ys xb l3 S3 r3 h3=>?_;have c:=(A.trans C).trans l3;refine hb _ _ _ _ _ _ _ S3 r3 h3 ⟨λb n F h s j L P M=>⟨b,n,h,c.trans j,L,P,M⟩,λb n F w v j=>e.rt _ _ _ _ _ ((B.trans c).trans j),λb n F h s j=>e.nx _ _ _ _ _ ((B.trans c).trans j),λb n F h s j L P M=>⟨b,n,h,c.trans j,L,P,M⟩⟩
 .have o:i=ws.length:=f!"i"
  refine .inl ⟨ok2 o,e.nx _ _ _ _ _ (B.trans A) S' V (pd _ _ ?_)⟩;rw[<-o];exact N
abbrev yH(js:List Nat)(ρ:WS):WS:=js.map λj=>(ρ[j]?).join
def JC{Γ:Gh}{ρ:WS}(r:relR K Γ ρ σ)(n:Nat)(js:List Nat):relR K Γ (List.replicate n none++yH js ρ) (Zt n js σ):=by
 refine Paired.appP ?_ ?_
 .induction n with
  |zero=>exact .nil
  |succ n ih=>exact .cons trivial ih
 .unfold yH;induction js with
  |nil=>exact .nil
  |cons j js ih=>
   refine .cons ?_ ih;show Xh K Γ (ρ[j]?.join) (σ[j]?.join);cases h:ρ[j]? with
   |none=>exact trivial
   |some o=>
    cases o with
    |none=>exact trivial
    |some w=>obtain⟨v,a,b⟩:=r.get h;rw[a];exact b
abbrev bodyW(G:TGW)(T:TTW)(E:TEW)(n:Nat)(b:WS)(w:W)(ρ:WS)(O:OM)(k:Option W->OM->Prop):Prop:=
 G w ρ O λa d=>(a.length=n+b.length/\a.drop n=b)/\T a d λf c=>if f=true then E a c λy e=>k (some y) e else k none c
abbrev wLc(e:TIW)(n:Nat)(js:List Nat)(G:TGW)(T:TTW)(E:TEW):TEW:=λρ O R=>e ρ O λws a b=>a b/\ws.length<=1000/\∃F:W->Option PyData,
 (∀w∈ws,∀us:WS,us.length=n->bodyW G T E n (yH js ρ) w (us++yH js ρ) b λy c=>c=b/\y=(F w).map .d)/\R (.d (.list (ws.filterMap F))) b
def zaE{rest ρ:WS}(b:ρ.length=n+rest.length)(a:ρ.drop n=rest):∃us:WS,us.length=n/\ρ=us++rest:=⟨ρ.take n,by rw[lX];lia,by rw[<-a,List.take_append_drop]⟩
abbrev zM{α:Type}(f:Str)(v:α):List (Str×α)->List (Str×α)
 |[]=>[(f,v)]
 |(g,x)::r=>if g=f then(g,v)::r else(g,x)::zM f v r
def zen{Γ:Gh}{f:Str}{w:W}(r:relW K Γ w v){fs:List (Str×W)}{vs:List (Str×V)}(h:zX K Γ fs vs):zX K Γ (zM f w fs) (xL f v vs):=by
 unfold zX at h ⊢;induction h with
 |nil=>exact .cons ⟨rfl,r⟩ .nil
 |cons a b ih=>
  rename_i p q g i;obtain⟨k,x⟩:=p;obtain⟨e,y⟩:=q;obtain⟨c,d⟩:=a;cases(show k=e from c);simp only[zM,xL];split
  .exact .cons ⟨rfl,r⟩ b
  .exact .cons ⟨rfl,d⟩ ih
abbrev uM:W->Option Key
 |.d (.int i)=>some (.inl i)
 |.d (.str x)=>some (.inr x)
 |_=>none
def QF{Γ:Gh}{w:W}{k:Key}(r:relW K Γ w v)(e:uM w=some k):v=kV k:=by
 cases w with
 |d x=>
  cases x<;>simp[uM]at e
  .subst e;exact r
  .subst e;exact r
 |own a=>cases e
 |row a i=>cases e
section
variable {κ α:Type}[DecidableEq κ]
abbrev zaF(kvs:List (κ×α))(k:κ):Option α:=(kvs.find? λa=>decide (a.1=k)).map (·.2)
abbrev ud(kvs:List (κ×α))(k:κ)(v:α):List (κ×α):=if(kvs.any λa=>decide (a.1=k))=true then kvs.map (λa=>if a.1=k then(a.1,v)else a)else kvs++[(k,v)]
abbrev jg(kvs more:List (κ×α)):List (κ×α):=more.foldl (λa b=>ud a b.1 b.2) kvs
end
def zgn{Γ:Gh}{k:Key}{kvs:List (Key×W)}{vs:List (Key×V)}(h:zX K Γ kvs vs):(zaF kvs k=none->vh vs k=none)/\∀w,zaF kvs k=some w->∃v,vh vs k=some v/\relW K Γ w v:=by
 unfold zX at h;induction h with
 |nil=>exact⟨λ_=>rfl,λw e=>by cases e⟩
 |cons a b ih=>
  rename_i p q i j;obtain⟨c,x⟩:=p;obtain⟨g,y⟩:=q;obtain⟨d,f⟩:=a;cases(show c=g from d);simp only[zaF,vh,nB]at ih ⊢;by_cases hk:c=k
  .simp[hk];exact f
  .simp only[hk,decide_false];exact ih
def zgo{Γ:Gh}{k:Key}{kvs:List (Key×W)}{vs:List (Key×V)}(h:zX K Γ kvs vs):(kvs.any λc=>decide (c.1=k))=vs.any λc=>decide (c.1=k):=by
 unfold zX at h;induction h with
 |nil=>rfl
 |cons a b ih=>rw[mY,mY,a.1,ih]
def JD{Γ:Gh}{k:Key}{w:W}(r:relW K Γ w v){kvs:List (Key×W)}{vs:List (Key×V)}(h:zX K Γ kvs vs):zX K Γ (ud kvs k w) (yU vs k v):=by
 unfold ud yU;rw[zgo h];split
 .have d:∀{kvs:List (Key×W)}{vs:List (Key×V)},zX K Γ kvs vs->zX K Γ (kvs.map λc=>if c.1=k then(c.1,w)else c) (vs.map λc=>if c.1=k then(c.1,v)else c):=λ{kvs vs} h=>by
   unfold zX at h ⊢;induction h with
   |nil=>exact .nil
   |cons a b ih=>
    rename_i p q j l;obtain⟨i,x⟩:=p;obtain⟨g,y⟩:=q;obtain⟨e,f⟩:=a;cases(show i=g from e);refine .cons ?_ ih;dsimp only;split
    .exact⟨rfl,r⟩
    .exact⟨rfl,f⟩
  exact d h
 .exact Paired.appP h (.cons ⟨rfl,r⟩ .nil)
def XJ{Γ:Gh}{more:List (Key×W)}{c:List (Key×V)}(g:zX K Γ more c):∀{kvs:List (Key×W)}{vs:List (Key×V)},zX K Γ kvs vs->zX K Γ (jg kvs more) (xT vs c):=by
 unfold jg xT;unfold zX at g;induction g with
 |nil=>exact λh=>h
 |cons a b ih=>rename_i p q j k;intro kvs vs h;obtain⟨i,x⟩:=p;obtain⟨f,y⟩:=q;obtain⟨d,e⟩:=a;cases(show i=f from d);exact ih (JD e h)
abbrev k6:List (TEW×TEW)->WS->OM->(List (W×W)->OM->Prop)->Prop
 |[],_,O,R=>R [] O
 |(Tk,Tv)::ts,ρ,O,R=>Tk ρ O λk a=>Tv ρ a λv b=>k6 ts ρ b λd c=>R ((k,v)::d) c
inductive RefPs (K:W.Frag):List (TE×TE)->List (TEW×TEW)->Prop
 |nil:RefPs K [] []
 |cons {d f:TE}{a c:TEW}{e:List (TE×TE)}{b:List (TEW×TEW)}:RefE K d a->RefE K f c->RefPs K e b->RefPs K ((d,f)::e) ((a,c)::b)
def zgp{i:List (TE×TE)}{g:List (TEW×TEW)}(h:RefPs K i g):∀Γ O H ρ σ,Sim K Γ O H->relR K Γ ρ σ->∀(Q:List (V×V)->Hp->Prop) (R:List (W×W)->OM->Prop),k6 g ρ O R->
  (∀Γ' f e ws vs,Le Γ Γ'->Sim K Γ' f e->Paired (λp q=>relW K Γ' p.1 q.1/\relW K Γ' p.2 q.2) ws vs->R ws f->Q vs e)->Uh i σ H Q:=by
 induction h with
 |nil=>intro Γ O H ρ σ S r Q R a k;exact k _ _ _ _ _ (Le.refl _) S .nil a
 |cons hk hv _ ih=>intro Γ O H ρ σ S r Q R a k;refine hk _ _ _ _ _ S r _ _ a λx D A w v b j t n=>?_;refine hv _ _ _ _ _ j (r.mono b) _ _ n λy E B I G c l u o=>?_;exact ih _ _ _ _ _ l (r.mono (b.trans c)) _ _ o λz F C ws vs d m rs s=>k _ _ _ _ _ ((b.trans c).trans d) m (.cons ⟨(t.mono c).mono d,u.mono d⟩ rs) s
abbrev KF:List (W×W)->Option (List (Key×W))
 |[]=>some []
 |(k,v)::ps=>match uM k,KF ps with
  |some k',some r=>some ((k',v)::r)
  |_,_=>none
def zgq{Γ:Gh}{c:List (W×W)}{vs:List (V×V)}(r:Paired (λp q=>relW K Γ p.1 q.1/\relW K Γ p.2 q.2) c vs):∀{kvs:List (Key×W)},KF c=some kvs->∃us:List (Key×V),vs=us.map (λd=>(kV d.1,d.2))/\zX K Γ kvs us:=by
 induction r with
 |nil=>intro kvs e;cases e;exact⟨[],rfl,.nil⟩
 |cons a b ih=>
  rename_i p q c o;intro kvs e;obtain⟨k,v⟩:=p;obtain⟨l,n⟩:=q;simp only[KF]at e;split at e
  .rename_i m s f g;cases e;obtain⟨us,h,i⟩:=ih g;have j:=QF (show relW K Γ k l from a.1) f;exact⟨(m,n)::us,by rw[h,j];rfl,.cons ⟨rfl,a.2⟩ i⟩
  .cases e
abbrev KG(b:List (TEW×TEW)):TEW:=λρ O R=>∀p,O p=none->k6 b ρ (updO O p (.dK [])) λc a=>a p=some (.dK [])/\∃kvs,KF c=some kvs/\kvs.length<=15/\R (.own p) (updO a p (.dK (jg [] kvs)))
def Vo{g:List (TE×TE)}{c:List (TEW×TEW)}(h:RefPs K g c):RefE K (zjI g) (KG c):=by
 intro Γ O H ρ σ S r Q R m k p f;have i:=S.newO f (o:=.dK []) (oo:=.dK []) (by intro _ h;cases h) ⟨[],zu,.nil⟩;refine zgp h _ _ _ _ _ i r _ _ (m p (S.free f).2.1) λv x w ws vs q b rs a=>?_;obtain⟨e,kvs,j,n,a⟩:=a;obtain⟨us,l,d⟩:=zgq rs j;obtain⟨_,u,s,t⟩:=b.o _ _ e;cases t;refine⟨s,us,l,by rw[<-lJ d];exact n,?_⟩;exact k _ _ _ _ _ q (b.put (oo:=.dK _) e (by intro _ h;cases h) (by intro _ h;cases h) ⟨_,zu,XJ d .nil⟩) yf a
abbrev tyW(T:String)(O:OM)(w:W):Prop:=(T= "list"/\(seqL O w).isSome=true)\/(T= "str"/\∃z,w=.d (.str z))\/(T= "dict"/\∃a kvs,w=.own a/\O a=some (.dK kvs))
def zjK{Γ:Gh}{O:OM}{T:String}{w:W}(S:Sim K Γ O H)(r:relW K Γ w v)(h:tyW T O w):tyV K T v H:=by
 rcases h with⟨rfl,h⟩|⟨rfl,z,rfl⟩|⟨rfl,a,kvs,rfl,h⟩
 .obtain⟨ws,e⟩:=nO.mp h;obtain⟨a,vs,rfl,b,_⟩:=z9 S r e;exact .inl ⟨rfl,vs,b⟩
 .rw[show v=.str z from r];rfl
 .cases(show v=.ref a from r);obtain⟨_,vs,b,_⟩:=S.o _ _ h;exact .inr (.inr (.inl ⟨rfl,.inl ⟨vs,b⟩⟩))
abbrev wBM(T:String)(rw:W->List W->OM->WK->Prop)(d:TEW)(c:TAW):TEW:=λρ O R=>d ρ O λx a=>tyW T a x/\c ρ a λe b=>rw x e b R
def zaG{T:String}{r:V->List V->Hp->VK->Prop}{rw:W->List W->OM->WK->Prop}{i:TE}{c:TEW}{t:TA}{b:TAW}(p:RefM K T r rw)(o:RefE K i c)(n:yQ K t b):RefE K (tBM K T r i t) (wBM T rw c b):=by
 intro Γ O H ρ σ S g Q R m k;refine o _ _ _ _ _ S g _ _ m λs D A x v e a h d=>?_;refine⟨zjK a h d.1,n _ _ _ _ _ a (g.mono e) _ _ d.2 λy E B ws vs f j rs l=>?_⟩;exact p _ _ _ _ _ _ _ j (h.mono f) rs _ _ l λz F C w u q=>k _ _ _ _ _ ((e.trans f).trans q)
abbrev zaH(T:String)(rw:W->List W->OM->WK->Prop)(b:TEW):TEW:=λρ O R=>b ρ O λx a=>tyW T a x/\rw x [] a R
def QG{T:String}{r:V->List V->Hp->VK->Prop}{rw:W->List W->OM->WK->Prop}{e:TE}{b:TEW}(h:RefM K T r rw)(g:RefE K e b):RefE K (zhV K T r e) (zaH T rw b):=by
 intro Γ O H ρ σ S l Q R f k;refine g _ _ _ _ _ S l _ _ f λm q o x v i a d c=>?_;exact⟨zjK a d c.1,h _ _ _ _ _ _ _ a d .nil _ _ c.2 λn s p w u j=>k _ _ _ _ _ (i.trans j)⟩
abbrev jh(O:OM)(o w:W):Option OM:=match o with
 |.own a=>match O a with
  |some (.lst ws)=>if ws.length<1000 then some (updO O a (.lst (ws++[w])))else none
  |some (.grid rows)=>match w with
   |.own b=>match O b with
    |some (.lst us)=>if rows.length<1000 then(zZ us).map λds=>updO (del O b) a (.grid (rows++[ds]))else none
    |_=>none
   |_=>none
  |_=>none
 |_=>none
abbrev ja:W->List W->OM->WK->Prop:=λx ws O R=>∃w a,ws=[w]/\jh O x w=some a/\R (.d .none) a
def Vp{T:String}:RefM K T Xe ja:=by
 rintro Γ O H x v q vs S n rs Q R ⟨w,p,rfl,e,h⟩ k;cases rs with
 |cons rw t=>
  cases t;rename_i u;cases x with
  |d _=>cases e
  |row _ _=>cases e
  |own a=>
   cases(show v=.ref a from n);simp only[jh]at e;split at e
   .rename_i ws c;split at e
    .rename_i l;cases e;obtain⟨_,us,g,f⟩:=S.o _ _ c;refine⟨a,us,u,rfl,rfl,g,by rw[<-lJ f];exact qk ⋯,?_⟩;exact k _ _ _ _ _ (Le.refl _) (S.put (oo:=.lst _) c (by intro _ h;cases h) (by intro _ h;cases h) ⟨_,zu,Paired.appP f (.cons rw .nil)⟩) vS h
    .cases e
   .rename_i rows c;split at e
    .rename_i b;cases(show u=.ref b from rw);split at e
     .rename_i us i;split at e
      .rename_i l;cases hd:zZ us with
       |none=>rw[hd]at e;cases e
       |some ds=>rw[hd]at e;cases e;rw[xa hd]at i;obtain⟨_,rs,j,_⟩:=S.o _ _ c;obtain⟨g,f,Γ',m,S'⟩:=S.absorb c j i;refine⟨a,_,.ref b,rfl,rfl,g,by rw[l8,f];exact qk ⋯,?_⟩;exact k _ _ _ _ _ m S' vS h
      .cases e
     .cases e
    .cases e
   .cases e
abbrev zjL(t:TA):TE:=K8 t
def yg{t:TA}(h:QA X es t):PE X (.List es pos) (zjL t):=zf1 h.pa
abbrev KH(T:TAW):TEW:=λρ O R=>T ρ O λws a=>ws.length<=1000/\∀p,a p=none->R (.own p) (updO a p (.lst ws))
def Vq{t:TA}{T:TAW}(h:yQ K t T):RefE K (zjL t) (KH T):=by
 intro Γ O H ρ σ S g Q R d k;refine h Γ O H ρ σ S g _ _ d λi l j ws vs f b rs a=>?_;refine⟨by rw[<-lJ rs];exact Xj a.1,λp e=>?_⟩;obtain⟨c,S'⟩:=k5 b rs e;exact k _ _ _ _ _ f S' yf (a.2 p c)
abbrev zmI(K:W.Frag):List V->Hp->VK->Prop:=rLo K
def zmJ(h:X.K=K):yj X (.type "list") (zmI K):=Ue h
def zic:RefC K (rLo K) jf:=zkM
def zeo:RefC K (zmI K) Yg:=zkN
abbrev wCs(vs:List V):TAW:=λ_ O R=>R (vs.map ofV) O
def zaI(h:vs.all scV=true:=by rfl):yQ K (tCs vs) (wCs vs):=λΓ O H ρ σ S r Q R a k=>k _ _ _ _ _ (Le.refl _) S (Vb h) a
abbrev tyD:PyData->Option String
 |.none=>some "NoneType"
 |.bool _=>some "bool"
 |.int _=>some "int"
 |.str _=>some "str"
 |_=>none
abbrev isI:String->String->Option Bool
 |"int","int"=>some true
 |"int","bool"=>some false
 |"int","str"=>some false
 |"bool","int"=>some true
 |"bool","bool"=>some true
 |"bool","str"=>some false
 |"str","int"=>some false
 |"str","bool"=>some false
 |"str","str"=>some true
 |"NoneType","int"=>some false
 |"NoneType","bool"=>some false
 |"NoneType","str"=>some false
 |_,_=>none
def zkP{a b:String}{c:Bool}(h:isI a b=some c):W.kitOne K (.type a) (.type b)=some c:=by
 unfold isI at h;split at h<;>first|(cases h;rfl)|cases h
abbrev zmK(K:W.Frag):List V->Hp->VK->Prop:=λa H Q=>∃x n t b,a=[x,.ty n]/\TyOf K H x t/\W.kitOne K t (.type n)=some b/\Q (.bl b) H
def Yp(h:X.K=K):yj X (.builtin "isinstance") (zmK K):=by subst h;exact zcu
abbrev Vr(n:String)(c:TEW):TEW:=λρ O R=>c ρ O λx a=>∃d s b,x=.d d/\tyD d=some s/\isI s n=some b/\R (.d (.bool b)) a
def zc4{n:String}{g:TE}{f:TEW}(h:RefE K g f):RefE K (tCB (zmK K) (Xb g (Xb (tC (.ty n)) Zq))) (Vr n f):=by
 intro Γ O H ρ σ S r Q R m k;refine h _ _ _ _ _ S r _ _ m λq t i x v o j c e=>?_;obtain⟨d,s,b,rfl,a,l,e⟩:=e;have p:TyOf K i v (.type s):=by
  cases d<;>simp[tyD]at a
  .subst a;rw[show v=_ from c];exact .non
  .subst a;rw[show v=_ from c];exact .bl _
  .subst a;rw[show v=_ from c];exact .int _
  .subst a;rw[show v=_ from c];exact .str _
 exact⟨v,n,_,b,rfl,p,zkP l,k _ _ _ _ _ o j yT e⟩
/---/abbrev TOW:=WS->OM->(Option Int->OM->Prop)->Prop
abbrev Yq(K:W.Frag)(t:TO)(T:TOW):Prop:=∀Γ O H ρ σ,Sim K Γ O H->relR K Γ ρ σ->∀(Q:Option Int->Hp->Prop) (R:Option Int->OM->Prop),T ρ O R->(∀Γ' c a b,Le Γ Γ'->Sim K Γ' c a->R b c->Q b a)->t σ H Q
abbrev Xl:TOW:=λ_ O R=>R none O
abbrev KI(T:TEW):TOW:=λρ O R=>T ρ O λx a=>∃i,x=.d (.int i)/\R (some i) a
def Zy:Yq K zcW Xl:=λΓ O H ρ σ S r Q R a k=>k _ _ _ _ (Le.refl _) S a
def Vs{t:TE}{T:TEW}(h:RefE K t T):Yq K (zjF t) (KI T):=by
 intro Γ O H ρ σ S r Q R c k;refine h _ _ _ _ _ S r _ _ c λf j g x v d b e a=>?_;obtain⟨i,rfl,a⟩:=a;exact⟨i,e,k _ _ _ _ d b a⟩
abbrev ji{α:Type}(a:List α)(lo b:Option Int):List α:=(a.drop (HT.sIx a.length 0 lo)).take (HT.sIx a.length a.length b-HT.sIx a.length 0 lo)
def zid{Z:Hp}(h:Reps K Z ds vs)(lo a:Option Int):Reps K Z (ji ds lo a) (kh vs lo a):=by
 have c:relWs K ⟨Z,λ_=>none,λ_=>none⟩ (ds.map .d) vs:=yk h;have b:=Reps.length h;have:=Paired.takeP (Paired.dropP c (HT.sIx vs.length 0 lo)) (HT.sIx vs.length vs.length a-HT.sIx vs.length 0 lo);rw[<-List.map_drop,<-List.map_take]at this;unfold ji kh;rw[b];exact zz this
abbrev zaJ:R2W:=λx y O R=>∃ws us ds es,seqL O x=some ws/\seqL O y=some us/\zZ ws=some ds/\zZ us=some es/\ds.length+es.length<=10000000/\R (.d (.list (ds++es))) O
def Vt{Z:Hp}:∀{ds es:List PyData}{vs us:List V},Reps K Z ds vs->Reps K Z es us->Reps K Z (ds++es) (vs++us)
 |[],_,_,_,h,g=>by rw[show _=[]from h];exact g
 |d::ds,_,_,_,h,g=>by obtain⟨x,r,rfl,a,b⟩:=h;exact⟨x,_,rfl,a,Vt b g⟩
def zep:RefR K (zh1 K) zaJ:=by
 rintro Γ O H x y v u S s t Q R ⟨ws,us,ds,es,g,i,j,l,z,h⟩ k;obtain⟨a,vs,rfl,q,e⟩:=z9 S s g;obtain⟨b,w,rfl,o,c⟩:=z9 S t i;rw[xa j]at e;rw[xa l]at c;have f:=zz e;have d:=zz c;refine⟨a,b,vs,w,rfl,rfl,q,o,by rw[<-Reps.length f,<-Reps.length d,lI];lia,λp m=>?_⟩;obtain⟨Γ',n,S',r⟩:=k4 S (Vt f d) m;exact k _ _ _ _ _ n S' r h
abbrev wIn(a:Bool):R2W:=λx y O R=>∃d ds,x=.d d/\seqD O y=some ds/\scD d=true/\ds.all scD=true/\R (.d (.bool (if a then !inV (vOf d) (ds.map vOf)else inV (vOf d) (ds.map vOf)))) O
def zc5{Z:Hp}:∀{ds:List PyData}{vs:List V},Reps K Z ds vs->ds.all scD=true->vs=ds.map vOf
 |[],_,h,_=>h
 |d::ds,_,h,a=>by obtain⟨x,r,rfl,b,c⟩:=h;simp at a;rw[kY b a.1,zc5 c (by simpa using a.2)];rfl
def zc6{d:PyData}(h:scD d=true):qX (vOf d)=true:=by cases d<;>first|rfl|simp[scD]at h
abbrev zmL(K:W.Frag)(a:Bool):R2:=rIn K a
def zeq(h:X.K=K):OpR X (compareOp .In) (zmL K false):=by subst h;exact zf5
def zie{b:Bool}:RefR K (zmL K b) (wIn b):=by
 rintro Γ O H x y v u S m n Q R ⟨d,ds,rfl,e,g,c,h⟩ k;obtain⟨a,vs,rfl,j,l⟩:=Qw S n e;have i:=kY m g;have f:=zc5 l c;subst i f;refine⟨a,_,rfl,j,zc6 g,?_,k _ _ _ _ _ (Le.refl _) S yT h⟩;rw[List.all_map];simp only[mZ]at c ⊢;exact λz hz=>zc6 (c z hz)
abbrev Xm:R2W:=λx y O R=>∃i j,x=.d (.str i)/\y=.d (.str j)/\i.length+j.length<=sizeLine/\R (.d (.str (i++j))) O
def zaK:RefR K (λx y H Q=>∃i j,x=.str i/\y=.str j/\i.length+j.length<=sizeLine/\Q (.str (i++j)) H) Xm:=by
 rintro Γ O H x y v u S b c Q R ⟨i,j,rfl,rfl,a,h⟩ k;exact⟨i,j,b,c,a,k _ _ _ _ _ (Le.refl _) S vR h⟩
abbrev zmM(c:TI)(n:Nat)(js:List Nat)(g:TG)(b:TT)(a:TE):TE:=tLc c n js g b a
abbrev zmN(c:TI)(n:Nat)(js:List Nat)(g:TG)(b:TT)(a:TE):TE:=tLc c n js g b a
section
variable {js:List Nat}{scope:Scope}{cl:List (Str×Addr)}{elt iter:Expr}{ifs:List Expr}{wi:TI}{g:TG}{tt:TT}{te:TE}
def zmO(L:LcOk X N n js scope cl)(d:X.calm=true)(h:PI X tg iter wi)
  (f:∀C c b a,PG (z7 X N scope cl C c b a) tg g)(j:∀C c b a,PTs (z7 X N scope cl C c b a) ifs tt)(e:∀C c b a,PE (z7 X N scope cl C c b a) elt te)
  (i:∀x,foldedSetIterable iter X.env x=pure x:=by intro _;rfl):PE X (.ListComp elt [⟨tg,iter,ifs,0⟩] scope pos) (zmM wi n js g tt te):=v1 L d h f j e i
def zmP(L:LcOk X N n js scope cl)(d:X.calm=true)(h:PI X tg iter wi)
  (f:∀C c b a,PG (z7 X N scope cl C c b a) tg g)(j:∀C c b a,PTs (z7 X N scope cl C c b a) ifs tt)(e:∀C c b a,PE (z7 X N scope cl C c b a) elt te)
  (i:∀x,foldedSetIterable iter X.env x=pure x:=by intro _;rfl):PE X (.ListComp elt [⟨tg,iter,ifs,0⟩] scope pos) (zmN wi n js g tt te):=v1 L d h f j e i
end
abbrev zer(e:TIW)(n:Nat)(js:List Nat)(G:TGW)(T:TTW)(E:TEW):TEW:=λρ O R=>e ρ O λws b a=>b a/\ws.length<=1000/\∃F:W->Option PyData,
 (∀w∈ws,∀us:WS,us.length=n->bodyW G T E n (yH js ρ) w (us++yH js ρ) a λy c=>c=a/\y=(F w).map .d)/\∀p,a p=none->R (.own p) (updO a p (.lst ((ws.filterMap F).map .d)))
abbrev zes(f:TIW)(n:Nat)(js:List Nat)(G:TGW)(T:TTW)(E:TEW):TEW:=λρ O R=>f ρ O λws c a=>c a/\ws.length<=1000/\∃F:W->List PyData,
 (∀w∈ws,∀us:WS,us.length=n->bodyW G T E n (yH js ρ) w (us++yH js ρ) a λy e=>∃b,a b=none/\y=some (.own b)/\e=updO a b (.lst ((F w).map .d)))/\∀p,a p=none->R (.own p) (updO a p (.grid (ws.map F)))
def zkQ{a:TE}{f:Str}(b:X.K=K)(d:PE X e a)(c:attributeBase e f X.env (eval e X.env)=eval e X.env):PE X (.Attribute e f pos) (zd0 K a f):=by
 subst b;exact zme d c
def zkR{o a:Expr}{c d:TE}{f:Str}{b:Pos}(e:X.K=K)(g:PE X o c)(i:PE X a d)(h:swapsWith a (some (.Attribute o f b)) pos.line X.env=pure false):PS X (.Assign [.Attribute o f b] a pos) (zd1 K c d f):=by
 subst e;exact zmf g i h
def zt(a:X.K=K):IxR X (zhT K):=by subst a;exact zml
def xu{l:Expr}{a:TE}(b:X.K=K)(c:PE X l a):PI X tg l (zdT K a):=by subst b;exact zkk c
def QH{l:Expr}{a:TE}(b:X.K=K)(c:PE X l a):PI X tg l (zhI K a):=by subst b;exact zl9 c
def zaL{k:Nat}{g:Pos}{l:Expr}{a:TA}{p:Pos}(b:X.K=K)(d:Gl X "enumerate")(e:X.mg "enumerate" =none)(c:PA X [l] a)(f:starEach [l] X.env=[(false,eval l X.env)]:=by rfl) :
  PI X (.Tuple es k g) (.Call (.Name "enumerate" p) [l] [] pos) (zec K a):=by subst b;exact zkF d e c f
def QI{k:Nat}{t:TGs}(b:X.K=K)(c:X.calm=true)(h:PGs X es t)
  (d:(assignEach es X.env).length=n:=by rfl)(a:(assignEach es X.env).findIdx? (·.1)=none:=by rfl):PG X (.Tuple es k pos) (zhH K n t):=by subst b;exact zl6 c h d a
section
variable {T:String}{name:Str}{id:String}{r:V->List V->Hp->VK->Prop}{o:Expr}{to:TE}{t:TA}{apos cpos:Pos}
def zc7(d:X.K=K)(g:PlainAttrs T)(slot:Slot T name id)(c:typeOf (.builtin id)=pure (.type "method_descriptor"))(e:MtR X id r)(f:PE X o to)
  (a:attributeBase o name X.env (eval o X.env)=eval o X.env:=by rfl)(b:(apos.endLine==cpos.line)=true:=by rfl):PE X (.Call (.Attribute o name apos) [] [] cpos) (zhV K T r to):=by subst d;exact zmn g slot c e f a b
def yz(g:X.K=K)(l:PlainAttrs T)(slot:Slot T name id)(f:typeOf (.builtin id)=pure (.type "method_descriptor"))(i:MtR X id r)(j:PE X o to)(h:PA X (e::es) t)
  (b:attributeBase o name X.env (eval o X.env)=eval o X.env:=by rfl)
  (d:((backTo cpos (starEach (e::es) X.env)).all (λx=>!x.1)&&(backToKw cpos (keywordEach [] X.env)).all (λx=>x.1.isSome)&&decide ((e::es).length+([]:List Keyword).length+(if([]:List Keyword).isEmpty then 0 else 1)<30))=true:=by rfl)
  (c:(apos.endLine==cpos.line)=true:=by rfl)(k:starEach (e::es) X.env=(false,eval e X.env)::starEach es X.env:=by rfl)(a:(backTo cpos (starEach es X.env)).any (·.1)=false:=by rfl) :
  PE X (.Call (.Attribute o name apos) (e::es) [] cpos) (tBM K T r to t):=by subst g;exact zoe l slot f i j h b d c k a
end
abbrev zjM(K:W.Frag):List V->Hp->VK->Prop:=λb H Q=>∃p a,b=[.ref p]/\(SqL K H p a\/SqT K H p a)/\Q (.int a.length) H
def xI(a:X.K=K):yj X (.builtin "len") (zjM K):=by subst a;exact zad
def zaM:RefC K (zjM K) Vf:=zoj
abbrev zjN(K:W.Frag):List V->Hp->VK->Prop:=λb H Q=>∃p a,b=[.ref p]/\((SqL K H p a/\∀l,H l=none->Q (.ref l) (upd H l (.tup a)))\/(SqT K H p a/\Q (.ref p) H))
def zgr(a:X.K=K):yj X (.type "tuple") (zjN K):=by subst a;exact J5
def zaN:RefC K (zjN K) Yh:=zkO
abbrev zjO(K:W.Frag)(b:TE):TT:=λσ H Q=>b σ H λx a=>∃k,K6 K x a k/\Q k a
def qm{a:Expr}{b:TE}(c:X.K=K)(d:PE X a b)(e:∀whole,isTrue a X.env whole=(do let v<-whole;standAt a.pos;holding [v] (truthy v))):PT X a (zjO K b):=by
 subst c;exact zhL d e
def Vu{t:TE}{T:TEW}(h:RefE K t T):xt K (zjO K t) (Qs T):=zkL h
def zgs(a:X.K=K)(b:X.A.units+64<cLine):OpR X (compareOp .Eq) (zea K):=by subst a;exact zmw b
def vx(a:X.K=K)(b:X.A.units+64<cLine):OpR X (compareOp .NotEq) (zhZ K):=by subst a;exact zmx b
def zmQ(a:X.K=K):SlR X (zhR K):=by subst a;exact zmj
def QJ:xt K zmt (λ_ O R=>R true O):=λΓ O H ρ σ S r Q R a k=>k _ _ _ _ (Le.refl _) S a
abbrev wCR(a:Addr):TEW:=λ_ O R=>R (.own a) O
def zaO:RefE K (tC (.ref a)) (wCR a):=λΓ O H ρ σ S r Q R h k=>k _ _ _ _ _ (Le.refl _) S yf h
abbrev KJ(K:W.Frag)(e:TEW)(T:TAW):TEW:=λρ O R=>e ρ O λx b=>∃a D,x=.own a/\DK K a D/\T ρ b λws c=>∃i d,ws=[.d (.int i),.d (.int d)]/\R (.d (.int ((yV D i).getD d))) c
def Vv{j:TE}{t:TA}{f:TEW}{T:TAW}(p:RefE K j f)(h:yQ K t T):RefE K (zeh K j t) (KJ K f T):=by
 intro Γ O H ρ σ S r Q R n k;refine p _ _ _ _ _ S r _ _ n λs z w x v g l e b=>?_;obtain⟨a,D,rfl,o,b⟩:=b;refine⟨a,D,e,o,h _ _ _ _ _ l (r.mono g) _ _ b λu A y ws vs q m rs c=>?_⟩;obtain⟨i,d,rfl,c⟩:=c;cases rs with
 |cons e t=>cases t with
  |cons ry t=>cases t;exact⟨i,d,by rw[show _=V.int i from e,show _=V.int d from ry],k _ _ _ _ _ (g.trans q) m uL c⟩
def zaP{o:Expr}{h:TE}{t:TA}{c a:Pos}(i:X.K=K)(k:PE X o h)(j:PA X (e::es) t)
  (d:attributeBase o "get" X.env (eval o X.env)=eval o X.env:=by rfl)
  (g:((backTo a (starEach (e::es) X.env)).all (λx=>!x.1)&&(backToKw a (keywordEach [] X.env)).all (λx=>x.1.isSome)&&decide ((e::es).length+([]:List Keyword).length+(if([]:List Keyword).isEmpty then 0 else 1)<30))=true:=by rfl)
  (f:(c.endLine==a.line)=true:=by rfl)(l:starEach (e::es) X.env=(false,eval e X.env)::starEach es X.env:=by rfl)(b:(backTo a (starEach es X.env)).any (·.1)=false:=by rfl) :
  PE X (.Call (.Attribute o "get" c) (e::es) [] a) (zeh K h t):=by subst i;exact zkJ k j d g f l b
abbrev zet(e:TEW)(g f:TOW):TEW:=λρ O R=>e ρ O λx a=>g ρ a λl b=>f ρ b λu c=>∃ds,zU x=some ds/\¬(HT.sIx ds.length 0 l= 0/\HT.sIx ds.length ds.length u=ds.length)/\R (.d (.tuple (ji ds l u))) c
def QK{m:TE}{o n:TO}{f:TEW}{h g:TOW}(A:RefE K m f)(C:Yq K o h)(B:Yq K n g):RefE K (tSl (zhR K) m o n) (zet f h g):=by
 intro Γ O H ρ σ S r Q R z k;refine A _ _ _ _ _ S r _ _ z λM W T x v c q L w=>?_;refine C _ _ _ _ _ q (r.mono c) _ _ w λN X U l d s y=>?_;refine B _ _ _ _ _ s (r.mono (c.trans d)) _ _ y λP Y V u i e b=>?_;obtain⟨ds,t,E,b⟩:=b;obtain⟨a,vs,rfl,G,I⟩:=x9 e ((L.mono d).mono i) t;have j:=zz I;refine⟨a,vs,rfl,G,by rw[<-Reps.length j];exact E,λp D=>?_⟩;obtain⟨Γ',F,S',J⟩:=Yf e (zid j l u) D;exact k _ _ _ _ _ (((c.trans d).trans i).trans F) S' J b
def Yr{s:SpW}{t:TA}{T:TAW}(h:yQ K t T):RefE K (Zr (liftSp K s) [] E0 t) (vB s [] T):=Vc h
def Ys{s:SpW}{i:Int}{t:TA}{T:TAW}(h:yQ K t T):RefE K (Zr (liftSp K s) [.int i] E0 t) (vB s [.int i] T):=Vc h
def zpq{T U:TSW}{D:EndsW}{ρ:WS}{O:OM}(J:WS->OM->Prop)(c:∀R:WS->OM->Prop,(∀a b,J a b->R a b)->T { D with nx:=R } ρ O)(d:∀a b,J a b->U D a b):yR T U D ρ O:=c (U D) d
def zS.by{ws:List W}{b:OM->Prop}{G:TGW}{d:TSW}{D:EndsW}{ρ:WS}{O:OM}(Pv:Nat->WS->OM->Prop)(f:Pv 0 ρ O)(h:∀i ρ O,Pv i ρ O->b O)
  (j:∀i w ρ O,ws[i]? =some w->Pv i ρ O->∀R:WS->OM->Prop,(∀a c,Pv (i+1) a c->R a c)->G w ρ O λa c=>d { D with nx:=R,ct:=R,bk:=D.nx } a c)(g:∀ρ O,Pv ws.length ρ O->D.nx ρ O):zS ws b G d D ρ O:=
 ⟨Pv,f,h,λi w ρ O e p=>j i w ρ O e p _ λ_ _ z=>z,g⟩
def zS.rng{f:Nat->Int}{G:TGW}{c:TSW}{D:EndsW}{ρ:WS}{O:OM}(Pv:Nat->WS->OM->Prop)(k:Pv 0 ρ O)
    (o:∀i ρ O,i<n->Pv i ρ O->∀R:WS->OM->Prop,(∀a b,Pv (i+1) a b->R a b)->G (.d (.int (f i))) ρ O λa b=>c { D with nx:=R,ct:=R,bk:=D.nx } a b)(m:∀ρ O,Pv n ρ O->D.nx ρ O):zS ((List.range n).map λi=>.d (.int (f i))) (λ_=>True) G c D ρ O:=
  zS.by Pv k (fun _ _ _ _=>trivial) (fun i w ρ O e p R l=>by
    rw[lw]at e;cases hr:(List.range n)[i]? with
    |none=>rw[hr]at e;cases e
    |some j=>
      rw[hr]at e;cases e;obtain⟨g,h⟩:=lv.mp hr;simp at g h;subst h;exact o i ρ O g p R l) (λρ O p=>m ρ O (by simpa using p))
/---/abbrev PF:=Nat->Nat->Cel
abbrev genG(h w:Nat)(f:PF):List (List PyData):=(List.range h).map λi=>(List.range w).map λj=>celD (f i j)
def zaQ{h w:Nat}{f:PF}(a:i<h):(genG h w f)[i]? =some ((List.range w).map λj=>celD (f i j)):=by
 unfold genG;rw[lw,mO a];rfl
def Zz{h w:Nat}{f:PF}:(genG h w f).length=h:=by simp[genG]
abbrev setF(f:PF)(i j:Nat)(c:Cel):PF:=λa b=>if a=i/\b=j then c else f a b
def JE{α:Type}{f:Nat->α}{x:α}:((List.range n).map f).set i x=(List.range n).map λk=>if k=i then x else f k:=by
 apply o7;intro k;rw[List.getElem?_set];by_cases hk:k<n
 .simp[hk];by_cases e:i=k
  .subst e;simp[hk]
  .simp[e,Ne.symm e]
 .simp[hk]
  lia
def zif{h w:Nat}{f:PF}{j:Nat}{c:Cel}(k:i<h):(genG h w f).set i (((List.range w).map λj=>celD (f i j)).set j (celD c))=genG h w (setF f i j c):=by
 unfold genG;rw[JE,JE];refine nw λa d=>?_;by_cases e:a=i
 .subst e;simp only[p7,setF,true_and];refine nw λb g=>?_;by_cases eb:b=j<;>simp[eb]
 .simp[e,setF]
def jV{O:OM}{rows:List (List PyData)}(h:O p=some (.grid rows)):seqL O (.own p)=some ((List.range rows.length).map (.row p)):=by simp[seqL,h]
def zaR{O:OM}{h w:Nat}{f:PF}(b:O p=some (.grid (genG h w f)))(a:i<h):seqL O (.row p i)=some ((List.range w).map λj=>.d (celD (f i j))):=by
 simp[seqL,b,zaQ a]
def qo{α:Type}{f:Nat->α}{i:Int}(a:0<=i)(b:i<n):atI ((List.range n).map f) i=some (f i.toNat):=by
 obtain⟨k,rfl⟩:=lO a;refine uK ?_;rw[lw,mO ⋯];rfl
def Vw{O:OM}{h w:Nat}{f:PF}{k:Int}{c:Cel}(g:O p=some (.grid (genG h w f)))(a:i<h)(b:0<=k)(e:k<w):qw O (.row p i) k (.d (celD c))=some (updO O p (.grid (genG h w (setF f i k.toNat c)))):=by
 have hx:ixN ((List.range w).map λj=>celD (f i j)).length k=some k.toNat:=by unfold ixN;rw[l9 b,l9 (by simp;exact e)]
 simp only[qw,g,zaQ a,hx,nA,zif a]
def vT:OpR X (binaryOp .Mult) (rI IntMulOk λi j=>.int (i*j)):=opI λ_ _ _ _ _ _ _ a q=>mul_int q a
def mulL{a b:Int}(c:-1000000000000<=a)(d:a<=1000000000000):IntMulOk a b:=(zkx c d).ok
def mulR{a b:Int}(c:-1000000000000<=b)(d:b<=1000000000000):IntMulOk a b:=(zh0 c d).ok
abbrev Bt(m:Nat)(c:Int):Prop:=c.natAbs<2 ^ m
structure KP where
 row:Int
 col:Int
 late:Bool
 ink:Int
 wrap:Bool
 putting:Bool
 home:Bool
abbrev kpT(k:KP):PyData:=.tuple [.int k.row,.int k.col,.bool k.late,.int k.ink,.bool k.wrap,.bool k.putting,.bool k.home]
abbrev stK(ks:List Int):List (Key×W):=ks.map λi=>(Sum.inl i,W.d (.bool true))
structure ST where
 w:Nat
 h:Nat
 row:Int
 col:Int
 late:Bool
 ink:Int
 wrap:Bool
 putting:Bool
 home:Bool
 top:Int
 bottom:Int
 left:Int
 right:Int
 last:PyData
 pic:PF
 stops:List Int
 kept:List KP
abbrev fldW(p st a:Addr)(S:ST):List (Str×W):=[("picture",.own p),("wide",.d (.int S.w)),("high",.d (.int S.h)),("row",.d (.int S.row)),("column",.d (.int S.col)),("late",.d (.bool S.late)),("ink",.d (.int S.ink)),("wrap",.d (.bool S.wrap)),("putting",.d (.bool S.putting)),("home",.d (.bool S.home)),("top",.d (.int S.top)),("bottom",.d (.int S.bottom)),("left",.d (.int S.left)),("right",.d (.int S.right)),("stops",.own st),("kept",.own a),("last",.d S.last)]
section
variable {st kp q:Addr}{S:ST}
def ZA:(fldW p st kp S).length= 17:=rfl
def ya:(fldW p st kp S).lookup s!"picture"=some (W.own p):=rfl
def xc:(fldW p st kp S).lookup s!"wide"=some (W.d (.int S.w)):=rfl
def xf:(fldW p st kp S).lookup s!"high"=some (W.d (.int S.h)):=rfl
def xz:(fldW p st kp S).lookup s!"row"=some (W.d (.int S.row)):=rfl
def yn:(fldW p st kp S).lookup s!"column"=some (W.d (.int S.col)):=rfl
def yX:(fldW p st kp S).lookup s!"late"=some (W.d (.bool S.late)):=rfl
def xB:(fldW p st kp S).lookup s!"ink"=some (W.d (.int S.ink)):=rfl
def yY:(fldW p st kp S).lookup s!"wrap"=some (W.d (.bool S.wrap)):=rfl
def yb:(fldW p st kp S).lookup s!"putting"=some (W.d (.bool S.putting)):=rfl
def yZ:(fldW p st kp S).lookup s!"home"=some (W.d (.bool S.home)):=rfl
def xC:(fldW p st kp S).lookup s!"top"=some (W.d (.int S.top)):=rfl
def yo:(fldW p st kp S).lookup s!"bottom"=some (W.d (.int S.bottom)):=rfl
def y0:(fldW p st kp S).lookup s!"left"=some (W.d (.int S.left)):=rfl
def yC:(fldW p st kp S).lookup s!"right"=some (W.d (.int S.right)):=rfl
def yr:(fldW p st kp S).lookup s!"stops"=some (W.own st):=rfl
def y6:(fldW p st kp S).lookup s!"kept"=some (W.own kp):=rfl
def xD:(fldW p st kp S).lookup s!"last"=some (W.d S.last):=rfl
def xi{x:Int}:zM s!"row" (.d (.int x)) (fldW p st kp S)=fldW p st kp { S with row:=x }:=rfl
def yd{x:Int}:zM s!"column" (.d (.int x)) (fldW p st kp S)=fldW p st kp { S with col:=x }:=rfl
def yI{x:Bool}:zM s!"late" (.d (.bool x)) (fldW p st kp S)=fldW p st kp { S with late:=x }:=rfl
def xj{x:Int}:zM s!"ink" (.d (.int x)) (fldW p st kp S)=fldW p st kp { S with ink:=x }:=rfl
def yJ{x:Bool}:zM s!"wrap" (.d (.bool x)) (fldW p st kp S)=fldW p st kp { S with wrap:=x }:=rfl
def zY{x:Bool}:zM s!"putting" (.d (.bool x)) (fldW p st kp S)=fldW p st kp { S with putting:=x }:=rfl
def yK{x:Bool}:zM s!"home" (.d (.bool x)) (fldW p st kp S)=fldW p st kp { S with home:=x }:=rfl
def xm{x:Int}:zM s!"top" (.d (.int x)) (fldW p st kp S)=fldW p st kp { S with top:=x }:=rfl
def ye{x:Int}:zM s!"bottom" (.d (.int x)) (fldW p st kp S)=fldW p st kp { S with bottom:=x }:=rfl
def yL{x:Int}:zM s!"left" (.d (.int x)) (fldW p st kp S)=fldW p st kp { S with left:=x }:=rfl
def yt{x:Int}:zM s!"right" (.d (.int x)) (fldW p st kp S)=fldW p st kp { S with right:=x }:=rfl
def y7{x:PyData}:zM s!"last" (.d x) (fldW p st kp S)=fldW p st kp { S with last:=x }:=rfl
end
structure StAt (O:OM) (C x dx p st kp:Addr) (S:ST):Prop where
 x:O x=some (.ins C dx (fldW p st kp S))
 p:O p=some (.grid (genG S.h S.w S.pic))
 st:O st=some (.dK (stK S.stops))
 kp:O kp=some (.lst ((S.kept.map kpT).map .d))
def neW{O:OM}{o u:OO}(h:O a=some o)(h':O b=some u)(d:o≠u):a≠b:=by
 intro e;subst e;rw[h]at h';exact d (lV h')
section
variable {O O':OM}{x st kp:Addr}{S:ST}
def StAt.xp(s:StAt O C x dx p st kp S):x≠p:=neW s.x s.p (by intro h;cases h)
def StAt.xs(s:StAt O C x dx p st kp S):x≠st:=neW s.x s.st (by intro h;cases h)
def StAt.xk(s:StAt O C x dx p st kp S):x≠kp:=neW s.x s.kp (by intro h;cases h)
def StAt.ps(s:StAt O C x dx p st kp S):p≠st:=neW s.p s.st (by intro h;cases h)
def StAt.pk(s:StAt O C x dx p st kp S):p≠kp:=neW s.p s.kp (by intro h;cases h)
abbrev But(O O':OM)(x p:Addr):Prop:=∀b,b≠x->b≠p->O' b=O b
def But.refl:But O O x p:=λ_ _ _=>rfl
def But.trans{d e:OM}(a:But O d x p)(b:But d e x p):But O e x p:=λc f g=>(b c f g).trans (a c f g)
def But.ux{o:OO}:But O (updO O x o) x p:=λ_ h _=>ze h
def But.up{o:OO}:But O (updO O p o) x p:=λ_ _ h=>ze h
def StAt.fld(s:StAt O C x dx p st kp S){S':ST}(e:S'.w=S.w)(b:S'.h=S.h)(d:S'.pic=S.pic)(a:S'.stops=S.stops:=by rfl)(c:S'.kept=S.kept:=by rfl):StAt (updO O x (.ins C dx (fldW p st kp S'))) C x dx p st kp S':=
 ⟨zd,by rw[ze (Ne.symm s.xp),e,b,d];exact s.p,by rw[ze (Ne.symm s.xs),a];exact s.st,by rw[ze (Ne.symm s.xk),c];exact s.kp⟩
def StAt.pic(s:StAt O C x dx p st kp S){f:PF}:StAt (updO O p (.grid (genG S.h S.w f))) C x dx p st kp { S with pic:=f }:=
 ⟨by rw[ze s.xp];exact s.x,zd,by rw[ze (Ne.symm s.ps)];exact s.st,by rw[ze (Ne.symm s.pk)];exact s.kp⟩
end
structure Bds (S:ST):Prop where
 w1:1<=S.w
 w2:S.w<=24
 h1:1<=S.h
 h2:S.h<=12
 r0:0<=S.row
 r1:S.row<S.h
 c0:0<=S.col
 c1:S.col<S.w
 t0:0<=S.top
 tb:S.top<=S.bottom
 b1:S.bottom<S.h
 l0:0<=S.left
 lr:S.left<=S.right
 rr:S.right<S.w
 i0:0<=S.ink
 i1:S.ink<512
def yM{p q:Prop}[Decidable p][Decidable q]{a b:Prop}:(if p then(if q then a else b)else b)=(if p/\q then a else b):=by
 by_cases hp:p<;>by_cases hq:q<;>simp[hp,hq]
abbrev NumD:PyData->Prop
 |.none=>True
 |.int i=>0<=i/\i<=1000000
 |_=>False
def NumD.cs{n:PyData}(h:NumD n):n=.none\/∃i,n=.int i/\0<=i/\i<=1000000:=by
 cases n<;>first|exact .inl rfl|exact h.elim|exact .inr ⟨_,rfl,h.1,h.2⟩
abbrev oneD:PyData->Int
 |.int i=>if i>1 then i else 1
 |_=>1
def vV{n:PyData}:1<=oneD n:=by cases n<;>simp[oneD];split<;>lia
def Xn{n:PyData}(h:NumD n):oneD n<=1000000:=by
 rcases h.cs with rfl|⟨i,rfl,h0,h1⟩
 .decide
 .simp only[oneD];split<;>omega
abbrev qx:SpW:=λws O R=>∃n,ws=[.d n]/\NumD n/\R (.d (.int (oneD n))) O
abbrev sI1(P:Int->Prop)(f:Int->Int):SpW:=λws O R=>∃a,ws=[.d (.int a)]/\P a/\R (.d (.int (f a))) O
abbrev sI2(P:Int->Int->Prop)(f:Int->Int->Int):SpW:=λws O R=>∃a b,ws=[.d (.int a),.d (.int b)]/\P a b/\R (.d (.int (f a b))) O
abbrev sI3(P:Int->Int->Int->Prop)(f:Int->Int->Int->Int):SpW:=λws O R=>∃a b c,ws=[.d (.int a),.d (.int b),.d (.int c)]/\P a b c/\R (.d (.int (f a b c))) O
abbrev uN(n:PyData)(a b:Int):Int:=if b<a+oneD n-1 then b else a+oneD n-1
abbrev jj:SpW:=λws O R=>∃n a b,ws=[.d n,.d (.int a),.d (.int b)]/\NumD n/\R (.d (.int (uN n a b))) O
abbrev k7:SpW:=λws O R=>∃ns:List Int,∃k:Nat,ws=[.d (.list (ns.map .int)),.d (.int k)]/\R (.d (.int (ns.getD k 0))) O
abbrev Up:SpW:=λws O R=>∃n lo a,ws=[.d (.int n),.d (.int lo),.d (.int a)]/\R (.d (.bool (decide (lo<=n/\n<=a)))) O
abbrev zjP:SpW:=λws O R=>∃a b:Nat,ws=[.d (.int a),.d (.int b)]/\1<=a/\a<=24/\1<=b/\b<=12/\R (.d (.bool true)) O
abbrev xV(m:PyData)(a:Int):Int:=match m with
 |.int i=>if i= 0 then a else if a<i then a else i
 |_=>a
abbrev ue(n m:PyData)(a:Int):PyData:=if xV m a<oneD n then .none else .tuple [.int (oneD n-1),.int (xV m a-1)]
abbrev Xo:SpW:=λws O R=>∃n m s,ws=[.d n,.d m,.d (.int s)]/\NumD n/\NumD m/\R (.d (ue n m s)) O
abbrev dyeI(ink:Int)(n:PyData):Int:=match n with
 |.int i=>if i= 0 then 0
  else if 1<=i/\i<=3 then Builtin.bitOr ink ((yV [(0,64),(1,128),(2,256)] (i-1)).getD 0)
  else if 4<=i/\i<=6 then Builtin.bitAnd ink (Builtin.bitNot ((yV [(0,64),(1,128),(2,256)] (i-4)).getD 0))
  else if i= 7 then Builtin.bitXor ink 448
  else if 10<=i/\i<=17 then(i-10)+8*Builtin.bitAnd (ink / 8) 7+64*Builtin.bitAnd (ink / 64) 7
  else if 20<=i/\i<=27 then Builtin.bitAnd ink 7+8*(i-20)+64*Builtin.bitAnd (ink / 64) 7
  else ink
 |_=>0
abbrev Ink(i:Int):Prop:=0<=i/\i<512
abbrev jk:SpW:=sI3 (λa b c=>-1000<=b/\b<=1000/\-1000<=c/\c<=1000) (λa b c=>a+8*b+64*c)
abbrev KK:SpW:=λws O R=>∃ink n,ws=[.d (.int ink),.d n]/\Ink ink/\NumD n/\R (.d (.int (dyeI ink n))) O
abbrev eT(S:ST):Int:=if S.top<=S.row then S.top else 0
abbrev eB(S:ST):Int:=if S.row<=S.bottom then S.bottom else S.h-1
abbrev eL(S:ST):Int:=if S.left<=S.col then S.left else 0
abbrev eR(S:ST):Int:=if S.col<=S.right then S.right else S.w-1
abbrev plS(r c:PyData)(S:ST):ST:=if S.home=true then{ S with row:=uN r S.top S.bottom,col:=uN c S.left S.right,late:=false }else{ S with row:=uN r 0 (S.h-1),col:=uN c 0 (S.w-1),late:=false }
abbrev rowsS(a b:PyData)(S:ST):ST:=if xV b S.h<oneD a then S else plS .none .none { S with top:=oneD a-1,bottom:=xV b S.h-1 }
abbrev colsS(a b:PyData)(S:ST):ST:=if xV b S.w<oneD a then S else plS .none .none { S with left:=oneD a-1,right:=xV b S.w-1 }
abbrev blank(i:Int):Cel:=(s!" ",i)
abbrev atF(f:PF)(i j:Int):Cel:=f i.toNat j.toNat
abbrev mvP(f:PF)(ink t b l r c a:Int):PF:=λi j=>
 if t<=(i:Int)/\(i:Int)<=b/\l<=(j:Int)/\(j:Int)<=r then(if t<=i+c/\i+c<=b/\l<=j+a/\j+a<=r then atF f (i+c) (j+a)else blank ink)else f i j
abbrev mvS(t b l r c a:Int)(S:ST):ST:={ S with pic:=mvP S.pic S.ink t b l r c a }
inductive sSt (C:Addr) (a:List W) (b:ST->Prop) (f:ST->ST) (ws:List W) (O:OM) (R:WK):Prop
 |mk:∀x dx p st e S,ws=.own x::a->StAt O C x dx p st e S->b S->(∀c,StAt c C x dx p st e (f S)->But O c x p->R (.d .none) c)->sSt C a b f ws O R
inductive sEdges (C:Addr) (ws:List W) (O:OM) (R:WK):Prop
 |mk:∀x dx p st a S,ws=[.own x]->StAt O C x dx p st a S->R (.d (.tuple [.int (eT S),.int (eB S),.int (eL S),.int (eR S)])) O->sEdges C ws O R
inductive sBlankOf (C:Addr) (ws:List W) (O:OM) (R:WK):Prop
 |mk:∀x dx p st a S,ws=[.own x]->StAt O C x dx p st a S->R (.d (celD (blank S.ink))) O->sBlankOf C ws O R
abbrev sPlace(C:Addr):SpW:=λws O R=>∃r c,NumD r/\NumD c/\sSt C [.d r,.d c] (λ_=>True) (plS r c) ws O R
abbrev sHome(C:Addr):SpW:=sSt C [] (λ_=>True) (plS .none .none)
abbrev sRows(C:Addr):SpW:=λws O R=>∃a b,NumD a/\NumD b/\sSt C [.d a,.d b] (λ_=>True) (rowsS a b) ws O R
abbrev sCols(C:Addr):SpW:=λws O R=>∃a b,NumD a/\NumD b/\sSt C [.d a,.d b] (λ_=>True) (colsS a b) ws O R
abbrev dyeS(ns:List PyData)(S:ST):ST:={ S with ink:=ns.foldl dyeI S.ink }
abbrev sDye(C:Addr):SpW:=λws O R=>∃ns:List PyData,(∀n∈ns,NumD n)/\sSt C [.d (.tuple ns)] (λS=>Ink S.ink) (dyeS ns) ws O R
abbrev rollS(a s:Int)(S:ST):ST:=mvS a S.bottom S.left S.right s 0 S
abbrev PreR(a:Int)(S:ST):Prop:=Bds S/\0<=a/\a<=S.bottom
abbrev sRoll(C:Addr):SpW:=λws O R=>∃a s,-2000000<=s/\s<=2000000/\sSt C [.d (.int a),.d (.int s)] (PreR a) (rollS a s) ws O R
abbrev sRollD(C:Addr):SpW:=λws O R=>∃a s,-2000000<=s/\s<=2000000/\sSt C [.d (.int a),.d (.int s)] (PreR a) (rollS a (-s)) ws O R
abbrev lineS(s:Int)(S:ST):ST:=if S.top<=S.row/\S.row<=S.bottom then{ rollS S.row s S with late:=false }else{ S with late:=false }
abbrev sPutL(C:Addr):SpW:=λws O R=>∃n,NumD n/\sSt C [.d n] Bds (lineS (-(oneD n))) ws O R
abbrev sCutL(C:Addr):SpW:=λws O R=>∃n,NumD n/\sSt C [.d n] Bds (lineS (oneD n)) ws O R
abbrev cellsS(s:Int)(S:ST):ST:={ mvS S.row S.row S.col (eR S) 0 s S with late:=false }
abbrev sMvC(C:Addr):SpW:=λws O R=>∃s,-2000000<=s/\s<=2000000/\sSt C [.d (.int s)] Bds (cellsS s) ws O R
abbrev sPutC(C:Addr):SpW:=λws O R=>∃n,NumD n/\sSt C [.d n] Bds (cellsS (-(oneD n))) ws O R
abbrev leftS(S:ST):ST:={ S with col:=eL S,late:=false }
abbrev sLeft(C:Addr):SpW:=sSt C [] (λ_=>True) leftS
abbrev lineE(S:ST):ST:=let S1:=leftS S;if S1.row=S1.bottom then rollS S1.top 1 S1 else if S1.row<S1.h-1 then{ S1 with row:=S1.row+1 }else S1
abbrev sLineE(C:Addr):SpW:=sSt C [] Bds lineE
abbrev putS0(c:Str)(S:ST):ST:=
 let S1:ST:=if S.late=true/\S.wrap=true then lineE S else S
 let S2:ST:={ S1 with late:=false }
 let S3:ST:=if S2.putting=true then cellsS (-1) S2 else S2
 let S4:ST:={ S3 with pic:=setF S3.pic S3.row.toNat S3.col.toNat (c,S3.ink),last:=.str c }
 if S4.col<eR S4 then{ S4 with col:=S4.col+1 }else{ S4 with late:=S4.wrap }
abbrev sPutSign(C:Addr):SpW:=λws O R=>∃c,sSt C [.d (.str c)] Bds (putS0 c) ws O R
inductive sBlankRow (ws:List W) (O:OM) (R:WK):Prop
 |mk:∀(a:Nat) (i:Int),ws=[.d (.int a),.d (.int i)]->a<=24->(∀p,O p=none->R (.own p) (updO O p (.lst (((List.range a).map λ_=>celD (blank i)).map .d))))->sBlankRow ws O R
inductive sBlankPic (ws:List W) (O:OM) (R:WK):Prop
 |mk:∀(a b:Nat) (i:Int),ws=[.d (.int a),.d (.int b),.d (.int i)]->1<=a->a<=24->1<=b->b<=12->(∀p,O p=none->R (.own p) (updO O p (.grid (genG b a λ_ _=>blank i))))->sBlankPic ws O R
inductive sCopied (ws:List W) (O:OM) (R:WK):Prop
 |mk:∀p h w f,ws=[.own p]->O p=some (.grid (genG h w f))->h<=12->R (.d (.list ((genG h w f).map .list))) O->sCopied ws O R
abbrev stopsI(w:Nat):List Int:=(List.range ((w-1) / 4)).map λi=>(4+(i:Nat)*4:Int)
abbrev stopsW(w:Nat):List (Key×W):=stK (stopsI w)
inductive sStops (ws:List W) (O:OM) (R:WK):Prop
 |mk:∀a:Nat,ws=[.d (.int a)]->1<=a->a<=24->(∀p,O p=none->R (.own p) (updO O p (.dK (stopsW a))))->sStops ws O R
abbrev st0(w h:Nat)(f:PF):ST:=⟨w,h,0,0,false,0,true,false,false,0,h-1,0,w-1,.none,f,stopsI w,[]⟩
abbrev sBegin(C:Addr):SpW:=λws O R=>∃x dx p,∃w h:Nat,ws=[.own x]/\O x=some (.ins C dx [("picture",.own p),("wide",.d (.int w)),("high",.d (.int h))])/\1<=w/\w<=24/\
 ∀st c a,O st=none->O c=none->a x=some (.ins C dx (fldW p st c (st0 w h λ_ _=>blank 0)))->a st=some (.dK (stopsW w))->a c=some (.lst [])->(∀b,b≠x->b≠st->b≠c->a b=O b)->R (.d .none) a
inductive sInit (C:Addr) (ws:List W) (O:OM) (R:WK):Prop
 |mk:∀x dx,∀w h:Nat,ws=[.own x,.d (.int w),.d (.int h)]->O x=some (.ins C dx [])->1<=w->w<=24->1<=h->h<=12->(∀p st c a,O p=none->O st=none->O c=none->StAt a C x dx p st c (st0 w h λ_ _=>blank 0)->(∀b,b≠x->b≠p->b≠st->b≠c->a b=O b)->R (.d .none) a)->sInit C ws O R
def zig{i:Int}(h:Ink i):0<=Builtin.bitAnd (i / 8) 7/\Builtin.bitAnd (i / 8) 7<=7:=by
 obtain⟨n,rfl⟩:∃n:_root_.Fin 512,i=((n.val:Nat):Int):=⟨⟨i.toNat,by have:=h.1;have:=h.2;omega⟩,by have:=h.1;simp only;omega⟩;clear h;revert n;decide +kernel
def JF{i:Int}(h:Ink i):0<=Builtin.bitAnd (i / 64) 7/\Builtin.bitAnd (i / 64) 7<=7:=by
 obtain⟨n,rfl⟩:∃n:_root_.Fin 512,i=((n.val:Nat):Int):=⟨⟨i.toNat,by have:=h.1;have:=h.2;lia⟩,by have:=h.1;simp only;lia⟩;clear h;revert n;decide +kernel
def zaS{i:Int}{n:PyData}(h:Ink i):Ink (dyeI i n):=by
 cases n with
 |int k=>
  obtain⟨m,rfl⟩:∃m:_root_.Fin 512,i=((m.val:Nat):Int):=⟨⟨i.toNat,by have:=h.1;have:=h.2;lia⟩,by have:=h.1;simp only;lia⟩;by_cases hk:0<=k/\k<=27
  .obtain⟨q,rfl⟩:∃q:_root_.Fin 28,k=((q.val:Nat):Int):=⟨⟨k.toNat,⋯⟩,by simp only;lia⟩;clear h hk;unfold Ink;revert m q;decide +kernel
  .simp only[dyeI];rw[l7 ⋯,l7 ⋯,l7 ⋯,l7 ⋯,l7 ⋯,l7 ⋯];exact h
 |_=>exact⟨pR 0,(by decide:(0:Int)<512)⟩
def zih{h w:Nat}{f:PF}{k:Int}(a:0<=k)(b:k<h):atI (((genG h w f).map PyData.list).map W.d) k=some (.d (.list ((List.range w).map λj=>celD (f k.toNat j)))):=by
 unfold genG;rw[lT,lT];exact qo a b
def zaT{w:Nat}{g:Nat->Cel}{k:Int}(a:0<=k)(b:k<w):atI (((List.range w).map λj=>celD (g j)).map W.d) k=some (.d (celD (g k.toNat))):=by
 rw[lT];exact qo a b
abbrev goP(N f:PF)(t l:Int)(i j:Nat):PF:=λa b=>if(a:Int)<t+i\/((a:Int)=t+i/\(b:Int)<l+j)then N a b else f a b
def zaU{N f:PF}{t l:Int}(c:∀a b:Nat,(a:Int)<t\/((a:Int)=t/\(b:Int)<l)->N a b=f a b):goP N f t l 0 0 =f:=by
 funext a b;unfold goP;split
 .rename_i e;exact c a b ⋯
 .rfl
def zaV{N f:PF}{t l:Int}{j:Nat}{r c:Nat}(g:(r:Int)=t+i)(d:(c:Int)=l+j):setF (goP N f t l i j) r c (N r c)=goP N f t l i (j+1):=by
 funext a b;unfold setF goP;by_cases e:a=r/\b=c
 .obtain⟨rfl,rfl⟩:=e;rw[l9 ⟨rfl,rfl⟩,l9 ⋯]
 .rw[l7 e];by_cases e2:(a:Int)<t+i\/((a:Int)=t+i/\(b:Int)<l+j)
  .rw[l9 e2,l9 ⋯]
  .rw[l7 e2,l7 ⋯]
def zc8{N f:PF}{t l:Int}(d:∀a b:Nat,(a:Int)=t+i->l+n<=b->N a b=f a b)(c:∀a b:Nat,(a:Int)=t+i+1->(b:Int)<l->N a b=f a b):goP N f t l i n=goP N f t l (i+1) 0:=by
 funext a b;unfold goP;by_cases e2:(a:Int)<t+i\/((a:Int)=t+i/\(b:Int)<l+n)
 .rw[l9 e2,l9 ⋯]
 .rw[l7 e2];split
  .rename_i e;by_cases e4:(a:Int)=t+i
   .exact(d a b e4 ⋯).symm
   .exact(c a b ⋯ ⋯).symm
  .rfl
def zc9{N f:PF}{t l:Int}(c:∀a b:Nat,t+n<=a->N a b=f a b):goP N f t l n 0 =N:=by
 funext a b;unfold goP;split
 .rfl
 .rename_i e;by_cases e4:t+n<=a
  .exact(c a b e4).symm
  .exact absurd (.inl f!"i") e
def vW{f:PF}{ink t b l r c a:Int}{j:Nat}(h:¬(t<=(i:Int)/\(i:Int)<=b/\l<=(j:Int)/\(j:Int)<=r)):mvP f ink t b l r c a i j=f i j:=l7 h
def Uq{O:OM}:seqL O (.d (.list ds))=some (ds.map .d):=rfl
def KL{S:ST}(h:Bds S):0<=eL S/\eL S<S.w:=by
 have:=h.l0;have:=h.lr;have:=h.rr;have:=h.w1;unfold eL;split<;>lia
def jW{S:ST}(h:Bds S):S.col<=eR S/\eR S<S.w:=by
 have:=h.l0;have:=h.lr;have:=h.rr;have:=h.c1;unfold eR;split<;>lia
def Bds.left{S:ST}(h:Bds S):Bds (leftS S):={ h with c0:=(KL h).1,c1:=(KL h).2 }
def Bds.pic'{S:ST}{f:PF}(h:Bds S):Bds { S with pic:=f }:={ h with }
def Bds.late'{S:ST}{b:Bool}(h:Bds S):Bds { S with late:=b }:={ h with }
def Bds.roll{S:ST}{a s:Int}(h:Bds S):Bds (rollS a s S):={ h with }
def Bds.cells{S:ST}{s:Int}(h:Bds S):Bds (cellsS s S):={ h with }
def Bds.lineE{S:ST}(h:Bds S):Bds (lineE S):=by
 have a:=h.left;unfold L2.lineE;dsimp only;split
 .exact a.roll
 .split
  .rename_i b c;exact{ a with r0:=by have:=a.r0;simp only at *;lia,r1:=by simp only at *;lia }
  .exact a
abbrev pA(S:ST):ST:=if S.late=true/\S.wrap=true then lineE S else S
abbrev pB(S:ST):ST:={ S with late:=false }
abbrev pC(S:ST):ST:=if S.putting=true then cellsS (-1) S else S
abbrev pD(c:Str)(S:ST):ST:={ S with pic:=setF S.pic S.row.toNat S.col.toNat (c,S.ink) }
abbrev pE(c:Str)(S:ST):ST:={ S with last:=.str c }
abbrev pF(S:ST):ST:=if S.col<eR S then{ S with col:=S.col+1 }else{ S with late:=S.wrap }
def vJ(c:Str)(S:ST):putS0 c S=pF (pE c (pD c (pC (pB (pA S))))):=rfl
def Bds.pA{S:ST}(h:Bds S):Bds (pA S):=by unfold L2.pA;split;exact h.lineE;exact h
def Bds.pB{S:ST}(h:Bds S):Bds (pB S):=h.late'
def Bds.pC{S:ST}(h:Bds S):Bds (pC S):=by unfold L2.pC;split;exact h.cells;exact h
def Bds.pD{c:Str}{S:ST}(h:Bds S):Bds (pD c S):=h.pic'
def Bds.pF{S:ST}(h:Bds S):Bds (pF S):=by
 unfold L2.pF;split
 .rename_i e;have:=jW h;exact{ h with c0:=by have:=h.c0;simp only;lia,c1:=by simp only;lia }
 .exact h.late'
end L2
variable {O O':L2.OM}{S:L2.ST}{Γ:L2.Gh}{ws:List L2.W}{mq:L2.W->List L2.W->L2.OM->L2.WK->Prop}
namespace L2
open PySem
/---/abbrev FL:=List (Str×W)
section
variable {a0 a1 a2 a3 a4 a5 a6 a7 a8 a9 a10 a11 a12 a13 a14 a15 v:W}
def zpr:zM "picture" v []=([("picture",v)]:FL):=rfl
def zps:zM "wide" v [("picture",a0)]=([("picture",a0),("wide",v)]:FL):=rfl
def zpt:zM "high" v [("picture",a0),("wide",a1)]=([("picture",a0),("wide",a1),("high",v)]:FL):=rfl
def zpu:zM "row" v [("picture",a0),("wide",a1),("high",a2)]=([("picture",a0),("wide",a1),("high",a2),("row",v)]:FL):=rfl
def zpv:zM "column" v [("picture",a0),("wide",a1),("high",a2),("row",a3)]=([("picture",a0),("wide",a1),("high",a2),("row",a3),("column",v)]:FL):=rfl
def zpw:zM "late" v [("picture",a0),("wide",a1),("high",a2),("row",a3),("column",a4)]=([("picture",a0),("wide",a1),("high",a2),("row",a3),("column",a4),("late",v)]:FL):=rfl
def zpx:zM "ink" v [("picture",a0),("wide",a1),("high",a2),("row",a3),("column",a4),("late",a5)]=([("picture",a0),("wide",a1),("high",a2),("row",a3),("column",a4),("late",a5),("ink",v)]:FL):=rfl
def zpy:zM "wrap" v [("picture",a0),("wide",a1),("high",a2),("row",a3),("column",a4),("late",a5),("ink",a6)]=([("picture",a0),("wide",a1),("high",a2),("row",a3),("column",a4),("late",a5),("ink",a6),("wrap",v)]:FL):=rfl
def zpz:zM "putting" v [("picture",a0),("wide",a1),("high",a2),("row",a3),("column",a4),("late",a5),("ink",a6),("wrap",a7)]=([("picture",a0),("wide",a1),("high",a2),("row",a3),("column",a4),("late",a5),("ink",a6),("wrap",a7),("putting",v)]:FL):=rfl
def zpA:zM "home" v [("picture",a0),("wide",a1),("high",a2),("row",a3),("column",a4),("late",a5),("ink",a6),("wrap",a7),("putting",a8)]=([("picture",a0),("wide",a1),("high",a2),("row",a3),("column",a4),("late",a5),("ink",a6),("wrap",a7),("putting",a8),("home",v)]:FL):=rfl
def zok:zM "top" v [("picture",a0),("wide",a1),("high",a2),("row",a3),("column",a4),("late",a5),("ink",a6),("wrap",a7),("putting",a8),("home",a9)]=([("picture",a0),("wide",a1),("high",a2),("row",a3),("column",a4),("late",a5),("ink",a6),("wrap",a7),("putting",a8),("home",a9),("top",v)]:FL):=rfl
def zol:zM "bottom" v [("picture",a0),("wide",a1),("high",a2),("row",a3),("column",a4),("late",a5),("ink",a6),("wrap",a7),("putting",a8),("home",a9),("top",a10)]=([("picture",a0),("wide",a1),("high",a2),("row",a3),("column",a4),("late",a5),("ink",a6),("wrap",a7),("putting",a8),("home",a9),("top",a10),("bottom",v)]:FL):=rfl
def zom:zM "left" v [("picture",a0),("wide",a1),("high",a2),("row",a3),("column",a4),("late",a5),("ink",a6),("wrap",a7),("putting",a8),("home",a9),("top",a10),("bottom",a11)]=([("picture",a0),("wide",a1),("high",a2),("row",a3),("column",a4),("late",a5),("ink",a6),("wrap",a7),("putting",a8),("home",a9),("top",a10),("bottom",a11),("left",v)]:FL):=rfl
def zon:zM "right" v [("picture",a0),("wide",a1),("high",a2),("row",a3),("column",a4),("late",a5),("ink",a6),("wrap",a7),("putting",a8),("home",a9),("top",a10),("bottom",a11),("left",a12)]=([("picture",a0),("wide",a1),("high",a2),("row",a3),("column",a4),("late",a5),("ink",a6),("wrap",a7),("putting",a8),("home",a9),("top",a10),("bottom",a11),("left",a12),("right",v)]:FL):=rfl
def zjQ:zM "stops" v [("picture",a0),("wide",a1),("high",a2),("row",a3),("column",a4),("late",a5),("ink",a6),("wrap",a7),("putting",a8),("home",a9),("top",a10),("bottom",a11),("left",a12),("right",a13)]=([("picture",a0),("wide",a1),("high",a2),("row",a3),("column",a4),("late",a5),("ink",a6),("wrap",a7),("putting",a8),("home",a9),("top",a10),("bottom",a11),("left",a12),("right",a13),("stops",v)]:FL):=rfl
def zjR:zM "kept" v [("picture",a0),("wide",a1),("high",a2),("row",a3),("column",a4),("late",a5),("ink",a6),("wrap",a7),("putting",a8),("home",a9),("top",a10),("bottom",a11),("left",a12),("right",a13),("stops",a14)]=([("picture",a0),("wide",a1),("high",a2),("row",a3),("column",a4),("late",a5),("ink",a6),("wrap",a7),("putting",a8),("home",a9),("top",a10),("bottom",a11),("left",a12),("right",a13),("stops",a14),("kept",v)]:FL):=rfl
def zoo:zM "last" v [("picture",a0),("wide",a1),("high",a2),("row",a3),("column",a4),("late",a5),("ink",a6),("wrap",a7),("putting",a8),("home",a9),("top",a10),("bottom",a11),("left",a12),("right",a13),("stops",a14),("kept",a15)]=([("picture",a0),("wide",a1),("high",a2),("row",a3),("column",a4),("late",a5),("ink",a6),("wrap",a7),("putting",a8),("home",a9),("top",a10),("bottom",a11),("left",a12),("right",a13),("stops",a14),("kept",a15),("last",v)]:FL):=rfl
def zeu:List.lookup s!"begin" [("picture",a0),("wide",a1),("high",a2)]=none:=rfl
def zev:List.lookup s!"high" [("picture",a0),("wide",a1),("high",a2),("row",a3),("column",a4),("late",a5),("ink",a6),("wrap",a7),("putting",a8),("home",a9),("top",a10)]=some a2:=rfl
def zew:List.lookup s!"wide" [("picture",a0),("wide",a1),("high",a2),("row",a3),("column",a4),("late",a5),("ink",a6),("wrap",a7),("putting",a8),("home",a9),("top",a10),("bottom",a11),("left",a12)]=some a1:=rfl
def zex:List.lookup s!"wide" [("picture",a0),("wide",a1),("high",a2),("row",a3),("column",a4),("late",a5),("ink",a6),("wrap",a7),("putting",a8),("home",a9),("top",a10),("bottom",a11),("left",a12),("right",a13)]=some a1:=rfl
end
end L2
namespace L2
open PySem PySem.Spec PyProof.Rows
def zgt{κ α:Type}[DecidableEq κ]{kvs:List (κ×α)}{k:κ}{v:α}(h:k∉kvs.map (·.1)):ud kvs k v=kvs++[(k,v)]:=by
 unfold ud;rw[l7];intro e;rw[om]at e;obtain⟨c,a,b⟩:=e;exact h (lH.mpr ⟨c,a,by simpa using b⟩)
def Ur{κ α:Type}[DecidableEq κ]:∀{more kvs:List (κ×α)},((kvs++more).map (·.1)).Nodup->jg kvs more=kvs++more
 |[],kvs,_=>by simp[jg]
 |(k,v)::more,kvs,h=>by
  have a:k∉kvs.map (·.1):=by intro m;rw[lS,nu]at h;exact h.2.2 k m k m!"" rfl
  show jg (ud kvs k v) more=_;rw[zgt a,Ur (by simpa using h)];simp
def r3w{w:Nat}(a:1<=w)(b:w<=24):R3 4 w 4 ((w-1) / 4):=by
 have e:∀n:_root_.Fin 25,1<=n.val->(4:Int)≠0/\Builtin.Range.small 4 ((n.val:Nat):Int) 4 =true/\Builtin.Range.rangeSize 4 ((n.val:Nat):Int) 4 =(((n.val-1) / 4:Nat))/\Builtin.divisionGoesByPylong (((n.val:Nat):Int)-4) 4 =false:=f!""
 exact e ⟨w,f!"i"⟩ a
def zii{w:Nat}(a:w<=24):((stopsW w).map (·.1)).Nodup:=by
 have e:∀n:_root_.Fin 25,((List.range ((n.val-1) / 4)).map λi=>(Sum.inl (4+(i:Nat)*4:Int):Key)).Nodup:=f!""
 have:=e ⟨w,⋯⟩;unfold stopsW stK stopsI;rw[lT,lT];exact this
abbrev zgu(K:W.Frag):List V->Hp->VK->Prop:=zgf K
def zkS(a:X.K=K)(b:X.calm=true):yj X (.type "dict") (zgu K):=by subst a;exact zee b
abbrev uf:List PyData->Option (List (Key×PyData))
 |[]=>some []
 |.tuple [.int i,v]::r=>(uf r).map ((Sum.inl i,v) :: ·)
 |.tuple [.str i,v]::r=>(uf r).map ((Sum.inr i,v) :: ·)
 |_=>none
def ZB:∀{ds:List PyData}{kvs:List (Key×PyData)}{vs:List V},uf ds=some kvs->Reps K Γ.Z ds vs->∃us:List (Key×V),Uj K Γ.Z vs us/\zX K Γ (kvs.map λu=>(u.1,W.d u.2)) us
 |[],kvs,vs,e,h=>by cases e;rw[show vs=[]from h];exact⟨[],.nil,.nil⟩
 |d::ds,kvs,vs,e,h=>by
  obtain⟨x,r,rfl,s,t⟩:=h;unfold uf at e;split at e
  .rename_i b;cases b
  .rename_i i v w b;cases b;cases hp:uf ds with
   |none=>rw[hp]at e;cases e
   |some k2=>rw[hp]at e;cases e;obtain⟨us,k,l⟩:=ZB hp t;obtain⟨a,z,rfl,c,p,y,f,n,q,m,g,o,j⟩:=s;subst f g;rw[show m=[]from j]at c;rw[show p=.int i from n]at c;exact⟨(Sum.inl i,q)::us,.cons ⟨a,rfl,c⟩ k,.cons ⟨rfl,o⟩ l⟩
  .rename_i i v w b;cases b;cases hp:uf ds with
   |none=>rw[hp]at e;cases e
   |some k2=>rw[hp]at e;cases e;obtain⟨us,k,l⟩:=ZB hp t;obtain⟨a,z,rfl,c,p,y,f,n,q,m,g,o,j⟩:=s;subst f g;rw[show m=[]from j]at c;rw[show p=.str i from n]at c;exact⟨(Sum.inr i,q)::us,.cons ⟨a,rfl,c⟩ k,.cons ⟨rfl,o⟩ l⟩
  .cases e
abbrev zaW:List W->OM->WK->Prop:=λb O R=>∃w ds kvs,b=[w]/\seqL O w=some (ds.map .d)/\uf ds=some kvs/\kvs.length<=1000/\∀p,O p=none->R (.own p) (updO O p (.dK (jg [] (kvs.map λa=>(a.1,.d a.2)))))
def zda:RefC K (zgu K) zaW:=by
 rintro Γ O H m vs S rs Q R ⟨w,ds,kvs,rfl,e,ep,g,h⟩ k;cases rs with
 |cons rx t=>cases t;obtain⟨a,n,rfl,j,l⟩:=z9 S rx e;obtain⟨us,i,d⟩:=ZB ep (zz l);refine⟨a,n,us,rfl,j,i.keep λb m f=>f.same S.z,by rw[<-lJ d,l8];exact g,λp c=>?_⟩;have S':=S.newO c (o:=.dK (xT [] us)) (oo:=.dK _) (by intro _ h;cases h) ⟨_,zu,XJ d .nil⟩;exact k _ _ _ _ _ (Le.refl _) S' yf (h p (S.free c).2.1)
def Us{Z:Hp}:∀ns:List Int,Reps K Z (ns.map PyData.int) (ns.map V.int)
 |[]=>rfl
 |n::ns=>⟨_,_,rfl,rfl,Us ns⟩
def zey{kvs:List (Key×W)}{vs:List (Key×V)}(h:zX K Γ kvs vs):kvs.map (·.1)=vs.map (·.1):=by
 unfold zX at h;induction h with
 |nil=>rfl
 |cons a b ih=>rw[lG,lG,a.1,ih]
abbrev zO(i:Nat):TEW:=λρ O R=>match ρ[i]? with
 |some (some w)=>R w O
 |_=>False
def zaX:RefE K (zhE i) (zO i):=by
 intro Γ O H ρ σ S r Q R a k;unfold zO at a;split at a
 .rename_i w e;obtain⟨v,b,c⟩:=r.get e;exact⟨v,b,k _ _ _ _ _ (Le.refl _) S c a⟩
 .exact a.elim
abbrev vI0(g:Int->Int->V):R2W:=λx y O R=>match x,y with
 |.d (.int i),.d (.int j)=>R (ofV (g i j)) O
 |_,_=>False
abbrev vI(C:Int->Int->Prop)(g:Int->Int->V):R2W:=λx y O R=>match x,y with
 |.d (.int i),.d (.int j)=>C i j/\R (ofV (g i j)) O
 |_,_=>False
def zez{g:Int->Int->V}(a:∀i j,scV (g i j)=true:=by intro _ _;rfl):RefR K (rI0 g) (vI0 g):=by
 intro Γ O H x y v u S b c Q R h k;unfold vI0 at h;split at h
 .exact⟨_,_,b,c,k _ _ _ _ _ (Le.refl _) S (Xi (a _ _)) h⟩
 .exact h.elim
def zij{C:Int->Int->Prop}{g:Int->Int->V}(a:∀i j,scV (g i j)=true:=by intro _ _;rfl):RefR K (rI C g) (vI C g):=by
 intro Γ O H x y v u S b c Q R h k;unfold vI at h;split at h
 .exact⟨_,_,b,c,h.1,k _ _ _ _ _ (Le.refl _) S (Xi (a _ _)) h.2⟩
 .exact h.elim
abbrev vU(g:Int->V):W->OM->WK->Prop:=λx O R=>match x with
 |.d (.int i)=>R (ofV (g i)) O
 |_=>False
def zik{g:Int->V}(a:∀i,scV (g i)=true:=by intro _;rfl):RefU K (rU g) (vU g):=by
 intro Γ O H x v S b Q R h k;unfold vU at h;split at h
 .exact⟨_,b,k _ _ _ _ _ (Le.refl _) S (Xi (a _)) h⟩
 .exact h.elim
abbrev vEq:R2W:=λx y O R=>match x,y with
 |.d (.int i),.d (.int j)=>R (.d (.bool (decide (i=j)))) O
 |.d a,.d b=>scD a=true/\scD b=true/\XZ (vOf a) (vOf b)=true/\R (.d (.bool (decide (vOf a=vOf b)))) O
 |_,_=>False
abbrev vNe:R2W:=λx y O R=>match x,y with
 |.d (.int i),.d (.int j)=>R (.d (.bool (!decide (i=j)))) O
 |.d a,.d b=>scD a=true/\scD b=true/\XZ (vOf a) (vOf b)=true/\R (.d (.bool (!decide (vOf a=vOf b)))) O
 |_,_=>False
def zeA:RefR K rEq vEq:=by
 intro Γ O H x y v u S a b Q R h k;unfold vEq at h;split at h
 .rename_i i j;rw[show v=.int i from a,show u=.int j from b];refine⟨rfl,k _ _ _ _ _ (Le.refl _) S yT ?_⟩;rw[show decide (V.int i=V.int j)=decide (i=j)by simp];exact h
 .obtain⟨c,d,e,h⟩:=h;rw[kY a c,kY b d];exact⟨e,k _ _ _ _ _ (Le.refl _) S yT h⟩
 .exact h.elim
def zeB:RefR K rNe vNe:=by
 intro Γ O H x y v u S a b Q R h k;unfold vNe at h;split at h
 .rename_i i j;rw[show v=.int i from a,show u=.int j from b];refine⟨rfl,k _ _ _ _ _ (Le.refl _) S yT ?_⟩;rw[show decide (V.int i=V.int j)=decide (i=j)by simp];exact h
 .obtain⟨c,d,e,h⟩:=h;rw[kY a c,kY b d];exact⟨e,k _ _ _ _ _ (Le.refl _) S yT h⟩
 .exact h.elim
abbrev ZC:R2W:=λx y O R=>match y with
 |.d .none=>R (.d (.bool (Zu x))) O
 |_=>False
abbrev qf:R2W:=λx y O R=>match y with
 |.d .none=>R (.d (.bool (!Zu x))) O
 |_=>False
def zaY:RefR K (λx y H Q=>y=.non/\Q (.bl (decide (x=.non))) H) ZC:=by
 intro Γ O H x y v u S a b Q R h k;unfold ZC at h;split at h
 .refine⟨b,k _ _ _ _ _ (Le.refl _) S ?_ h⟩;rw[zau a];rfl
 .exact h.elim
def QL:RefR K (λx y H Q=>y=.non/\Q (.bl (!decide (x=.non))) H) qf:=by
 intro Γ O H x y v u S a b Q R h k;unfold qf at h;split at h
 .refine⟨b,k _ _ _ _ _ (Le.refl _) S ?_ h⟩;rw[zau a];rfl
 .exact h.elim
abbrev QM:R2W:=λx y O R=>match y with
 |.d (.int i)=>∃ws,seqL O x=some ws/\∃w,atI ws i=some w/\R w O
 |_=>False
def zaZ:RefR K (zhS K) QM:=by
 intro Γ O H x y v u S i j Q R h k;unfold QM at h;split at h
 .obtain⟨ws,e,w,b,h⟩:=h;obtain⟨a,vs,rfl,f,g⟩:=z9 S i e;obtain⟨z,c,d⟩:=Zv g b;exact⟨a,vs,_,z,rfl,j,f,c,k _ _ _ _ _ (Le.refl _) S d h⟩
 .exact h.elim
abbrev y9(T:TEW):TTW:=λρ O R=>T ρ O λx a=>match x with
 |.d (.bool k)=>R k a
 |_=>False
def Xp{t:TE}{T:TEW}(h:RefE K t T):xt K (Kr t) (y9 T):=by
 intro Γ O H ρ σ S e Q R c k;refine h Γ O H ρ σ S e _ _ c λg j i x v d b f a=>?_;split at a
 .exact⟨_,f,k _ _ _ _ d b a⟩
 .exact a.elim
def zeC{t:TE}{T:TEW}(h:RefE K t T):xt K (tB t) (y9 T):=Xp h
abbrev ug(r i:R2W)(f g h:TEW):TEW:=λρ O R=>f ρ O λx b=>g ρ b λy c=>r x y c λz a=>match z with
 |.d (.bool k)=>if k=true then h ρ a λw e=>i y w e R else R (.d (.bool false)) a
 |_=>False
def Vx{r A:R2}{rw d:R2W}{C D E:TE}{l m n:TEW}(hr:RefR K r rw)(e:RefR K A d)(X:RefE K C l)(Y:RefE K D m)(Z:RefE K E n):RefE K (K5 r A C D E) (ug rw d l m n):=by
 intro Γ O H ρ σ S f Q R h k;refine X Γ O H ρ σ S f _ _ h λg I F x v o L rx T=>?_;refine Y g I F ρ σ L (f.mono o) _ _ T λi J G y u p M B U=>?_;refine hr i J G x y v u M (rx.mono p) B _ _ U λzs O3 H3 w z s j rz b=>?_;split at b
 .rename_i c;refine⟨c,rz,?_⟩;have a:=(o.trans p).trans s;cases c with
  |true=>rw[l9 rfl]at b ⊢;refine Z _ _ _ _ _ j (f.mono a) _ _ b λys O4 H4 q z4 t N r4 V=>?_;exact e _ _ _ _ _ _ _ N (B.mono (s.trans t)) r4 _ _ V λxb O5 H5 w5 z5 l5 P r5 W=>k _ _ _ _ _ ((a.trans t).trans l5) P r5 W
  |false=>rw[l7 ∅]at b ⊢;exact k _ _ _ _ _ a j yT b
 .exact b.elim
abbrev yS(K:W.Frag)(c:TEW)(f:Str):TEW:=λρ O R=>c ρ O λx b=>match x with
 |.own a=>∃C dx fs,b a=some (.ins C dx fs)/\Cls K C/\NoAttr K C f/\∃w,fs.lookup f=some w/\R w b
 |_=>False
def za0{g:TE}{d:TEW}{f:Str}(j:RefE K g d):RefE K (zd0 K g f) (yS K d f):=by
 intro Γ O H ρ σ S q Q R i k;refine j Γ O H ρ σ S q _ _ i λt z y x v m b s a=>?_;split at a
 .obtain⟨C,dx,fs,l,c,na,w,e,a⟩:=a;obtain⟨_,vs,n,p⟩:=b.o _ _ l;obtain⟨u,h,r⟩:=(Ul p).2 w e;exact⟨_,C,dx,vs,u,s,n,c,na,h,k _ _ _ _ _ m b r a⟩
 .exact a.elim
abbrev qg(K:W.Frag)(d e:TEW)(f:Str):TSW:=λD ρ O=>e ρ O λy c=>d ρ c λx b=>match x with
 |.own a=>∃C dx fs,b a=some (.ins C dx fs)/\Cls K C/\NoAttr K C f/\fs.length<1000/\D.nx ρ (updO b a (.ins C dx (zM f y fs)))
 |_=>False
def QN{n p:TE}{j k:TEW}{f:Str}(t:RefE K n j)(z:RefE K p k):RefS K (zd1 K n p f) (qg K j k f):=by
 intro Γ O H ρ σ D I S g s e;refine z Γ O H ρ σ S g _ _ s λF M J y u b q E r=>?_;refine t _ _ _ _ _ q (g.mono b) _ _ r λG N L x v d i B a=>?_;split at a
 .obtain⟨C,dx,fs,l,c,na,w,a⟩:=a;obtain⟨_,vs,A,m⟩:=i.o _ _ l;refine⟨_,C,dx,vs,B,A,c,na,by rw[<-lJ m];exact w,?_⟩;exact e.nx _ _ _ _ _ (b.trans d) (i.put (oo:=.ins C dx _) l (by intro _ h;cases h) (by intro _ h;cases h) ⟨_,zu,zen (E.mono d) m⟩) (g.mono (b.trans d)) a
 .exact a.elim
abbrev qp(d Ty:TEW):TEW:=λρ O R=>d ρ O λx c=>Ty ρ c λy b=>match x,uM y with
 |.own a,some k=>∃kvs,b a=some (.dK kvs)/\∃w,zaF kvs k=some w/\R w b
 |_,_=>False
def Vy{f g:TE}{c Ty:TEW}(p:RefE K f c)(r:RefE K g Ty):RefE K (zgl f g) (qp c Ty):=by
 intro Γ O H ρ σ S e Q R n k;refine p Γ O H ρ σ S e _ _ n λF L I x v d h C m=>?_;refine r _ _ _ _ _ h (e.mono d) _ _ m λG M J y u t b D a=>?_;split at a
 .rename_i s i;obtain⟨kvs,q,w,j,a⟩:=a;obtain⟨_,vs,A,B⟩:=b.o _ _ q;obtain⟨z,l,E⟩:=(zgn B).2 w j;exact⟨_,vs,s,z,C,A,QF D i,l,k _ _ _ _ _ (d.trans t) b E a⟩
 .exact a.elim
abbrev uh(e Ty f:TEW):TSW:=λD ρ O=>f ρ O λw c=>e ρ c λx d=>Ty ρ d λy b=>match x,uM y with
 |.own a,some k=>∃kvs,b a=some (.dK kvs)/\kvs.length<1000/\D.nx ρ (updO b a (.dK (ud kvs k w)))
 |_,_=>False
def Vz{n q p:TE}{i Ty j:TEW}(E:RefE K n i)(I:RefE K q Ty)(G:RefE K p j):RefS K (zgm n q p) (uh i Ty j):=by
 intro Γ O H ρ σ D T S c C e;refine G Γ O H ρ σ S c _ _ C λP X U w z d r rw A=>?_;refine E _ _ _ _ _ r (c.mono d) _ _ A λQ Y V x v f s M B=>?_;refine I _ _ _ _ _ s (c.mono (d.trans f)) _ _ B λR Z W y u l g N a=>?_;split at a
 .rename_i J t;obtain⟨kvs,k,F,a⟩:=a;obtain⟨_,vs,L,m⟩:=g.o _ _ k;refine⟨_,vs,J,M,L,QF N t,by rw[<-lJ m];exact F,?_⟩;have b:=(d.trans f).trans l;exact e.nx _ _ _ _ _ b (g.put (oo:=.dK _) k (by intro _ h;cases h) (by intro _ h;cases h) ⟨_,zu,JD ((rw.mono f).mono l) m⟩) (c.mono b) a
 .exact a.elim
abbrev vI2(g:Int->Int->Int):List W->OM->WK->Prop:=λa O R=>match a with
 |[.d (.int i),.d (.int j)]=>R (.d (.int (g i j))) O
 |_=>False
def zeD{g:Int->Int->Int}:RefC K (λa H Q=>∃i j,a=[.int i,.int j]/\Q (.int (g i j)) H) (vI2 g):=by
 intro Γ O H a vs S rs Q R h k;unfold vI2 at h;split at h
 .rename_i i j;cases rs with
  |cons rx t=>
   cases t with
   |cons ry t=>cases t;exact⟨i,j,by rw[show _=V.int i from rx,show _=V.int j from ry],k _ _ _ _ _ (Le.refl _) S uL h⟩
 .exact h.elim
end L2
namespace PySem
open Sem (wp)
section
variable {z TI TO i1 i2:Addr}{fp1 fp2:List Addr}{n1 n2:Nat}{P1 P2:Nat->Value->Prop}{St1 St2:Nat->Heap->Prop}
end
end PySem
namespace L2
open PySem PySem.Spec PyProof.Rows
def Yt:∀{a:List Str}{us:List Value},Vals (a.map V.str) us->StrsAre us a
 |[],_,.nil=>.nil
 |z::a,_,.cons r t=>by obtain⟨k,rfl⟩:=r;exact .cons z k (Yt t)
abbrev zeE(K:W.Frag):V->List V->Hp->VK->Prop:=λx d H Q=>∃b a c,x=.str b/\d=[.ref a]/\SqL K H a (c.map .str)/\b.length<=16/\(c.map (·.length)).sum+c.length<=1048576/\Q (.str (Txt.join b c)) H
def zkT:MtR X "str.join" (zeE X.K):=by
 intro π s σ H x l v us Q I i r h;obtain⟨j,a,m,rfl,rfl,b,c,d,q⟩:=h;obtain⟨u,rfl,f⟩:=r.one;cases f;obtain⟨t,rfl⟩:=i;obtain⟨e,g,p,hz⟩:=I.list b;exact join_listW p.isList (Yt g) c d λt' k=>⟨.str _,H,I.tok _,⟨_,rfl⟩,q⟩
abbrev zjS:R2:=λx y H Q=>∃z n,x=.str z/\y=.int n/\MulOk z n/\Q (.str (Txt.mul z n)) H
def zkU:OpR X (binaryOp .Mult) zjS:=by
 intro π s σ H x y v u Q I b c h;obtain⟨z,n,rfl,rfl,a,q⟩:=h;obtain⟨t,rfl⟩:=b;obtain⟨t',rfl⟩:=c;exact SB.mul a λt' k=>⟨.str _,H,I.tok _,⟨_,rfl⟩,q⟩
def JG:∀{a:List Bool}{us:List Value}{i:Nat}{v:Value},Vals (a.map V.bl) us->us[i]? =some v->∃b,a[i]? =some b/\v=.bool b
 |[],_,_,_,.nil,e=>by simp at e
 |b::a,_,0,v,.cons r t,e=>⟨b,rfl,by simp at e;subst e;exact r⟩
 |b::a,_,i+1,v,.cons r t,e=>by simp only[mQ]at e ⊢;exact JG t e
def zeF(a:List Bool):((List.range a.length).any λi=>(a[i]?).getD false)=a.any id:=by
 induction a with
 |nil=>rfl
 |cons b a ih=>simp only[lQ,List.range_succ_eq_map,mY,List.any_map];rw[<-ih];rfl
abbrev zil(K:W.Frag):List V->Hp->VK->Prop:=λc H Q=>∃a,∃b:List Bool,c=[.ref a]/\SqL K H a (b.map .bl)/\Q (.bl (b.any id)) H
def zgv(m:X.calm=true):yj X (.builtin "any") (zil X.K):=by
 intro π s σ H C us Q I r h;obtain⟨a,c,rfl,o,q⟩:=h;obtain⟨u,rfl,t⟩:=r.one;cases t;obtain⟨g,k,p,hz⟩:=I.list o;have d:=p.isList;have f:a<s.heap.objs.size:=by obtain⟨_,e,_⟩:=d;exact lD e
 have len:=k.length;rw[l8]at len;refine call_any_walk (oH d ?_);refine⟨_,_,_,_,_,_,λi=>(c[i]?).getD false,rfl,Walks.list (A:=X.A.in1) (I.ok.hd m) _ a (lK f) _,⟨⟨_,lL _ rfl,rfl,rfl⟩,d.push _⟩,λi v B y x l j=>?_,λz w n=>?_⟩
 .obtain⟨b,e,rfl⟩:=JG k (by simpa using l);simp only[e,Option.getD_some]at j;exact mj j
 .have e:=zeF c;rw[len]at e;rw[show((List.range g.toArray.size).any λi=>(c[i]?).getD false)=c.any id by simpa using e];exact⟨.bl _,H,I.kept (t':=w) (LSm.kept_iter n),rfl,q⟩
def zgw:yj X (.type "int") (λa H Q=>∃z n,a=[.str z]/\intText? z=some n/\z.length<=640/\Q (.int n) H):=by
 intro π s σ H a us Q I r h;obtain⟨z,n,rfl,c,b,q⟩:=h;obtain⟨u,rfl,t,rfl⟩:=Zp r;exact PySem.W.KIN.call_text c b ⟨.int n,H,I.tok _,⟨_,rfl⟩,q⟩
abbrev Its(x:Str):It:=⟨λi _=>i<x.cps.size,λi H v a=>a=H/\∃c,x.cps[i]? =some c/\v=.str ⟨#[c]⟩,λi _=>x.cps.size<=i⟩
def zeG(x:Str)(t:Tok)(it:Addr):Turn P w K tg (Its x) [it] it (λi h=>h.IsStrIter it "str_ascii_iterator" x t i) where
 mem:=lf.mpr rfl
 obj:=λi h st b a=>by cases lf.mp a;obtain⟨o,e,c,d⟩:=st;exact⟨o,e,λv z=>by rw[d]at z;cases z⟩
 keep:=λi h h' st k=>let⟨o,ho,r⟩:=st;⟨o,k it (lf.mpr rfl) o ho,r⟩
 item:=by intro X A C y D i π s σ H E I g st B;subst A C y;obtain⟨l,m,J,n,p,q⟩:=g it (lf.mpr rfl);have j:i<x.cps.size:=B;refine wpAny_pyNext_ascii_item st (c:=x.cps[i]) (by simp[j]) λu f L=>?_;have F:Inv X π σ H { s with heap:=u,toks:=s.toks+1 }:=I.turned (t':=s.toks+1) (λb o a e=>(L.2 b a).trans e) l m n p q;obtain⟨o,e,c,d⟩:=id f;exact⟨_,rfl,Y7 (s:={ s with heap:=u,toks:=s.toks+1 }) e c d ∅ ⟨.str ⟨#[x.cps[i]]⟩,H,F,⟨_,rfl⟩,⟨rfl,_,by simp[j],rfl⟩,f,λb a=>(g b a).1⟩⟩
 done:=by intro X A C y D i π s σ H E I g st B;subst A C y;obtain⟨l,m,J,n,p,q⟩:=g it (lf.mpr rfl);have j:x.cps.size<=i:=B;exact wpAny_pyNext_ascii_end (I.ok.hd D) st (by simp[j]) λu G=>⟨rfl,I.turned (t':=s.toks) (λb o a e=>G b o a e) l m n p q⟩
 self:=λ_ _ _ _ _ st h=>wpAny_pyIter_striter_ascii st h
abbrev zmR(b:TE):TI:=λσ H R=>b σ H λv a=>∃x,v=.str x/\x.cps.all (· < 128)=true/\R (Its x) a
def zmS{l:Expr}{d:TE}(j:PE X l d):PI X tg l (zmR d):=by
 intro π s σ H R I h;refine thn (j π s σ H _ I h) λv c ⟨y,f,a,m,k⟩=>?_;obtain⟨x,rfl,g,q⟩:=k;obtain⟨t,rfl⟩:=m;refine wpAny_pyIter_ascii g ⟨c.heap.objs.size,[c.heap.objs.size],_,_,f,rfl,a.kept (t':=c.toks) λb o e=>li _ e,zeG x t _,⟨_,lL _ rfl,rfl,rfl⟩,λb i=>?_,q⟩;cases lf.mp i;exact a.fpOk (ll _) (a.hok.fresh (ll _))
abbrev zgx:V->List V->Hp->VK->Prop:=λx a H Q=>∃z y,x=.str z/\a=[.str y]/\(y.length==0)=false/\z.length<=1000000/\∀p,H p=none->Q (.ref p) (upd H p (.lst ((Txt.split z y).map .str)))
def JH:∀{l:List (Str×Tok)}{a:List Str},l.map (·.1)=a->Vals (a.map V.str) (strValues l)
 |[],_,rfl=>.nil
 |(z,t)::l,_,rfl=>.cons ⟨t,rfl⟩ (JH rfl)
def zim:MtR X "str.split" zgx:=by
 intro π s σ H x j v us Q I f r h;obtain⟨z,y,rfl,rfl,c,hz,q⟩:=h;obtain⟨u,rfl,t,rfl⟩:=Zp r;obtain⟨t',rfl⟩:=f;have hsz:z.length<=sizeLine:=by rw[lI];lia
 have d:=split_le z y;have a:∀(l:List (Str×Tok)) (k:Tok),l.map (·.1)=Txt.split z y->EP X π σ Q (.ref s.heap.objs.size) { s with toks:=k,heap:=s.heap.push { cls:=.type "list",data:=.seq (strValues l).toArray } }:=λl k e=>by
  have len:((Txt.split z y).map V.str).length<=sizeLine:=by rw[l8,lI];lia
  exact⟨.ref s.heap.objs.size,_,I.laid (t':=k) (o:=.lst ((Txt.split z y).map .str)) (λb i g=>li _ g) (ll _) ⟨len,strValues l,0,JH e,lL _ rfl⟩,rfl,q _ (I.hok.fresh (ll _))⟩
 cases h1:(decide (z.length<y.length)||decide (Builtin.Str.strKind z<Builtin.Str.strKind y))with
 |true=>
  have e:[z]=Txt.split z y:=(l9 h1).symm;refine ni o5 (oE _ _ _) oG ?_ (meets_str_split_cannot_occur z y t' t h1) ?_
  .exact oC _ _
  .exact a [(z,t')] s.toks e
 |false=>
  cases hf:(Builtin.Str.occurrences z y 0 z.length (z.length+1)).isEmpty with
  |true=>
   have e:[z]=Txt.split z y:=((l7 (by rw[h1];decide)).trans (l9 hf)).symm;refine ni o5 (oE _ _ _) oG ?_ (meets_str_split_not_found z y t' t h1 c hf) ?_
   .exact oC _ _
   .exact a [(z,t')] s.toks e
  |false=>
   have e:Builtin.Str.partsBetween z (Builtin.Str.occurrences z y 0 z.length (z.length+1)) y.length=Txt.split z y:=((l7 (by rw[h1];decide)).trans (l7 (by rw[hf];decide))).symm;refine ni o5 (oE _ _ _) oG ?_ (meets_str_split_sep z y t' t h1 c hf hsz ?_) ?_
   .exact oC _ _
   .rw[e,lI];lia
   .show wants _ _ _ _;rw[strsFrom_eq];exact a (numbered s.toks _) _ ((numbered_texts _ _).trans e)
def zmT(h:X.K=K)(a:X.calm=true):yj X (.builtin "any") (zil K):=by subst h;exact zgv a
def k8(h:X.K=K):MtR X "str.join" (zeE K):=by subst h;exact zkT
abbrev zin(z:Str):W:=.d (.str z)
def JI:∀{a:List Str}{vs:List V},relWs K Γ (a.map zin) vs->vs=a.map V.str
 |[],_,.nil=>rfl
 |z::a,_,.cons r t=>by rw[JI t,show _=V.str z from r];rfl
def Ut:∀{a:List Bool}{vs:List V},relWs K Γ (a.map λb=>.d (.bool b)) vs->vs=a.map V.bl
 |[],_,.nil=>rfl
 |b::a,_,.cons r t=>by rw[Ut t,show _=V.bl b from r];rfl
abbrev KM:W->List W->OM->WK->Prop:=λx c O R=>∃a w,∃b:List Str,x=.d (.str a)/\c=[w]/\seqL O w=some (b.map zin)/\a.length<=16/\(b.map (·.length)).sum+b.length<=1048576/\R (.d (.str (Txt.join a b))) O
def za1{T:String}:RefM K T (zeE K) KM:=by
 rintro Γ O H x v l vs S i rs Q R ⟨b,w,j,rfl,rfl,e,d,f,h⟩ k;cases rs with
 |cons rw t=>cases t;obtain⟨a,us,rfl,c,g⟩:=z9 S rw e;rw[JI g]at c;exact⟨b,a,j,i,rfl,c,d,f,k _ _ _ _ _ (Le.refl _) S vR h⟩
abbrev Uu:W->List W->OM->WK->Prop:=λx a O R=>∃z y,x=.d (.str z)/\a=[.d (.str y)]/\(y.length==0)=false/\z.length<=1000000/\R (.d (.list ((Txt.split z y).map .str))) O
def JJ{Z:Hp}:∀a:List Str,Reps K Z (a.map PyData.str) (a.map V.str)
 |[]=>rfl
 |z::a=>⟨_,_,rfl,rfl,JJ a⟩
def QO{T:String}:RefM K T zgx Uu:=by
 rintro Γ O H x v f vs S e rs Q R ⟨z,y,rfl,rfl,a,b,h⟩ k;cases rs with
 |cons rw t=>cases t;refine⟨z,y,e,by rw[show _=V.str y from rw],a,b,λp c=>?_⟩;obtain⟨Γ',le,S',d⟩:=k4 S (JJ (Txt.split z y)) c;exact k _ _ _ _ _ le S' d h
abbrev Uv:R2W:=λx y O R=>∃z n,x=.d (.str z)/\y=.d (.int n)/\MulOk z n/\R (.d (.str (Txt.mul z n))) O
def za2:RefR K zjS Uv:=by
 rintro Γ O H x y v u S b c Q R ⟨z,n,rfl,rfl,a,h⟩ k;exact⟨z,n,b,c,a,k _ _ _ _ _ (Le.refl _) S vR h⟩
abbrev KN:List W->OM->WK->Prop:=λc O R=>∃w,∃a:List Bool,c=[w]/\seqL O w=some (a.map λb=>.d (.bool b))/\R (.d (.bool (a.any id))) O
def zeH:RefC K (zil K) KN:=by
 rintro Γ O H f vs S rs Q R ⟨w,c,rfl,e,h⟩ k;cases rs with
 |cons rw t=>cases t;obtain⟨a,us,rfl,b,d⟩:=z9 S rw e;rw[Ut d]at b;exact⟨a,c,rfl,b,k _ _ _ _ _ (Le.refl _) S yT h⟩
abbrev KO:List W->OM->WK->Prop:=λa O R=>∃z n,a=[.d (.str z)]/\intText? z=some n/\z.length<=640/\R (.d (.int n)) O
def za3:RefC K (λa H Q=>∃z n,a=[.str z]/\intText? z=some n/\z.length<=640/\Q (.int n) H) KO:=by
 rintro Γ O H a vs S rs Q R ⟨z,n,rfl,b,c,h⟩ k;cases rs with
 |cons rw t=>cases t;exact⟨z,n,by rw[show _=V.str z from rw],b,c,k _ _ _ _ _ (Le.refl _) S uL h⟩
abbrev ZD(x:Str):List W:=x.cps.toList.map λc=>.d (.str ⟨#[c]⟩)
abbrev zeI(T:TEW):TIW:=λρ O R=>T ρ O λw a=>∃x,w=.d (.str x)/\x.cps.all (· < 128)=true/\R (ZD x) (λ_=>True) a
def VA{t:TE}{T:TEW}(h:RefE K t T):vj K (zmR t) (zeI T):=by
 intro Γ O H ρ σ S r Q R l k;refine h _ _ _ _ _ S r _ _ l λs B z w v p g q b=>?_;obtain⟨x,rfl,m,b⟩:=b;refine⟨x,q,m,k _ _ _ _ _ _ p g (λi Γ' O' u hz C S' _=>⟨λD a=>?_,λe=>?_⟩) b⟩
 .unfold ZD at a;rw[lw]at a;cases hc:x.cps.toList[i]? with
  |none=>rw[hc]at a;cases a
  |some c=>
   rw[hc]at a;cases a;have e:i<x.cps.size:=by have:=(lv.mp hc).1;simpa using this
   refine⟨e,λy A ⟨j,d,n,o⟩=>?_⟩;subst j;have:d=c:=by
    have f:x.cps.toList[i]? =some d:=by rw[n6];exact n
    rw[hc]at f;cases f;rfl
   subst this;exact⟨Γ',Le.refl _,S',by rw[o];exact vR⟩
 .show x.cps.size<=i;rw[e];simp[ZD]
abbrev zmU:R2:=λx y H Q=>∃i j,x=.str i/\y=.str j/\Q (.bl (!decide (j.cps.toList<i.cps.toList))) H
def vX:OpR X (compareOp .LtE) zmU:=by
 intro π s σ H x y v u Q I a b h;obtain⟨i,j,rfl,rfl,q⟩:=h;obtain⟨t,rfl⟩:=a;obtain⟨t',rfl⟩:=b;exact PySem.P.le_str (zF I q rfl)
abbrev zeJ:R2W:=λx y O R=>∃i j,x=.d (.str i)/\y=.d (.str j)/\R (.d (.bool (!decide (j.cps.toList<i.cps.toList)))) O
def zeK:RefR K zmU zeJ:=by
 rintro Γ O H x y v u S a b Q R ⟨i,j,rfl,rfl,h⟩ k;exact⟨i,j,a,b,k _ _ _ _ _ (Le.refl _) S yT h⟩
abbrev zmV:V->Option Int->Option Int->Hp->VK->Prop:=λx lo a H Q=>∃z,x=.str z/\z.length<=sizeLine/\Q (.str (Txt.slice z lo a)) H
def zkV:SlR X zmV:=by
 intro π s σ H x v m n lo e g Q I f b pl c h;obtain⟨z,rfl,hz,q⟩:=h;obtain⟨t,rfl⟩:=f;refine⟨"str",_,PySem.F.slot_str_getitem.lookup,oE _ _ _,?_⟩;have a:∀d k,EP X π σ Q (.str (Txt.slice z lo e) d) { s with toks:=k }:=λd k=>⟨.str _,H,I.tok _,⟨_,rfl⟩,q⟩;cases pl with
 |none=>cases c with
  |none=>exact nV (l:=none) (u:=none) (st:=none) b rfl (pH ⟨m7 (qG z _ _) hz,a⟩)
  |int j uj=>exact nV (l:=none) (u:=some (j,uj)) (st:=none) b rfl (pH ⟨m7 (qG z _ _) hz,a⟩)
 |int i ui=>cases c with
  |none=>exact nV (l:=some (i,ui)) (u:=none) (st:=none) b rfl (pH ⟨m7 (qG z _ _) hz,a⟩)
  |int j uj=>exact nV (l:=some (i,ui)) (u:=some (j,uj)) (st:=none) b rfl (pH ⟨m7 (qG z _ _) hz,a⟩)
abbrev zeL(e:TEW)(g f:TOW):TEW:=λρ O R=>e ρ O λx a=>g ρ a λl b=>f ρ b λu c=>∃z,x=.d (.str z)/\z.length<=sizeLine/\R (.d (.str (Txt.slice z l u))) c
def QP{g:TE}{i h:TO}{c:TEW}{e d:TOW}(s:RefE K g c)(w:Yq K i e)(t:Yq K h d):RefE K (tSl zmV g i h) (zeL c e d):=by
 intro Γ O H ρ σ S r Q R q k;refine s _ _ _ _ _ S r _ _ q λB I E x v b j A o=>?_;refine w _ _ _ _ _ j (r.mono b) _ _ o λC J F l f m p=>?_;refine t _ _ _ _ _ m (r.mono (b.trans f)) _ _ p λD L G u y n a=>?_;obtain⟨z,rfl,hz,a⟩:=a;exact⟨z,A,hz,k _ _ _ _ _ ((b.trans f).trans y) n vR a⟩
abbrev Xq:W->List W->OM->WK->Prop:=λx a O R=>∃l b ws us,x=.own l/\a=[.own b]/\O l=some (.lst ws)/\O b=some (.lst us)/\ws.length+us.length<=10000000/\R (.d .none) (updO O l (.lst (ws++us)))
def VB{T:String}:RefM K T zcY Xq:=by
 rintro Γ O H x v p vs S i rs Q R ⟨l,b,ws,us,rfl,rfl,a,e,n,h⟩ k;cases rs with
 |cons rw t=>cases t;cases(show v=.ref l from i);obtain⟨_,m,g,d⟩:=S.o _ _ a;obtain⟨_,j,f,c⟩:=S.o _ _ e;refine⟨l,b,m,j,rfl,by rw[show _=V.ref b from rw],g,f,by rw[<-lJ d,<-lJ c,lI];lia,?_⟩;exact k _ _ _ _ _ (Le.refl _) (S.put (oo:=.lst _) a (by intro _ h;cases h) (by intro _ h;cases h) ⟨_,zu,Paired.appP d c⟩) vS h
def VC{Z:Hp}(h:Reps K Z ds vs):∀n,Reps K Z (List.replicate n ds).flatten (List.replicate n vs).flatten
 |0=>rfl
 |n+1=>by rw[mi,mi,mR,mR];exact Vt h (VC h n)
/---/abbrev Rw6:=List Cel
abbrev rowC(r:Rw6):PyData:=.list (r.map celD)
abbrev zio(c:Cel):Prop:=∃k,32<=k/\k<=126/\c.1=⟨#[k]⟩
abbrev okR(r:Rw6):Prop:=∀c∈r,zio c
inductive sMix6 (ws:List W) (O:OM) (R:WK):Prop
 |mk:∀ns:List Int,∀k:Nat,ws=[.d (.list (ns.map .int)),.d (.int k)]->k<=100->(∀n:Int,0<=n->n<2147483629->R (.d (.int n)) O)->sMix6 ws O R
inductive sInk6 (ws:List W) (O:OM) (R:WK):Prop
 |mk:∀n:Int,ws=[.d (.int n)]->0<=n->(∀i:Int,0<=i->i<512->R (.d (.int i)) O)->sInk6 ws O R
inductive sSign6 (ws:List W) (O:OM) (R:WK):Prop
 |mk:∀n:Int,ws=[.d (.int n)]->0<=n->(∀k:Nat,32<=k->k<=126->R (.d (.str ⟨#[k]⟩)) O)->sSign6 ws O R
abbrev zs6A:Str:=Str.ofString " !\"#$&'()*+,-./0123456789:;<=>?@ABCDEFGHIJKLMNOPQRSTUVWXYZ[\\]^_`"
abbrev zs6B:Str:=Str.ofString "abcdefghijklmnopqrstuvwxyz{|}~"
def zmW:∀k:_root_.Fin 94,∃c,32<=c/\c<=126/\atI (zs6A++zs6B).cps.toList ((k.val:Nat):Int)=some c:=by
 have h:∀k:_root_.Fin 94,((atI (zs6A++zs6B).cps.toList ((k.val:Nat):Int)).map λc=>decide (32<=c/\c<=126))=some true:=f!""
 intro k;have:=h k;cases e:atI (zs6A++zs6B).cps.toList ((k.val:Nat):Int)with
 |none=>rw[e]at this;cases this
 |some c=>rw[e]at this;have:=mC (lV this);exact⟨c,this.1,this.2,rfl⟩
def zkW{k:Int}(a:0<=k)(b:k<n):ixN n k=some k.toNat:=by
 unfold ixN;rw[l9 a,l9 b]
/---/abbrev T3:=Nat×Nat×Int
abbrev yv(S:ST):Prop:=∀i j,i<S.h->j<S.w->okC (S.pic i j)
section
variable {d q:Addr}
end
section
variable {x st kp d q:Addr}{S' S1:ST}
end
abbrev AllOk(S:ST):Prop:=yv S/\SeqAt.shaped S.last=true/\PyData.eqv S.last S.last=true
def zmX{c:Str}(h:PyData.strOk c=true):SeqAt.shaped (.str c)=true/\PyData.eqv (.str c) (.str c)=true:=
 ⟨by simp[SeqAt.shaped,PyData.canLay0,PyData.depth,h],by simp[PyData.eqv]⟩
end L2
namespace L2
end L2
namespace L2
open PySem PySem.Spec PyProof.Rows
abbrev Old(O O':OM):Prop:=∀b,O b≠none->O' b=O b
def Old.refl:Old O O:=λ_ _=>rfl
def Old.upd{o:OO}(h:Old O O')(d:O a=none):Old O (updO O' a o):=λb c=>by
 rw[ze (λe=>by rw[e]at c;exact c d)];exact h b c
def Old.new(h:Old O O')(b:O' a=none):O a=none:=by
 cases e:O a with
 |none=>rfl
 |some o=>rw[h a (by rw[e];simp)]at b;rw[b]at e;cases e
section
variable {q:Addr}{a b:Int}{u:Bool}{l:PyData}
end
def yv.set{j:Nat}{c:Str}{k:Int}(h:yv S)(a:PyData.strOk c=true):yv { S with pic:=setF S.pic i j (c,k) }:=by
 intro x y hx b;show okC (setF S.pic i j (c,k) x y);unfold setF;split
 .exact a
 .exact h x y hx b
def yv.mv{t b l r c a:Int}(h:yv S)(e:0<=t)(f:b<S.h)(g:0<=l)(i:r<S.w):yv (mvS t b l r c a S):=by
 intro x y hx d;show okC (mvP S.pic S.ink t b l r c a x y);unfold mvP;split
 .split
  .exact h _ _ (by simp only[mvS]at *;lia) (by simp only[mvS]at *;lia)
  .show PyData.strOk s!" "=true;decide +kernel
 .exact h x y hx d
abbrev jnL:List (List Nat)->List Nat
 |[]=>[]
 |[a]=>a
 |a::b::r=>a++59::jnL (b::r)
def zjT:∀{a b x y:List Nat},59∉a->59∉b->a++59::x=b++59::y->a=b/\x=y
 |[],[],x,y,_,_,e=>⟨rfl,by simpa using e⟩
 |[],c::b,x,y,_,hb,e=>by simp at e;exact absurd (by rw[<-e.1];exact lh) hb
 |c::a,[],x,y,ha,_,e=>by simp at e;exact absurd (by rw[e.1];exact lh) ha
 |c::a,d::b,x,y,ha,hb,e=>by simp at e;obtain⟨f,g⟩:=zjT (λz=>ha (lg _ z)) (λz=>hb (lg _ z)) e.2;exact⟨by rw[e.1,f],g⟩
def QQ:∀{A B:List (List Nat)},A≠[]->B≠[]->(∀a∈A,59∉a)->(∀b∈B,59∉b)->jnL A=jnL B->A=B
 |[],_,h,_,_,_,_=>absurd rfl h
 |_,[],_,h,_,_,_=>absurd rfl h
 |[a],[b],_,_,_,_,e=>by rw[show a=b from e]
 |[a],b::c::s,_,_,ha,_,e=>by have e:a=b++59::jnL (c::s):=e;exact absurd (by rw[e];simp) (ha a lh)
 |a::d::r,[b],_,_,_,hb,e=>by have e:a++59::jnL (d::r)=b:=e;exact absurd (by rw[<-e];simp) (hb b lh)
 |a::d::r,b::c::s,_,_,ha,hb,e=>by have e:a++59::jnL (d::r)=b++59::jnL (c::s):=e;obtain⟨f,g⟩:=zjT (ha a lh) (hb b lh) e;rw[f,QQ (A:=d::r) (B:=c::s) m!"" m!"" (λz hz=>ha z (lg _ hz)) (λz hz=>hb z (lg _ hz)) g]
abbrev spS(r:List (List Nat)×List Nat)(c:Nat):List (List Nat)×List Nat:=if c= 59 then(r.1++[r.2],[])else(r.1,r.2++[c])
abbrev spF(cs:List Nat):List (List Nat)×List Nat:=cs.foldl spS ([],[])
def ziq{cs:List Nat}{c:Nat}:spF (cs++[c])=spS (spF cs) c:=by unfold spF;rw[mT];rfl
def Uw:∀{A:List (List Nat)},A≠[]->jnL (A++[[]])=jnL A++[59]
 |[],h=>absurd rfl h
 |[a],_=>rfl
 |a::b::r,_=>by show a++59::jnL ((b::r)++[[]])=(a++59::jnL (b::r))++[59];rw[Uw m!""];simp
def za4:∀{A:List (List Nat)}{w:List Nat}{c:Nat},jnL (A++[w++[c]])=jnL (A++[w])++[c]
 |[],w,c=>rfl
 |[a],w,c=>by show a++59::(w++[c])=(a++59::w)++[c];simp
 |a::b::r,w,c=>by show a++59::jnL ((b::r)++[w++[c]])=(a++59::jnL ((b::r)++[w]))++[c];rw[za4 (A:=b::r)];simp
def za5(cs:List Nat):jnL ((spF cs).1++[(spF cs).2])=cs/\(∀a∈(spF cs).1++[(spF cs).2],59∉a):=by
 have d:∀n,∀cs:List Nat,cs.length=n->jnL ((spF cs).1++[(spF cs).2])=cs/\(∀a∈(spF cs).1++[(spF cs).2],59∉a):=by
  intro n;induction n with
  |zero=>intro cs h;cases mG.mp h;exact⟨rfl,λa ha=>by cases lf.mp ha;exact lF⟩
  |succ n ih=>
   intro cs h;obtain⟨ds,c,rfl⟩:∃ds c,cs=ds++[c]:=⟨cs.dropLast,cs.getLast (by intro z;rw[z]at h;cases h),(List.dropLast_concat_getLast _).symm⟩;obtain⟨e,b⟩:=ih ds (by simpa using h);rw[ziq];unfold spS;by_cases hc:c= 59
   .rw[l9 hc];refine⟨?_,λa ha=>?_⟩
    .show jnL (((spF ds).1++[(spF ds).2])++[[]])=_;rw[Uw m!"",e,hc]
    .rcases ls.mp ha with ha|ha
     .exact b a ha
     .cases lf.mp ha;exact lF
   .rw[l7 hc];refine⟨by rw[za4,e],λa ha=>?_⟩;rcases ls.mp ha with ha|ha
    .exact b a (n9 _ ha)
    .cases lf.mp ha;intro m;rcases ls.mp m with m|m
     .exact b _ (lW _ (lf.mpr rfl)) m
     .exact hc (lf.mp m).symm
 exact d _ cs rfl
abbrev vk:Str:=⟨#[59]⟩
def zJ{a b:Str}:(a++b).cps.toList=a.cps.toList++b.cps.toList:=by
 show(a.cps++b.cps).toList=_;simp
def jX:∀a:List Str,(Str.join vk a).cps.toList=jnL (a.map (·.cps.toList))
 |[]=>rfl
 |[p]=>rfl
 |p::q::r=>by rw[pQ,zJ,zJ,jX (q::r)];have e:vk.cps.toList=[59]:=rfl;have b:jnL ((p::q::r).map (·.cps.toList))=p.cps.toList++59::jnL ((q::r).map (·.cps.toList)):=rfl;rw[e,b];simp
def zcx(z:Str):(Txt.split z vk).map (·.cps.toList)=(spF z.cps.toList).1++[(spF z.cps.toList).2]:=by
 obtain⟨b,c⟩:=za5 z.cps.toList;refine QQ ?_ m!"" ?_ c ?_
 .have:=split_pos z vk;intro e;have:(Txt.split z vk).length= 0:=by simpa using mH List.length e
  lia
 .intro a d;obtain⟨p,f,rfl⟩:=lH.mp d;exact pY z 59 p f
 .rw[b,<-jX,pZ]
abbrev okD(z:Str):Prop:=∀c∈z.cps.toList,48<=c/\c<=57
abbrev uO(cs:List Nat):PyData:=if cs=[]then .none else .int ((NumText.digitsVal cs:Nat):Int)
abbrev qY(ws:List (List Nat)):PyData:=if 6<ws.length\/(ws.any λw=>decide (3<w.length))=true then .none else .tuple (ws.map uO)
abbrev xS(z:Str):PyData:=qY ((spF z.cps.toList).1++[(spF z.cps.toList).2])
abbrev okP(a:PyData):Prop:=a=.none\/∃ds:List PyData,a=.tuple ds/\ds.length<=1000/\∀d∈ds,d=.none\/∃n,d=.int n
def za6(z:Str):okP (xS z):=by
 unfold xS qY;split
 .exact .inl rfl
 .rename_i b;refine .inr ⟨_,rfl,by rw[l8];omega,λd a=>?_⟩;obtain⟨w,_,rfl⟩:=lH.mp a;unfold uO;split
  .exact .inl rfl
  .exact .inr ⟨_,rfl⟩
def yN(z:Str):z.length=z.cps.toList.length:=rfl
def jb(a:Str)(zs:List Str):Txt.join a zs=Str.join a zs:=eq_of_beq (join_plain_closes a zs)
def ZE(a:Str):∀b:List Str,(Str.join a b).cps.toList.length<=(b.map (·.length)).sum+b.length*a.length
 |[]=>lY _
 |[p]=>by show p.cps.toList.length<=([p].map (·.length)).sum+_;rw[<-yN];simp
 |p::q::r=>by
  have c:=ZE a (q::r);rw[pQ,zJ,zJ,lx,lx,<-yN p,<-yN a];simp only[lG,oS,lQ,Nat.add_mul]at c ⊢
  lia
def zgy{α:Type}(l:List α)(g:α->W)(F:W->Option PyData)(k:α->PyData)(h:∀a,F (g a)=some (k a)):(l.map g).filterMap F=l.map k:=by
 induction l with
 |nil=>rfl
 |cons a l ih=>rw[lG,mB,h a,ih];rfl
def Old.del(h:Old O O')(d:O a=none):Old O (L2.del O' a):=λb c=>by
 rw[ua (O:=O') (λe=>c (by rw[e];exact d))];exact h b c
abbrev noS:Str:=⟨#[]⟩
def k9:∀{l:List Str},(∀x∈l,x.length= 1)->(l.map λx=>x.length).sum=l.length
 |[],_=>rfl
 |a::l,h=>by
  simp only[lG,oS,k9 λx hx=>h x (lg _ hx),h a lh,lQ]
  lia
abbrev zmY(x:Str):It:=
 ⟨λi _=>i<x.cps.size,λi H v a=>∃t c,v=.ref t/\H t=none/\x.cps[i]? =some c/\a=upd H t (.tup [.int i,.str ⟨#[c]⟩]),λi _=>i=x.cps.size⟩
def zeM{k:Nat}(x:Str)(y:Tok)(e it:Addr)(n:e≠it) :
    Turn P w K (.Tuple es k pos) (zmY x) [e,it] e (λi h=>(∃a,IsEnum h e it (i:Nat) a)/\h.IsStrIter it "str_ascii_iterator" x y i) where
  mem:=m!""
  obj:=λi h st b g=>by
    obtain⟨⟨a,j⟩,o,C,c,d⟩:=st;have m:b=e\/b=it:=by simpa using g
    rcases m with rfl|rfl
    · exact⟨_,j,fun v z=>by
        have z':Data.fields _=Data.cell v:=z;cases z'⟩
    · exact⟨o,C,λv z=>by rw[d]at z;cases z⟩
  keep:=λi h h' st k=>⟨st.1.elim λa j=>⟨a,k e m!"" _ j⟩,let⟨o,ho,r⟩:=st.2;⟨o,k it m!"" o ho,r⟩⟩
  item:=by
    intro X J S G L i π s σ H E I B st Q;subst J S G;obtain⟨⟨a,j⟩,l⟩:=st;have R:i<x.cps.size:=Q;refine wpAny_pyNext_enum_itemD (St:=λi h=>h.IsStrIter it "str_ascii_iterator" x y i) (Draws.strAscii (A:=X.A.in1) (I.ok.hd L) it x y) j l R n (λz=>n (lf.mp z)) λv h' f hv N p ht hsz kk=>?_;obtain⟨c,u,M,rfl⟩:=hv;refine⟨_,rfl,wpAny_letOwnedTupleGo_enum N λh2 O T=>?_⟩;have hn:=I.hok.fresh (ll s.heap.objs.size);have V:Inv X π σ (upd H s.heap.objs.size (.tup [.int i,.str ⟨#[c]⟩])) { s with heap:=s.heap.push { cls:=.type "tuple",data:=.seq [Value.int i f,Value.str ⟨#[c]⟩ u].toArray },toks:=f+1 }:=
      I.laid (λb o e=>li _ e) (ll _) ⟨by show 2<=sizeLine;decide,[Value.int i f,Value.str ⟨#[c]⟩ u],.cons ⟨_,rfl⟩ (.cons ⟨_,rfl⟩ .nil),IsTup.new s.heap _⟩
    have lt:∀b∈[e,it],b≠s.heap.objs.size:=λb g=>by
      have m:b=e\/b=it:=by simpa using g
      rcases m with rfl|rfl
      · exact lK (lD j)
      · obtain⟨o,C,_⟩:=l
        exact lK (lD C)
    have U:∀b∈[e,it],upd H s.heap.objs.size (.tup [.int i,.str ⟨#[c]⟩]) b=none:=λb g=>by rw[zi (lt b g)];exact(B b g).1
    have W:=V.turnedL (h':=h2) (t':=f+1) (fp:=[e,it]) (fun b o g q=>by
      have D:b≠e:=λz=>g (by simp[z]);have F:b≠it:=λz=>g (by simp[z]);by_cases hbz:b=s.heap.objs.size
      · subst hbz
        have t:(s.heap.push { cls:=.type "tuple",data:=.seq #[Value.int i f,Value.str ⟨#[c]⟩ u] }).get? s.heap.objs.size=some o:=q;rw[lL s.heap (o:={ cls:=.type "tuple",data:=.seq #[Value.int i f,Value.str ⟨#[c]⟩ u] }) rfl]at t;exact(T.2 _ D).trans (ht.trans t)
      · have t:(s.heap.push { cls:=.type "tuple",data:=.seq #[Value.int i f,Value.str ⟨#[c]⟩ u] }).get? b=some o:=q
        rw[Heap.get?_push_ne _ _ _ hbz]at t;exact(T.2 b D).trans (kk b o D F t)) λb g=>⟨U b g,(B b g).2⟩
    have Z:((i:Int)+1)=(((i+1:Nat)):Int):=⋯
    refine⟨.ref s.heap.objs.size,_,W,rfl,⟨_,c,rfl,hn,M,rfl⟩,⟨⟨_,Z▸O⟩,let⟨o,ho,r⟩:=p;⟨o,(T.2 it (Ne.symm n)).trans ho,r⟩⟩,U⟩
  done:=by intro X J S G L i π s σ H E I B st Q;subst J S G;obtain⟨⟨a,j⟩,l⟩:=st;have R:i=x.cps.size:=Q;subst R;obtain⟨f0,f1,f2,f3,f4,f5⟩:=B it m!"";exact wpAny_pyNext_enum_endD (St:=λi h=>h.IsStrIter it "str_ascii_iterator" x y i) (Draws.strAscii (A:=X.A.in1) (I.ok.hd L) it x y) j l λh' Y=>⟨rfl,I.turned (t':=s.toks) (λb o g e=>Y b o g e) f0 f1 f3 f4 f5⟩
  self:=λ_ _ _ _ _ st h=>st.1.elim λa j=>oI j h
abbrev zgz(b:TA):TI:=λσ H R=>b σ H λvs a=>∃x,vs=[.str x]/\x.cps.all (· < 128)=true/\R (zmY x) a
def zir{k:Nat}{B:Pos}{l:Expr}{i:TA}{p:Pos}(u:Gl X "enumerate")(w:X.mg "enumerate" =none)(o:PA X [l] i)(y:starEach [l] X.env=[(false,eval l X.env)]:=by rfl) :
  PI X (.Tuple es k B) (.Call (.Name "enumerate" p) [l] [] pos) (zgz i):=by
 intro π s σ H R I h;refine Call_ (vY I u w boot_enumerate (mF (thn (o pos π s σ H _ I h) λus a ⟨vs,m,c,A,z⟩=>?_) y rfl));obtain⟨x,e,hx,q⟩:=z;subst e;cases A with
 |cons r rr=>
  cases rr;obtain⟨j,rfl⟩:=r;refine call_enumerate_str λh' g n hsz v=>oI g ?_;have d:h'.IsStrIter a.heap.objs.size "str_ascii_iterator" x j 0:=by simpa[strIterType,hx]using n
  refine⟨a.heap.objs.size+1,[a.heap.objs.size+1,a.heap.objs.size],_,_,m,rfl,c.kept (t':=a.toks) v,zeM x j _ _ (Nat.succ_ne_self _),⟨⟨_,g⟩,d⟩,λb t=>?_,q⟩;have f:b=a.heap.objs.size+1\/b=a.heap.objs.size:=by simpa using t
  rcases f with rfl|rfl
  .exact c.fpOk (nM _) (c.hok.fresh (nM _))
  .exact c.fpOk (ll _) (c.hok.fresh (ll _))
abbrev Ux(x:Str):List W:=(List.range x.cps.size).zipWith (λ(i:Nat) (c:Nat)=>W.d (.tuple [.int i,.str ⟨#[c]⟩])) x.cps.toList
abbrev zgA(T:TAW):TIW:=λρ O R=>T ρ O λws a=>∃x,ws=[.d (.str x)]/\x.cps.all (· < 128)=true/\R (Ux x) (λ_=>True) a
def JK(x:Str):(Ux x).length=x.cps.size:=by simp[Ux]
def zeN{t:TA}{T:TAW}(h:yQ K t T):vj K (zgz t) (zgA T):=by
 intro Γ O H ρ σ S r Q R s k;refine h _ _ _ _ _ S r _ _ s λB F D ws vs v l z d=>?_;obtain⟨x,rfl,u,d⟩:=d;cases z with
 |cons rx t=>
  cases t;refine⟨x,by rw[show _=V.str x from rx],u,k _ _ _ _ _ _ v l (λi Γ' O' C hz I S' G=>⟨λJ a=>?_,λb=>?_⟩) d⟩
  .unfold Ux at a;rw[oh]at a;cases hr:(List.range x.cps.size)[i]? with
   |none=>rw[hr]at a;cases a
   |some j=>
    rw[hr]at a;cases hdi:x.cps.toList[i]? with
    |none=>rw[hdi]at a;cases a
    |some c=>
     rw[hdi]at a;cases a;obtain⟨b,g⟩:=lv.mp hr;simp at b g;subst g;refine⟨b,λy E ⟨t,c',n,o,p,q⟩=>?_⟩;have:c'=c:=by
      have f:x.cps.toList[i]? =some c':=by rw[n6];exact p
      rw[hdi]at f;cases f;rfl
     subst this n q;obtain⟨e,w,m,A⟩:=Yf S' (ds:=[.int i,.str ⟨#[c']⟩]) (vs:=[.int i,.str ⟨#[c']⟩]) ⟨_,_,rfl,rfl,_,_,rfl,rfl,rfl⟩ o;exact⟨e,w,m,A⟩
  .show i=x.cps.size;rw[b,JK]
def zop{j:Nat}{a b:PyData}{ρ:WS}{R:WS->OM->Prop}(h:R ((ρ.set i (some (.d a))).set j (some (.d b))) O)(c:i<ρ.length)(e:j<ρ.length):QD 2 (Zx (xH i) (Zx (xH j) QC)) (.d (.tuple [a,b])) ρ O R:=by
 simp[QD,Zx,xH,QC,zU,c,e];exact⟨_,_,⟨rfl,rfl⟩,_,_,rfl,rfl,h⟩
def za7:∀(cs:List Nat) (a:Array Nat),((cs.map λc=>(⟨#[c]⟩:Str)).foldl (λa p=>a++noS.cps++p.cps) a).toList=a.toList++cs
 |[],a=>m!""
 |c::cs,a=>by rw[lG,mU,za7 cs];simp[noS]
def za8(cs:List Nat):Txt.join noS (cs.map λc=>⟨#[c]⟩)=⟨cs.toArray⟩:=by
 show Builtin.Str.glued _ _=_;unfold Builtin.Str.glued;congr 1;apply Array.ext';cases cs with
 |nil=>rfl
 |cons c cs=>show((cs.map λc=>(⟨#[c]⟩:Str)).foldl (λa p=>a++noS.cps++p.cps) #[c]).toList=_;rw[za7];rfl
abbrev VD(O:OM)(o w:W):Option OM:=match o with
 |.own a=>match O a with
  |some (.lst ws)=>if ws.length<100000 then some (updO O a (.lst (ws++[w])))else none
  |_=>none
 |_=>none
abbrev KQ:W->List W->OM->WK->Prop:=λx ws O R=>∃w a,ws=[w]/\VD O x w=some a/\R (.d .none) a
def zmZ{T:String}:RefM K T Xe KQ:=by
 rintro Γ O H x v l vs S g rs Q R ⟨w,i,rfl,e,h⟩ k;cases rs with
 |cons rw t=>
  cases t;rename_i u;cases x with
  |d _=>cases e
  |row _ _=>cases e
  |own a=>
   cases(show v=.ref a from g);simp only[VD]at e;split at e
   .rename_i ws b;split at e
    .rename_i j;cases e;obtain⟨_,us,f,c⟩:=S.o _ _ b;refine⟨a,us,u,rfl,rfl,f,by rw[<-lJ c,lI];lia,?_⟩;exact k _ _ _ _ _ (Le.refl _) (S.put (oo:=.lst _) b (by intro _ h;cases h) (by intro _ h;cases h) ⟨_,zu,Paired.appP c (.cons rw .nil)⟩) vS h
    .cases e
   .cases e
section
variable {k:Nat}{sp:Sp}{p:Pos}
def zkX(c:CalM X.prog X.w X.K X.mg X.base k x C sp)(g:Room (k+1) X.A)(d:Gl X x)(a:(x==("__debug__":Str))=false:=by decide):PE X (.Call (.Name x p) [] [] pos) (Ua C sp [] E0 Zq):=by
 obtain⟨f,fd,h,M,F,e,b⟩:=c.ex;exact zhP M F g d e b .nil Ud a
end
def zjU{y:Str}(b:Gl X x)(h:∃t,X.mg x=some (.str y t))(a:(x==("__debug__":Str))=false:=by decide):PE X (.Name x pos) (tC (.str y)):=by
 obtain⟨t,e⟩:=h;exact Y5 b e ⟨t,rfl⟩ a
def zis{lo f:Option Int}{a b:Nat}(l:a<=b)(m:b<=z.length)(e:Builtin.Str.strSliceIndices lo f 1 z.length=(List.range (b-a)).map (a+ ·)):(Txt.slice z lo f).cps.toList=(z.cps.toList.drop a).take (b-a):=by
 have hz:z.length=z.cps.toList.length:=rfl;unfold Txt.slice;rw[e];split
 .rename_i h;simp at h;have k:a= 0:=⋯
  subst k;rw[List.drop_zero,o6 ⋯]
 .show(((List.range (b-a)).map (a+ ·)).filterMap (z.cps[·]?))=_;rw[oz];refine o7 λi=>?_;have c:∀n,n<=b-a->(List.range n).filterMap ((λx=>z.cps[x]?)∘λx=>a+x)=(z.cps.toList.drop a).take n:=by
   intro n;induction n with
   |zero=>intro _;simp
   |succ n ih=>
    intro o;rw[List.range_succ,List.filterMap_append,ih ⋯];have d:a+n<z.cps.toList.length:=⋯
    have g:z.cps[a+n]? =some z.cps.toList[a+n]:=by rw[<-n6,lp d]
    have j:(z.cps.toList.drop a)[n]? =some z.cps.toList[a+n]:=by rw[nY,lp d]
    rw[List.take_succ,j];simp[g]
  rw[c _ (ll _)]
def zkY{a:Nat}(d:a<=z.length):(Txt.slice z (some (a:Int)) none).cps.toList=z.cps.toList.drop a:=by
 rw[zis (a:=a) (b:=z.length) d (ll _) ?_]
 .rw[o6 (by rw[m9];exact ll _)]
 unfold Builtin.Str.strSliceIndices sliceRange;simp only[show(1:Int)>0 by decide,p7];have c:max 0 (min (if(a:Int)<0 then(a:Int)+z.length else a) z.length)=(a:Int):=by rw[l7 ⋯];lia
 rw[c];have e:(if(a:Int)<z.length then((z.length:Int)-a+1-1) / 1 else 0).toNat=z.length-a:=by
  split
  .rw[Int.ediv_one];lia
  .simp;lia
 rw[e];refine nw λk f=>?_
 lia
def uP{a b:Str}(h:a.cps.toList=b.cps.toList):a=b:=by
 obtain⟨a⟩:=a;obtain⟨b⟩:=b;exact mH Str.mk (Array.ext' h)
/---/abbrev sgS(c:Nat):Str:=⟨#[c]⟩
/---/abbrev sgW(c:Nat):W:=.d (.str (sgS c))
abbrev isLet(c:Nat):Prop:=(97<=c/\c<=122)\/(65<=c/\c<=90)
abbrev vc(c:Nat):Prop:=48<=c/\c<=57
noncomputable instance (c:Nat):Decidable (isLet c):=by unfold isLet;infer_instance
noncomputable instance (c:Nat):Decidable (vc c):=by unfold vc;infer_instance
abbrev xW(c:Nat):PyData:=if c= 10 then .tuple [.str s!"line"]else if c= 9 then .tuple [.str s!"tab"]else .tuple [.str s!"sign",.str (sgS c)]
abbrev zm0:PyData->Bool
 |.none=>true
 |_=>false
abbrev rwD(b:List Nat)(c:Nat):List PyData:=if zm0 (xS ⟨(b.drop 1).toArray⟩)=true then[]else[.tuple [.str s!"row",.str (sgS c),xS ⟨(b.drop 1).toArray⟩]]
abbrev rdS(b:List Nat)(c:Nat):List Nat×List PyData:=
 if b≠[]/\isLet c then([],rwD b c)
 else if b≠[]/\(vc c\/c= 59)then(b++[c],[])
 else if c≠126\/b.length= 1 then([],[xW c])else([126],[])
abbrev rdF:List Nat->List Nat->List Nat×List PyData
 |b,[]=>(b,[])
 |b,c::cs=>((rdF (rdS b c).1 cs).1,(rdS b c).2++(rdF (rdS b c).1 cs).2)
def Xr:∀(cs:List Nat) (b ds:List Nat),rdF b (cs++ds)=((rdF (rdF b cs).1 ds).1,(rdF b cs).2++(rdF (rdF b cs).1 ds).2)
 |[],b,ds=>by simp[rdF]
 |c::cs,b,ds=>by simp[rdF,Xr cs]
def za9(b cs:List Nat)(c:Nat):rdF b (cs++[c])=((rdS (rdF b cs).1 c).1,(rdF b cs).2++(rdS (rdF b cs).1 c).2):=by
 rw[Xr];simp[rdF]
abbrev okG(b:List Nat):Prop:=∀c∈b.drop 1,c= 59\/(48<=c/\c<=57)
def Za:okG []:=λc h=>by cases h
def zba{b:List Nat}(h:okG b)(c:Nat):okG (rdS b c).1/\(rdS b c).1.length<=b.length+1/\(rdS b c).2.length<=1:=by
 unfold rdS;split
 .refine⟨Za,lY _,?_⟩;show(rwD b c).length<=1;unfold rwD;split
  .exact lY _
  .exact ll _
 .split
  .rename_i q;refine⟨λd e=>?_,m!"",lY _⟩;have f:d∈(b++[c]).drop 1:=e;cases b with
   |nil=>exact absurd rfl q.1
   |cons a b=>
    have g:d∈b++[c]:=f;rcases ls.mp g with z|z
    .exact h d z
    .cases lf.mp z;rcases q.2 with y|y
     .exact .inr y
     .exact .inl y
  .split
   .exact⟨Za,lY _,ll _⟩
   .exact⟨λd e=>(by cases e),m!"",lY _⟩
def Uy:∀(cs:List Nat) {b:List Nat},okG b->okG (rdF b cs).1/\(rdF b cs).1.length<=b.length+cs.length/\(rdF b cs).2.length<=cs.length
 |[],b,h=>⟨h,ll _,ll _⟩
 |c::cs,b,h=>by
  obtain⟨a,e,f⟩:=zba h c;obtain⟨d,g,i⟩:=Uy cs a;refine⟨d,?_,?_⟩
  .show(rdF (rdS b c).1 cs).1.length<=_;rw[lQ];lia
  .show((rdS b c).2++(rdF (rdS b c).1 cs).2).length<=_;rw[lx,lQ];lia
abbrev zit(z:Str):Prop:=z.length<=100000/\∀c∈z.cps.toList,c= 59\/(48<=c/\c<=57)
def ziu{p:Str}(hz:zit z)(a:p∈Txt.split z vk):okD p/\p.length<=100000:=by
 have e:=pZ z vk;refine⟨λc b=>?_,m7 (part_short a) hz.1⟩;have d:c∈z.cps.toList:=by rw[<-e];exact(mem_join vk c _).mpr (.inl ⟨p,a,b⟩)
 rcases hz.2 c d with h|h
 .exact absurd (h▸b) (pY z 59 p a)
 .exact h
abbrev zgB:SpW:=λws O R=>∃z,ws=[.d (.str z)]/\zit z/\R (.d (xS z)) O
abbrev zjV:SpW:=λws O R=>∃c,ws=[sgW c]/\R (.d (.bool (decide (isLet c)))) O
abbrev zjW:SpW:=λws O R=>∃c,ws=[sgW c]/\R (.d (.bool (decide (vc c)))) O
abbrev QR:SpW:=λws O R=>∃c,ws=[sgW c]/\R (.d (xW c)) O
structure RdAt (C:Addr) (O:OM) (x dx p:Addr) (b:List Nat):Prop where
 x:O x=some (.ins C dx [(s!"begun",.own p)])
 p:O p=some (.lst (b.map sgW))
abbrev Ho(O O':OM)(x p:Addr):Prop:=∀a,O a≠none->a≠x->a≠p->O' a=O a
def RdAt.ne{x:Addr}{b:List Nat}(h:RdAt C O x dx p b):x≠p:=λe=>by
 have:=h.x;rw[e,h.p]at this;cases this
abbrev zgC(C:Addr):SpW:=λws O R=>∃x dx,ws=[.own x]/\O x=some (.ins C dx [])/\∀p O',O p=none->RdAt C O' x dx p []->(∀a,a≠x->a≠p->O' a=O a)->R (.d .none) O'
abbrev Uz(C:Addr):SpW:=λws O R=>∃x dx p b,ws=[.own x]/\RdAt C O x dx p b/\b.length<=100000/\R (.d (.str ⟨b.toArray⟩)) O
abbrev zeO(C:Addr):SpW:=λws O R=>∃x dx p b c,ws=[.own x,sgW c]/\RdAt C O x dx p b/\b≠[]/\okG b/\b.length<=100000/\∀q a O',RdAt C O' x dx a []->Ho O O' x p->O a=none->O q=none->q≠a->O' q=some (.lst ((rwD b c).map .d))->R (.own q) O'
abbrev zbb(C:Addr):SpW:=λws O R=>∃x dx p b c,ws=[.own x,sgW c]/\RdAt C O x dx p b/\okG b/\b.length<100000/\∀q a O',RdAt C O' x dx a (rdS b c).1->Ho O O' x p->(a=p\/O a=none)->O q=none->q≠a->O' q=some (.lst ((rdS b c).2.map .d))->R (.own q) O'
abbrev zbc(C:Addr):SpW:=λws O R=>∃x dx p b z,ws=[.own x,.d (.str z)]/\RdAt C O x dx p b/\okG b/\z.cps.all (· < 128)=true/\b.length+z.length<=90000/\∀a O',RdAt C O' x dx a (rdF b z.cps.toList).1->Ho O O' x p->(a=p\/O a=none)->R (.d (.list (rdF b z.cps.toList).2)) O'
structure Rdr (K:W.Frag) (C:Addr):Prop where
 cl:Cls K C
 n_begun:NoAttr K C "begun"
def Sim.shrink(S:Sim K Γ O' H)(h:Old O O'):Sim K Γ O H:=by
 have a:∀{x:Addr}{o:OO},O x=some o->O' x=some o:=λ{x o} e=>by rw[h x (by rw[e];simp)];exact e
 have g:∀{x:Addr},O' x=none->O x=none:=λ{x} e=>by
  cases q:O x with
  |none=>rfl
  |some o=>rw[a q]at e;cases e
 refine⟨S.z,λx o e=>?_,S.gd,S.f,λx o e n=>S.gn x o (a e) n,S.fg,λx o e=>⟨(S.fd x o e).1,g (S.fd x o e).2.1,λb rows rs c=>(S.fd x o e).2.2 b rows rs (a c)⟩,λx b s t rs v r c j=>S.u x b s t rs v r (a c) (a j)⟩;obtain⟨k,l⟩:=S.o _ _ (a e);refine⟨k,l.keep (Le.refl _) rfl rfl λrs r m ⟨rows,d⟩ p=>?_⟩;subst d;obtain⟨_,i,_⟩:=S.rowIn (a e) m p;refine⟨rfl,rfl,?_⟩;rw[i];exact g i
def FnOk.forget{a:Heap}{b:CXT}{k:Nat}{c:List Str}{s s':SpW}(F:FnOk P w K mg a b k f fd c (liftSp K s'))
  (h:∀ws O R,s ws O R->s' ws O λw O'=>Old O O'/\R w O):FnOk P w K mg a b k f fd c (liftSp K s):=
 F.imp λvs H Q E ⟨Γ,O,ws,R,S,r,i,k⟩=>⟨Γ,O,ws,_,S,r,h ws O R i,λΓ' O' d w v l S' rw⟨g,e⟩=>k Γ' O d w v l (S'.shrink g) rw e⟩
abbrev zm1(c:TI)(n:Nat)(js:List Nat)(g:TG)(b:TT)(a:TE):TE:=tLc c n js g b a
section
variable {js:List Nat}{scope:Scope}{cl:List (Str×Addr)}{elt iter:Expr}{ifs:List Expr}{wi:TI}{g:TG}{tt:TT}{te:TE}
def zm2(L:LcOk X N n js scope cl)(d:X.calm=true)(h:PI X tg iter wi)
  (f:∀C c b a,PG (z7 X N scope cl C c b a) tg g)(j:∀C c b a,PTs (z7 X N scope cl C c b a) ifs tt)(e:∀C c b a,PE (z7 X N scope cl C c b a) elt te)
  (i:∀x,foldedSetIterable iter X.env x=pure x:=by intro _;rfl):PE X (.ListComp elt [⟨tg,iter,ifs,0⟩] scope pos) (zm1 wi n js g tt te):=v1 L d h f j e i
end
abbrev zeP(f:TIW)(n:Nat)(js:List Nat)(G:TGW)(T:TTW)(E:TEW):TEW:=λρ O R=>f ρ O λws a b=>a b/\ws.length<=1000000/\∃c:PyData->Prop,
 (∀w∈ws,∀us:WS,us.length=n->bodyW G T E n (yH js ρ) w (us++yH js ρ) b λy e=>e=b/\∃d,y=some (.d d)/\c d)/\∀ds:List PyData,ds.length=ws.length->(∀d∈ds,c d)->R (.d (.list ds)) b
def zv{a b:Str}:(a++b).length=a.length+b.length:=by
 rw[yN,zJ,lx,<-yN,<-yN]
def ltA{a b:Nat}:((#[a]:Array Nat) < #[b])↔a<b:=by
 show([a]:List Nat)<[b]↔_;rw[List.cons_lt_cons_iff];simp
def leA{a b:Nat}:((#[a]:Array Nat)<=#[b])↔a<=b:=by
 show(¬(([b]:List Nat)<[a]))↔_;rw[List.cons_lt_cons_iff];simp
def zbd{a b:Nat}:((⟨#[a]⟩:Str)=⟨#[b]⟩)↔a=b:=m!""
def Yu{b:OM}{x f q:Addr}{g:List Nat}{L:List W}(c:RdAt C b x dx f g)(l:Ho O b x p)(i:∀a,b a=none->O a=none)(d:b q=none) :
  RdAt C (updO b q (.lst L)) x dx f g/\Ho O (updO b q (.lst L)) x p/\O q=none/\q≠f/\updO b q (.lst L) q=some (.lst L):=by
 have k:x≠q:=λe=>by have:=c.x;rw[e,d]at this;cases this
 have h:f≠q:=λe=>by have:=c.p;rw[e,d]at this;cases this
 refine⟨⟨by rw[ze k];exact c.x,by rw[ze h];exact c.p⟩,λa j hx m=>?_,i q d,Ne.symm h,zd⟩;have:a≠q:=λe=>j (by rw[e];exact i q d);rw[ze this];exact l a j hx m
def zgD{x p':Addr}{b:List Nat}(h:RdAt C O x dx p b)(f:O p'=none)(g:List Nat){d:OM}(e:d=updO (updO O p' (.lst (g.map sgW))) x (.ins C dx [(s!"begun",.own p')])) :
  RdAt C d x dx p' g/\Ho O d x p/\∀a,d a=none->O a=none:=by
 subst e;have i:p'≠x:=λe=>by rw[e,h.x]at f;cases f
 refine⟨⟨zd,by rw[ze i,zd]⟩,λa c hx j=>?_,λa c=>?_⟩
 .have:a≠p':=λe=>c (by rw[e];exact f);rw[ze hx,ze this]
 .by_cases q:a=x
  .subst q;rw[zd]at c;cases c
  .rw[ze q]at c;by_cases q2:a=p'
   .subst q2;exact f
   .rw[ze q2]at c;exact c
def zgE{x:Addr}{b:List Nat}(h:RdAt C O x dx p b)(c:List Nat):RdAt C (updO O p (.lst (c.map sgW))) x dx p c/\Ho O (updO O p (.lst (c.map sgW))) x p/\∀a,updO O p (.lst (c.map sgW)) a=none->O a=none:=by
 refine⟨⟨by rw[ze h.ne];exact h.x,zd⟩,λa _ _ e=>by rw[ze e],λa d=>?_⟩;by_cases q:a=p
 .subst q;rw[zd]at d;cases d
 .rw[ze q]at d;exact d
def ziv(b:List Nat):Txt.join noS (b.map sgS)=⟨b.toArray⟩:=za8 b
def zeQ{b:List Nat}(h:b≠[]):Txt.slice ⟨b.toArray⟩ (some 1) none=⟨(b.drop 1).toArray⟩:=by
 apply uP;have c:1<=(⟨b.toArray⟩:Str).length:=by show 1<=b.toArray.size;rw[lC];exact List.length_pos_iff.mpr h
 have:=zkY (z:=⟨b.toArray⟩) (a:=1) c;exact this
def xX{w:W}:List.lookup s!"begun" [(s!"begun",w)]=some w:=by simp[List.lookup]
def zkZ{x:Addr}(hx:O x=none)(b:updO O x (.ins C dx []) p=none)(g:∀a,a≠x->a≠p->O' a=updO O x (.ins C dx []) a):Old O O'/\O p=none/\p≠x:=by
 have e:p≠x:=λe=>by rw[e,zd]at b;cases b
 rw[ze e]at b;refine⟨λa d=>?_,b,e⟩;have c:a≠x:=λe=>d (by rw[e];exact hx);have f:a≠p:=λe=>d (by rw[e];exact b);rw[g a c f,ze c]
abbrev zjX(K:W.Frag):R2:=zh1 K
def Xs(a:X.K=K):OpR X (binaryOp .Add) (zjX K):=jc a
abbrev zjY:R2W:=λx y O R=>∃ws us,seqL O x=some ws/\seqL O y=some us/\ws.length+us.length<=1000000/\∀p,O p=none->R (.own p) (updO O p (.lst (ws++us)))
def zm3:RefR K (zjX K) zjY:=by
 rintro Γ O H x y v u S m n Q R ⟨ws,us,e,f,q,h⟩ k;obtain⟨a,vs,rfl,l,d⟩:=z9 S m e;obtain⟨b,o,rfl,j,c⟩:=z9 S n f;refine⟨a,b,vs,o,rfl,rfl,l,j,by rw[<-lJ d,<-lJ c,lI];lia,λp i=>?_⟩;obtain⟨g,S'⟩:=k5 S (Paired.appP d c) i;exact k _ _ _ _ _ (Le.refl _) S' yf (h p g)
def zk0{c:Nat}(h:c= 59\/(48<=c/\c<=57)):¬isLet c:=λz=>by rcases z with z|z<;>lia
def zbe:∀{t b:List Nat},b≠[]->(∀c∈t,c= 59\/(48<=c/\c<=57))->rdF b t=(b++t,[])
 |[],b,_,_=>by simp[rdF]
 |c::t,b,hb,h=>by
  have a:=h c lh;have e:rdS b c=(b++[c],[]):=by unfold rdS;rw[l7 (λz=>zk0 a z.2),l9 ⟨hb,a.symm⟩]
  have g:=zbe (t:=t) (b:=b++[c]) m!"" λd f=>h d (lg _ f);simp[rdF,e,g]
section
variable {xb db pb xr dr pr p' q:Addr}{bb br br' bb':List Nat}
end
def Sim.unframeW(S:Sim K Γ O H){us:List W}{F:Hp}(p:Γ.F=upd F a (.lst vs))(s:F a=none)(B:relWs K Γ us vs) :
  O a=none/\Sim K ⟨Γ.Z,Γ.G,F⟩ (updO O a (.lst us)) H:=by
 have g:Γ.F a=some (.lst vs):=by rw[p,zu]
 obtain⟨hz,t,j⟩:=S.fd _ _ g;have i:∀b o,F b=some o->b≠a/\Γ.F b=some o:=λb o e=>by
  have d:b≠a:=λz=>by rw[z,s]at e;cases e
  exact⟨d,by rw[p,zi d];exact e⟩
 have m:∀{x:Addr}{n:List (List PyData)},updO O a (.lst us) x=some (.grid n)->O x=some (.grid n):=λ{x n} h=>by
  by_cases hx:x=a
  .subst hx;rw[zd]at h;cases h
  .rw[ze hx]at h;exact h
 refine⟨t,⟨S.z,λb oo e=>?_,S.gd,λb u e=>S.f _ _ (i b u e).2,λb oo e A=>?_,λb o e=>S.fg b o (i b o e).2,λb o e=>⟨(S.fd b o (i b o e).2).1,by rw[ze (i b o e).1];exact(S.fd b o (i b o e).2).2.1,λc rows rs k=>(S.fd b o (i b o e).2).2.2 c rows rs (m k)⟩,λx y E I rs J r k q=>S.u x y E I rs J r (m k) (m q)⟩⟩
 .by_cases d:b=a
  .subst d;rw[zd]at e;cases e;exact⟨hz,vs,S.f _ _ g,Paired.mapP B λ_ _ z=>z.setF⟩
  .rw[ze d]at e;obtain⟨C,D⟩:=S.o _ _ e;refine⟨C,(D.keep (Le.refl _) rfl rfl λrs r v ⟨rows,l⟩ w=>⟨rfl,rfl,?_⟩).setF⟩;subst l;exact ze (λz=>j b rows rs e v (by rw[<-z];exact w))
 .by_cases d:b=a
  .rw[d];exact S.fg _ _ g
  .rw[ze d]at e;exact S.gn b oo e A
abbrev ziw(c:TI)(n:Nat)(js:List Nat)(g:TG)(b:TT)(a:TE):TE:=tLc c n js g b a
section
variable {js:List Nat}{scope:Scope}{cl:List (Str×Addr)}{elt iter:Expr}{ifs:List Expr}{wi:TI}{g:TG}{tt:TT}{te:TE}
def UA(L:LcOk X N n js scope cl)(d:X.calm=true)(h:PI X tg iter wi)
  (f:∀C c b a,PG (z7 X N scope cl C c b a) tg g)(j:∀C c b a,PTs (z7 X N scope cl C c b a) ifs tt)(e:∀C c b a,PE (z7 X N scope cl C c b a) elt te)
  (i:∀x,foldedSetIterable iter X.env x=pure x:=by intro _;rfl):PE X (.ListComp elt [⟨tg,iter,ifs,0⟩] scope pos) (ziw wi n js g tt te):=v1 L d h f j e i
def JL{b c:Pos}(h:X.N.Nodup)(hx:X.N[i]? =some x)(o:X.env.scope.names.lookup x=some .local)(L:LcOk X N n js scope cl)(j:X.calm=true)(m:PI X tg iter wi)
  (l:∀C e d a,PG (z7 X N scope cl C e d a) tg g)(q:∀C e d a,PTs (z7 X N scope cl C e d a) ifs tt)(k:∀C e d a,PE (z7 X N scope cl C e d a) elt te)
  (f:swapsWith (.ListComp elt [⟨tg,iter,ifs,0⟩] scope pos) (some (.Name x b)) c.line X.env=pure true:=by rfl)
  (p:∀x,foldedSetIterable iter X.env x=pure x:=by intro _;rfl):PS X (.Assign [.Name x b] (.ListComp elt [⟨tg,iter,ifs,0⟩] scope pos) c) (Qg (ziw wi n js g tt te) (Zo i)):=X3 h hx o L j m l q k f p
end
abbrev zm4(d:TIW)(n:Nat)(js:List Nat)(G:TGW)(T:TTW)(E:TEW):TEW:=λρ O R=>d ρ O λws a b=>ws.length<=100000/\∃J:Nat->List W->OM->Prop,J 0 [] b/\(∀i vs O',J i vs O'->a O')/\
 (∀i w vs O',ws[i]? =some w->J i vs O'->∀us:WS,us.length=n->bodyW G T E n (yH js ρ) w (us++yH js ρ) O' λy c=>J (i+1) (vs++y.toList) c)/\∀vs O',J ws.length vs O'->∀p,O' p=none->R (.own p) (updO O' p (.lst vs))
abbrev zm5(K:W.Frag):V->Option Int->Option Int->Hp->VK->Prop:=zhU K
def Yv(h:X.K=K):SlR X (zm5 K):=zmy h
def zk1(h:relWs K Γ ws vs)(lo a:Option Int):relWs K Γ (ji ws lo a) (kh vs lo a):=by
 have b:ws.length=vs.length:=lJ h;have:=Paired.takeP (Paired.dropP h (HT.sIx vs.length 0 lo)) (HT.sIx vs.length vs.length a-HT.sIx vs.length 0 lo);unfold ji kh;rw[b];exact this
abbrev zeR(d:TEW)(f e:TOW):TEW:=λρ O R=>d ρ O λx b=>f ρ b λl c=>e ρ c λu a=>∃ws,seqL a x=some ws/\∀p,a p=none->R (.own p) (updO a p (.lst (ji ws l u)))
def QS{j:TE}{n m:TO}{f:TEW}{h g:TOW}(A:RefE K j f)(C:Yq K n h)(B:Yq K m g):RefE K (tSl (zm5 K) j n m) (zeR f h g):=by
 intro Γ O H ρ σ S r Q R z k;refine A _ _ _ _ _ S r _ _ z λI T M x v c o G t=>?_;refine C _ _ _ _ _ o (r.mono c) _ _ t λJ U N l d q w=>?_;refine B _ _ _ _ _ q (r.mono (c.trans d)) _ _ w λL V P u i e b=>?_;obtain⟨ws,s,b⟩:=b;obtain⟨a,vs,rfl,E,F⟩:=z9 e ((G.mono d).mono i) s;refine⟨a,vs,rfl,E,λp D=>?_⟩;obtain⟨y,S'⟩:=k5 e (zk1 F l u) D;exact k _ _ _ _ _ ((c.trans d).trans i) S' yf (b p y)
abbrev UB(O:OM):W->Option PyData
 |.d x=>some x
 |.own a=>match O a with
  |some (.lst ws)=>(zZ ws).map .list
  |_=>none
 |_=>none
abbrev uk(O:OM):List W->Option (List PyData)
 |[]=>some []
 |w::ws=>match UB O w,uk O ws with
  |some d,some ds=>some (d::ds)
  |_,_=>none
abbrev vC(O:OM):W->Option PyData
 |.d x=>some x
 |.own a=>match O a with
  |some (.lst ws)=>(uk O ws).map .list
  |some (.grid rows)=>some (.list (rows.map .list))
  |_=>none
 |.row a i=>Ql O (.row a i)
def zgF{w:W}{x:PyData}(S:Sim K Γ O H)(r:relW K Γ w v)(e:UB O w=some x):Rep K H x v:=by
 cases w with
 |d y=>cases e;exact Rep.same S.z _ _ r
 |row _ _=>cases e
 |own a=>
  refine X7 S r ?_;simp only[UB]at e;simp only[Ql];split at e
  .rename_i ws h;rw[h];exact e
  .cases e
def UC(S:Sim K Γ O H):∀{ws:List W}{vs:List V}{ds:List PyData},relWs K Γ ws vs->uk O ws=some ds->Reps K H ds vs
 |[],_,ds,r,e=>by cases r;cases e;exact rfl
 |w::ws,_,ds,r,e=>by
  cases r with
  |cons rx t=>
   simp only[uk]at e;split at e
   .rename_i d a b c;cases e;exact⟨_,_,rfl,zgF S rx b,UC S t c⟩
   .cases e
def jY{w:W}{x:PyData}(S:Sim K Γ O H)(r:relW K Γ w v)(e:vC O w=some x):Rep K H x v:=by
 cases w with
 |d y=>cases e;exact Rep.same S.z _ _ r
 |row a i=>exact X7 S r e
 |own a=>
  simp only[vC]at e;split at e
  .rename_i ws h;cases(show v=.ref a from r);cases hd:uk O ws with
   |none=>rw[hd]at e;cases e
   |some ds=>rw[hd]at e;cases e;obtain⟨_,vs,b,c⟩:=S.o _ _ h;exact⟨a,vs,rfl,SqL.of b,UC S c hd⟩
  .rename_i rows h;refine X7 S r ?_;simp only[Ql,h];exact e
  .cases e
abbrev zeS:R2W:=λx y O R=>∃a b,vC O x=some a/\vC O y=some b/\SeqAt.shaped a=true/\SeqAt.shaped b=true/\R (.d (.bool (PyData.eqv a b))) O
abbrev zeT:R2W:=λx y O R=>∃a b,vC O x=some a/\vC O y=some b/\SeqAt.shaped a=true/\SeqAt.shaped b=true/\R (.d (.bool (!PyData.eqv a b))) O
def zgG:RefR K (zea K) zeS:=by
 rintro Γ O H x y v u S e f Q R ⟨a,b,c,d,g,i,h⟩ k;exact⟨a,b,jY S e c,jY S f d,g,i,k _ _ _ _ _ (Le.refl _) S yT h⟩
def zgH:RefR K (zhZ K) zeT:=by
 rintro Γ O H x y v u S e f Q R ⟨a,b,c,d,g,i,h⟩ k;exact⟨a,b,jY S e c,jY S f d,g,i,k _ _ _ _ _ (Le.refl _) S yT h⟩
def UD(O:OM):∀ds:List PyData,uk O (ds.map .d)=some ds
 |[]=>rfl
 |d::ds=>by simp only[lG,uk,UB,UD O ds]
section
variable {base:Heap}
end
end L2
namespace PySem.AutoListH
open AutoSeq1 (wpAny_loadPart')
open MeetsSeq MeetsSeq2 MeetsSeq3 SeqRoads2
def list_mul_sl(l:Addr)(items:Array Value)(n:Nat)(f:Array (Option Value))(x:Int)(u:Tok)(b:¬(!Builtin.List.listFitsIndex x)=true)(c:¬items.size*x.toNat>(2 ^ 63-1) / 8)(a:¬Builtin.List.listTooLong (items.size*x.toNat)=true) :
  Meets (Builtin.«list.__mul__» ⟨[.ref l,.int x u],[]⟩) (λ_ R s=>s.heap.get? l=some { cls:=.type "list",dict:=none,data:=.seq items n,slots:=f }/\R (.ok (.ret (Value.ref s.heap.objs.size))) { s with heap:=s.heap.push { cls:=Value.type "list",data:=Data.seq (List.foldl (λi j=>i++j) #[] (List.replicate (if items.isEmpty=true then 0 else x.toNat) items)) },toks:=s.toks }):=
 .of_wp λprog w A R s h=>by
  obtain⟨k,g,d,m,os⟩:=s;obtain⟨e,h⟩:=h;have hsz:=joined_fits a
  wp_walk using pq e;refine wpAny_ite_false (lR (Nat.not_lt.mpr hsz)) ?_;wp_walk;exact⟨_,rfl,h⟩
def rmul_sl(a:Int)(t:Tok)(l:Addr)(items:Array Value)(n:Nat)(b:Array (Option Value)) :
  Meets (Builtin.«int.__rmul__» ⟨[.int a t,.ref l],[]⟩) (λ_ R s=>s.heap.get? l=some { cls:=.type "list",dict:=none,data:=.seq items n,slots:=b }/\R (.ok (.ret Value.notImplemented)) s):=
 .of_wp λprog w A R s h=>by obtain⟨e,g,d,f,os⟩:=s;obtain⟨c,h⟩:=h;wp_walk;exact⟨_,rfl,h⟩
end PySem.AutoListH
namespace L2
open PySem PySem.Spec PyProof.Rows
section
variable (K:W.Frag)
end
section
variable {base:Heap}
end
abbrev zeU(K:W.Frag):R2:=λx y H Q=>∃l k a,x=.ref l/\y=.int k/\SqL K H l a/\-(2 ^ 63)<=k/\k<2 ^ 63/\a.length*k.toNat<=sizeLine/\
 ∀p,H p=none->Q (.ref p) (upd H p (.lst (List.replicate k.toNat a).flatten))
def zk2:OpR X (binaryOp .Mult) (zeU X.K):=by
  intro π s σ H x y v u Q I L M h;obtain⟨l,k,N,rfl,rfl,G,D,E,hz,q⟩:=h;cases L;obtain⟨t,rfl⟩:=M;obtain⟨b,r,⟨⟨O,P,J,p⟩,n,e,c,d,A⟩,B⟩:=I.list G;simp only at c d A;subst c d A;have B:N.length=b.length:=r.length;have j:b.toArray.size*k.toNat<=sizeLine:=by rw[lC,<-B];exact hz
  have g:¬b.toArray.size*k.toNat>(2 ^ 63-1) / 8:=by
    have:(sizeLine:Nat)<=(2 ^ 63-1) / 8:=∅
    lia
  have i:¬(!Builtin.List.listFitsIndex k)=true:=by rw[fitsIndex_both D E];exact lN
  have f:¬Builtin.List.listTooLong (b.toArray.size*k.toNat)=true:=by rw[X2 j];exact lN
  have o:List.foldl (λw z=>w++z) #[] (List.replicate (if b.toArray.isEmpty=true then 0 else k.toNat) b.toArray)=(List.replicate k.toNat b).flatten.toArray:=by
    have C:∀m:Nat,List.foldl (λw z=>w++z) #[] (List.replicate m b.toArray)=(List.replicate m b).flatten.toArray:=λm=>by have:=Z8 b m [];rw[nz]at this;exact this
    rw[C];cases b with
    |nil=>simp
    |cons a r'=>rw[l7 m!""]
  refine wpAny_binaryOp_repeat_ref (T:="list") (U:="int") ∅ ⟨_,e,rfl⟩ (λs'=>qb s' k t) noFill_list_mul F.fills_int_mul py repeat_list F.slot_int_index.lookup
    (ni py (qb s k t) F.entry_int_rmul (F.args_int_rmul_2 _ _) (AutoListH.rmul_sl k t l b.toArray n p)
      ⟨e,rfl,⟨_,e,rfl⟩,ni F.slot_list_mul ⟨_,e,rfl⟩ F.entry_list_mul (F.args_list_mul_2 _ _) (AutoListH.list_mul_sl l b.toArray n p k t i g f) ⟨e,?_⟩⟩)
  rw[o];exact⟨.ref _,_,I.lnew (t':=s.toks) (r.rep k.toNat) (by rw[zcZ,Nat.mul_comm];exact hz),rfl,q _ I.fresh⟩
def zk3(h:X.K=K):OpR X (binaryOp .Mult) (zeU K):=by subst h;exact zk2
abbrev zix(n:Int)(ds:List PyData):List PyData:=(List.replicate n.toNat ds).flatten
abbrev KR:R2W:=λx y O R=>∃ds n,seqD O x=some ds/\zU x=none/\y=.d (.int n)/\0<=n/\n<=1000/\ds.length*n.toNat<=100000/\R (.d (.list (zix n ds))) O
def zbf:RefR K (zeU K) KR:=by
 rintro Γ O H x y v u S j l Q R ⟨ds,n,e,d,rfl,o,q,m,h⟩ k;unfold seqD at e;rw[d]at e;simp only at e;cases hL:seqL O x with
 |none=>rw[hL]at e;cases e
 |some ws=>rw[hL]at e;obtain⟨a,vs,rfl,g,b⟩:=z9 S j hL;rw[xa (show zZ ws=some ds from e)]at b;have c:=zz b;refine⟨a,n,vs,rfl,l,g,⋯,⋯,by rw[<-Reps.length c,lI];lia,λp f=>?_⟩;obtain⟨Γ',le,S',i⟩:=k4 S (VC c n.toNat) f;exact k _ _ _ _ _ le S' i h
end L2
namespace PySem.MeetsSeq2
open AutoSeq1 (wpAny_loadPart')
open MeetsSeq
end PySem.MeetsSeq2
namespace L2
open PySem PySem.Spec PyProof.Rows
/---/abbrev DSp(kvs:List (Str×Value))(D:List (Str×Int)):Prop:=Paired (λ(p:Str×Value) (q:Str×Int)=>p.1=q.1/\∃t,p.2=.int q.2 t) kvs D
structure DS (P:Program) (w:World) (K:W.Frag) (a:Addr) (D:List (Str×Int)):Prop where
 ns:(a==sysModules)=false
 ex:∃(kvs:List (Str×Value)) (ep:Nat),(∀h:Heap,K.In h->h.DictAt (strKind P w) a kvs ep)/\DSp kvs D
def zbg:∀{kvs:List (Str×Value)}{D:List (Str×Int)},PyProof.V.FlatPairs PyData.str kvs ((D.map λp=>(p.1,PyData.int p.2)).map λp=>(PyData.str p.1,p.2))->DSp kvs D
 |_,[],h=>by cases h;exact .nil
 |_,(y,i)::D,h=>by
  simp only[lG]at h;cases h with
  |cons hf ht=>
   refine .cons ⟨rfl,?_⟩ (zbg ht);cases hf (default:Heap)with
   |int _ t=>exact⟨t,rfl⟩
def DS.of{D:List (Str×Int)}(c:KTD.tabLook KTD.flatLooks (λb=>K.lookup b) a (D.map λp=>(p.1,PyData.int p.2))=true)
  (u:((D.map λp=>(p.1,PyData.int p.2)).map (·.1)).Nodup)(r:KTD.hashesOf (λb=>K.lookup b) a=(D.map λp=>(p.1,PyData.int p.2)).map λp=>(strKind P w).hash p.1):DS P w K a D:=by
 simp only[KTD.tabLook,mI]at c;obtain⟨m,c⟩:=c;split at c
 .rename_i o i;simp only[mI]at c;obtain⟨⟨⟨j,k⟩,l⟩,d⟩:=c;split at d
  .rename_i es ep g;have f:es.toList.map (·.hash)=(D.map λp=>(p.1,PyData.int p.2)).map λp=>(strKind P w).hash p.1:=by
    rw[<-r];unfold KTD.hashesOf;simp only[i,g]
   obtain⟨s,kvs,v,q,t⟩:=KTD.strs_of_rows P w (KTD.rows_of_look (λ_ _ x=>KTD.flat_of_looks x) d) f;exact⟨by simpa using m,kvs,ep,λh X=>⟨o,es,X _ _ i,⟨oj.mp j,by simpa using k,by simpa using l⟩,g,λe n=>s e (by simpa using n),v,by rw[t];exact u⟩,zbg q⟩
  .cases d
 .cases c
def zeV{i:Int}(a:0<=i)(b:i<=1000000):i.natAbs.log2<1920:=by
 by_cases hz:i.natAbs= 0
 .rw[hz];decide
 .refine(Nat.log2_lt hz).2 ?_;have:i.natAbs<=1000000:=⋯
  exact pV this (lP (show 1000000<2 ^ 20 by decide) (Nat.pow_le_pow_right (n:=2) ∅ (show 20<=1920 by decide)))
abbrev zjZ:List V->Hp->VK->Prop:=λa H Q=>∃i,a=[.int i]/\i.natAbs.log2<1920/\Q (.str (toString i)) H
def yp:yj X (.type "str") zjZ:=K7
end L2
namespace L2
open PySem PySem.W PySem.Spec PySem.Calls PyProof.Rows
end L2
namespace L2
open PySem PySem.Spec PyProof.Rows
abbrev sp1:Str:=s!" "
def zk4(a b:Nat):Builtin.bitOr (a:Int) (b:Int)=((a |||b:Nat):Int):=by
 have c:¬(0:Int)<=Builtin.bitNot (a:Int):=by unfold Builtin.bitNot;lia
 have d:¬(0:Int)<=Builtin.bitNot (b:Int):=by unfold Builtin.bitNot;lia
 have e:∀x:Int,Builtin.bitNot (Builtin.bitNot x)=x:=λx=>by unfold Builtin.bitNot;lia
 unfold Builtin.bitOr Builtin.bitAnd;rw[lR c,lR d];simp only[e,nq]
def zbh(a b:Nat):Builtin.bitAnd (a:Int) (b:Int)=((a &&& b:Nat):Int):=by
 unfold Builtin.bitAnd;rw[lM (nX a),lM (nX b)];rfl
abbrev bitsD:List (Str×Int):=[(s!"bold",64),(s!"under",128),(s!"turned",256)]
abbrev zpB:Str:=s!"bold"
abbrev zpC:Str:=s!"under"
abbrev zpD:Str:=s!"turned"
abbrev zpE:Str:=s!"fore"
abbrev zpF:Str:=s!"back"
abbrev fig(k:Nat):Str:=⟨#[48+k]⟩
abbrev bun(n:Nat):List (List Str):=(if n / 64%2=1 then[[zpB]]else[])++(if n / 128%2=1 then[[zpC]]else[])++(if n / 256%2=1 then[[zpD]]else[])++(if n%8=0 then[]else[[zpE,fig (n%8)]])++(if n / 8%8=0 then[]else[[zpF,fig (n / 8%8)]])
abbrev inkT(n:Nat):Str:=if n= 0 then s!"plain" else Str.join sp1 ((bun n).map (Str.join sp1))
section
variable {base:Heap}
end
section
variable {H':Hp}{h':Heap}
end
end L2
namespace PySem
open Sem (wp)
section
variable {K:Type}[DecidableEq K]{knd:KeyKind prog w K}
variable {z TI TO i1 i2:Addr}{fp1 fp2:List Addr}{n1 n2:Nat}{P1 P2:Nat->Value->Prop}{St1 St2:Nat->Heap->Prop}
end
end PySem
namespace L2
open PySem PySem.Spec PyProof.Rows
abbrev zeW:W->List W->OM->WK->Prop:=λx ws O R=>∃a us y,x=.own a/\ws=[]/\O a=some (.lst us)/\us[us.length-1]? =some y/\R y (updO O a (.lst us.dropLast))
def Paired.dropLastP{α β:Type}{F:α->β->Prop}{a:List α}{b:List β}(r:Paired F a b):Paired F a.dropLast b.dropLast:=by
 have e:b.length=a.length:=(lJ r).symm;rw[List.dropLast_eq_take,List.dropLast_eq_take,e];exact Paired.takeP r _
def Paired.eraseP{α β:Type}{F:α->β->Prop}{a:List α}{b:List β}(r:Paired F a b):∀k,Paired F (a.eraseIdx k) (b.eraseIdx k):=by
 induction r with
 |nil=>intro k;exact .nil
 |cons h t ih=>
  intro k;cases k with
  |zero=>exact t
  |succ k=>exact .cons h (ih k)
def zj0{T:String}:RefM K T zmo zeW:=by
 rintro Γ O H x v j vs S i rs Q R ⟨a,us,y,rfl,rfl,c,e,h⟩ k;cases rs;cases(show v=.ref a from i);obtain⟨_,vs,f,b⟩:=S.o _ _ c;obtain⟨u,d,g⟩:=Paired.getP b e;rw[lJ b]at d;exact⟨a,vs,u,rfl,rfl,f,d,k _ _ _ _ _ (Le.refl _) (S.put (oo:=.lst _) c (by intro _ h;cases h) (by intro _ h;cases h) ⟨_,zu,Paired.dropLastP b⟩) g h⟩
abbrev UE:W->List W->OM->WK->Prop:=λx ws O R=>∃a us y,∃n:Nat,x=.own a/\ws=[.d (.int n)]/\O a=some (.lst us)/\us[n]? =some y/\n<=1000/\R y (updO O a (.lst (us.eraseIdx n)))
def zdb{T:String}:RefM K T zf7 UE:=by
 rintro Γ O H x v q vs S m rs Q R ⟨a,us,y,n,rfl,rfl,c,i,p,h⟩ k;cases rs with
 |cons rn t=>
  cases t;cases(show v=.ref a from m);obtain⟨_,vs,j,e⟩:=S.o _ _ c;obtain⟨u,d,l⟩:=Paired.getP e i;have b:n<vs.length:=(lv.mp d).1;refine⟨a,vs,n,n,u,rfl,by rw[show _=V.int n from rn],j,⋯,⋯,?_,d,k _ _ _ _ _ (Le.refl _) (S.put (oo:=.lst _) c (by intro _ h;cases h) (by intro _ h;cases h) ⟨_,zu,Paired.eraseP e n⟩) l h⟩;unfold seqIndex?;have f:¬((n:Int)<0):=⋯
  have g:¬((n:Int)≥(vs.length:Int)):=⋯
  simp[f,g,b]
abbrev UF:List W->OM->WK->Prop:=λa O R=>∃i:Int,a=[.d (.int i)]/\-1000000<=i/\i<=1000000/\R (.d (.str (toString i))) O
def zgI:RefC K zjZ UF:=by
 rintro Γ O H c vs S rs Q R ⟨i,rfl,a,b,h⟩ k;cases rs with
 |cons rx t=>cases t;refine⟨i,by rw[show _=V.int i from rx],?_,k _ _ _ _ _ (Le.refl _) S vR h⟩;have e:=zeV (i:=(i.natAbs:Int)) ⋯ ⋯;rwa[Int.natAbs_natCast]at e
def zk5(a:X.calm=true):yj X (.builtin "sorted") zed:=zao a
abbrev zeX:List W->OM->WK->Prop:=λb O R=>∃a kvs,∃ns:List Int,b=[.own a]/\O a=some (.dK kvs)/\kvs.map (·.1)=ns.map (Sum.inl:Int->Key)/\ns.length<64/\R (.d (.list ((srt ns).map .int))) O
def zgJ:RefC K zed zeX:=by
 rintro Γ O H l vs S rs Q R ⟨a,kvs,ns,rfl,d,b,c,h⟩ k;cases rs with
 |cons rx t=>cases t;obtain⟨_,us,g,i⟩:=S.o _ _ d;refine⟨a,us,ns,by rw[show _=V.ref a from rx],g,by rw[<-zey i];exact b,c,λp e=>?_⟩;obtain⟨Γ',f,S',j⟩:=k4 S (Us (srt ns)) e;exact k _ _ _ _ _ f S' j h
abbrev strI(i:Int):Str:=toString i
structure MA where
 sp:Addr
 kq:Addr
 q:Addr
section
variable {A:MA}
end
abbrev ButO(O O':OM)(a:List Addr):Prop:=∀b,b∉a->O b≠none->O' b=O b
section
variable {O1:OM}{x st kp d:Addr}{A:MA}{S' S1:ST}{xs:List Addr}
def ButO.refl:ButO O O xs:=λ_ _ _=>rfl
def ButO.trans(a:ButO O O1 xs)(b:ButO O1 O' xs):ButO O O' xs:=λc d f=>by
 have e:=a c d f;rw[b c d (by rw[e];exact f),e]
def ButO.upd{o:OO}(h:a∈xs):ButO O (updO O a o) xs:=λb c _=>ze λe=>c (by rw[e];exact h)
def ButO.old(h:ButO O O' xs):∀{b:Addr}{o:OO},O b=some o->b∉xs->O' b=some o:=λ{b o} e a=>by rw[h b a (by rw[e];simp),e]
def ButO.mono{ys:List Addr}(h:ButO O O' xs)(m:∀b∈xs,b∈ys):ButO O O' ys:=λb c a=>h b (λz=>c (m b z)) a
def But.butO(h:But O O' x p):ButO O O' [x,p]:=λb a _=>h b (λe=>a (by simp[e])) (λe=>a (by simp[e]))
end
abbrev goS(c:Nat)(n:Int)(S:ST):ST:=
 if c= 117 then{ S with row:=if eT S>S.row-n then eT S else S.row-n }else if c= 100 then{ S with row:=if eB S<S.row+n then eB S else S.row+n }
 else if c= 108 then{ S with col:=if eL S>S.col-n then eL S else S.col-n }else if c= 114 then{ S with col:=if eR S<S.col+n then eR S else S.col+n }else S
abbrev offS(S:ST):ST:={ S with late:=false }
abbrev ZF(S:ST):KP:=⟨S.row,S.col,S.late,S.ink,S.wrap,S.putting,S.home⟩
abbrev keepS(S:ST):ST:={ S with kept:=(if S.kept.length<8 then S.kept else S.kept.drop 1)++[ZF S] }
abbrev backS(S:ST):ST:=match S.kept[S.kept.length-1]? with
 |some k=>{ S with row:=k.row,col:=k.col,late:=k.late,ink:=k.ink,wrap:=k.wrap,putting:=k.putting,home:=k.home,kept:=S.kept.dropLast }
 |none=>S
inductive sKeep (C:Addr) (f:ST->ST) (ws:List W) (O:OM) (R:WK):Prop
 |mk:∀x dx p st a S,ws=[.own x]->StAt O C x dx p st a S->S.kept.length<=8->(∀O',StAt O' C x dx p st a (f S)->ButO O O' [x,a]->R (.d .none) O')->sKeep C f ws O R
abbrev plT(S:ST):Str:=if S.home=true then strI (S.row+1-S.top)++s!";" ++ strI (S.col+1-S.left)else strI (S.row+1)++s!";" ++ strI (S.col+1)
abbrev szT(S:ST):Str:=strI S.w++s!"x" ++ strI S.h
abbrev ansD(S:ST):PyData->List Str
 |.none=>[plT S]
 |.int i=>if i= 0\/i= 1 then[plT S]else if i= 2 then[szT S]else if i= 3 then[inkT S.ink.toNat]else[]
 |_=>[]
abbrev ansL(S:ST)(ns:List PyData):List Str:=(ns.map (ansD S)).flatten
def Zb{c:TTW}{T U:TSW}{D:EndsW}{ρ:WS}(q:Prop)[Decidable q](a:∀R:Bool->OM->Prop,R (decide q) O->c ρ O R)(b:q->T D ρ O)(d:¬q->U D ρ O):xN c T U D ρ O:=by
 refine a _ ?_;show if decide q=true then T D ρ O else U D ρ O
 by_cases h:q
 .rw[l9 (lM h)];exact b h
 .rw[l7 (by simp[h])];exact d h
def zR{c:TEW}{U:TSW}{D:EndsW}{ρ:WS}{x:Addr}{fs a:List (Str×W)}{y:W}{b:Str}(d:Cls K C)(g:NoAttr K C b)(e:zM b y fs=a)(k:∀R:WK,R y (updO O x (.ins C dx fs))->c ρ (updO O x (.ins C dx fs)) R)(f:fs.length<1000)(j:ρ[i]? =some (some (.own x)))(h:U D ρ (updO O x (.ins C dx a))):yR (qg K (zO i) c b) U D ρ (updO O x (.ins C dx fs)):=by
 refine k _ ?_;show zO i ρ _ _;unfold zO;rw[j];refine⟨C,dx,fs,zd,d,g,f,?_⟩;show U D ρ _;rw[yW,e];exact h
def QT{x:Addr}{o:OO}(h:O x=some o):O=updO O x o:=by
 funext b;by_cases e:b=x
 .rw[e,zd,h]
 .rw[ze e]
def Xt{n:PyData}{a b:Int}(h:a<=b):a<=uN n a b/\uN n a b<=b:=by
 have:=vV (n:=n);unfold uN;split<;>lia
def Bds.pl{r c:PyData}(h:Bds S):Bds (plS r c S):=by
 have t:=h.tb;have l:=h.t0;have g:=h.b1;have a:=h.lr;have j:=h.l0;have k:=h.rr;have m:=h.w1;have i:=h.h1;have b:=Xt (n:=r) t;have d:=Xt (n:=c) a;have e:=Xt (n:=r) (show(0:Int)<=S.h-1 by omega);have f:=Xt (n:=c) (show(0:Int)<=S.w-1 by omega);unfold plS;split
 .exact{ h with r0:=by simp only;omega,r1:=by simp only;omega,c0:=by simp only;omega,c1:=by simp only;omega }
 .exact{ h with r0:=by simp only;omega,r1:=by simp only;omega,c0:=by simp only;omega,c1:=by simp only;omega }
def zdc{m:PyData}{s:Int}:xV m s<=s:=by
 unfold xV;split
 .split
  .lia
  .split<;>lia
 .lia
def Bds.rows{a b:PyData}(h:Bds S):Bds (rowsS a b S):=by
 have o:=vV (n:=a);have e:=zdc (m:=b) (s:=S.h);unfold rowsS;split
 .exact h
 .exact Bds.pl { h with t0:=by simp only;lia,tb:=by simp only;lia,b1:=by simp only;lia }
def Bds.cols{a b:PyData}(h:Bds S):Bds (colsS a b S):=by
 have o:=vV (n:=a);have e:=zdc (m:=b) (s:=S.w);unfold colsS;split
 .exact h
 .exact Bds.pl { h with l0:=by simp only;lia,lr:=by simp only;lia,rr:=by simp only;lia }
def Bds.dye{ns:List PyData}(h:Bds S):Bds (dyeS ns S):=by
 have a:∀(ns:List PyData) (i:Int),Ink i->Ink (ns.foldl dyeI i):=λns=>by
  induction ns with
  |nil=>exact λi h=>h
  |cons n ns ih=>exact λi h=>ih _ (zaS h)
 have:=a ns S.ink ⟨h.i0,h.i1⟩;exact{ h with i0:=this.1,i1:=this.2 }
def zoq(h:Bds S):0<=eT S/\eT S<=S.row:=by
 have:=h.t0;have:=h.r0;unfold eT;split<;>lia
def zor(h:Bds S):S.row<=eB S/\eB S<S.h:=by
 have:=h.b1;have:=h.r1;unfold eB;split<;>lia
def zos(h:Bds S):eL S<=S.col:=by
 have:=h.c0;unfold eL;split<;>omega
def Bds.goS{c:Nat}{n:Int}(a:0<=n)(h:Bds S):Bds (goS c n S):=by
 have t:=zoq h;have b:=zor h;have l:=KL h;have d:=zos h;have r:=jW h;have:=h.r0;have:=h.r1;have:=h.c0;have:=h.c1;unfold L2.goS
 repeat' split
 all_goals first|exact h|exact{ h with r0:=by simp only;omega,r1:=by simp only;omega } |exact{ h with c0:=by simp only;omega,c1:=by simp only;omega }
abbrev KOk(S:ST):Prop:=S.kept.length<=8/\∀k∈S.kept,0<=k.row/\k.row<S.h/\0<=k.col/\k.col<S.w/\Ink k.ink
def KOk.keep(h:KOk S)(b:Bds S):KOk (keepS S):=by
 refine⟨?_,λk a=>?_⟩
 .unfold keepS;simp only[lx,p8];split
  .omega
  .rw[m9];have:=h.1;omega
 .unfold keepS at a;simp only[ls,lf]at a;rcases a with a|rfl
  .split at a
   .exact h.2 k a
   .exact h.2 k (nl a)
  .exact⟨b.r0,b.r1,b.c0,b.c1,b.i0,b.i1⟩
def zk6(h:KOk S)(b:Bds S):KOk (backS S)/\Bds (backS S):=by
 unfold backS;split
 .rename_i k a;obtain⟨r0,r1,c0,c1,i0,i1⟩:=h.2 k (lE a);exact⟨⟨by simp;have:=h.1;lia,λz hz=>h.2 z (List.dropLast_subset _ hz)⟩,{ b with r0:=r0,r1:=r1,c0:=c0,c1:=c1,i0:=i0,i1:=i1 }⟩
 .exact⟨h,b⟩
section
variable {x st kp d:Addr}{A:MA}{r c:PyData}{k:Int}{on:Bool}{ns:List PyData}
def KOk.of{S':ST}(h:KOk S)(e:S'.w=S.w/\S'.h=S.h/\S'.stops=S.stops/\S'.kept=S.kept):KOk S':=by
 obtain⟨a,b,_,c⟩:=e;unfold KOk;rw[a,b,c];exact h
end
end L2
namespace L2
open PySem PySem.Spec PyProof.Rows PySem.Builtin PySem.Builtin.Str
abbrev zj1:R2:=zmq
def zdd:OpR X (binaryOp .Mult) zj1:=zmr
abbrev zj2:R2W:=λx y O R=>∃a ws ds n,x=.own a/\y=.d (.int n)/\O a=some (.lst ws)/\zZ ws=some ds/\0<=n/\n<=1000/\ds.length*n.toNat<=100000/\∀p,O p=none->R (.own p) (updO O p (.lst ((List.replicate n.toNat ds).flatten.map W.d)))
def XL:∀{ds:List PyData}{vs:List V},Reps K Γ.Z ds vs->relWs K Γ (ds.map W.d) vs
 |[],_,h=>by cases(show _=[]from h);exact .nil
 |d::ds,_,h=>by obtain⟨v,vs,rfl,a,b⟩:=h;exact .cons a (XL b)
def zm6:RefR K zj1 zj2:=by
 rintro Γ O H x y v u S j l Q R ⟨a,ws,ds,n,rfl,rfl,f,e,q,r,m,h⟩ k;cases(show v=.ref a from j);obtain⟨_,vs,i,b⟩:=S.o _ _ f;rw[xa e]at b;have c:=zz b;refine⟨a,n,vs,rfl,l,i,⋯,⋯,by rw[<-Reps.length c,lI];lia,λp g=>?_⟩;obtain⟨d,S'⟩:=k5 S (XL (VC c n.toNat)) g;exact k _ _ _ _ _ (Le.refl _) S' yf (h p d)
end L2
namespace L2
open PySem PySem.Spec PyProof.Rows
section
variable {te:TE}{lo hi:Option Expr}{tl th:TO}{p2:Pos}
end
abbrev wipP(f:PF)(k:Int)(w:Nat)(a b:Int):PF:=λi j=>if j<w/\a<=(i:Int)*w+j/\(i:Int)*w+j<b then blank k else f i j
abbrev wipS(a b:Int)(S:ST):ST:={ S with pic:=wipP S.pic S.ink S.w a b,late:=false }
abbrev spI(y:Int)(S:ST):Int×Int:=
 if y= 0 then(S.row*S.w+S.col,S.row*S.w+S.w)else if y= 1 then(S.row*S.w,S.row*S.w+S.col+1)else if y= 2 then(S.row*S.w,S.row*S.w+S.w)
 else if y= 3 then(S.row*S.w+S.col,S.w*S.h)else if y= 4 then(0,S.row*S.w+S.col+1)else if y= 5 then(0,S.w*S.h)else(0,0)
abbrev wayD:PyData->Int
 |.int i=>i
 |_=>0
def StAt.old{x st a:Addr}(s:StAt O C x dx p st a S)(h:Old O O'):StAt O' C x dx p st a S:=
 ⟨by rw[h x (by rw[s.x];simp)];exact s.x,by rw[h p (by rw[s.p];simp)];exact s.p,by rw[h st (by rw[s.st];simp)];exact s.st,by rw[h a (by rw[s.kp];simp)];exact s.kp⟩
def AllOk.wip{a b:Int}(h:AllOk S):AllOk (wipS a b S):=by
 refine⟨λi j c d=>?_,h.2⟩;show okC (wipP S.pic S.ink S.w a b i j);unfold wipP;split
 .show PyData.strOk s!" "=true;decide +kernel
 .exact h.1 i j c d
abbrev QU(C:Addr):SpW:=λws O R=>sBegin C ws O R\/∃x dx p st e S,ws=[.own x]/\StAt O C x dx p st e S/\1<=S.w/\S.w<=24/\
 ∀c a O',O c=none->O a=none->StAt O' C x dx p c a (st0 S.w S.h S.pic)->(∀b,b≠x->b≠c->b≠a->O' b=O b)->R (.d .none) O'
abbrev newS(S:ST):ST:=wipS 0 ((S.w:Int)*S.h) (st0 S.w S.h S.pic)
abbrev stopS(S:ST):ST:={ S with stops:=if S.col∈S.stops then S.stops else S.stops++[S.col] }
inductive sSetStop (C:Addr) (ws:List W) (O:OM) (R:WK):Prop
 |mk:∀x dx p st a S,ws=[.own x]->StAt O C x dx p st a S->S.stops.length<100->(∀O',StAt O' C x dx p st a (stopS S)->ButO O O' [st]->R (.d .none) O')->sSetStop C ws O R
def zgK(l:List Int)(c:Int):ud (stK l) (Sum.inl c) (W.d (.bool true))=stK (if c∈l then l else l++[c]):=by
 unfold ud;have e:((stK l).any λa=>decide (a.1=(Sum.inl c:Key)))=decide (c∈l):=by
  rw[ox,om,decide_eq_true_iff];unfold stK;constructor
  .rintro⟨a,f,h⟩;obtain⟨i,b,rfl⟩:=lH.1 f;have:=mC h;cases this;exact b
  .intro h;exact⟨_,lH.2 ⟨c,h,rfl⟩,m!""⟩
 rw[e];by_cases h:c∈l
 .rw[l9 (lM h),l9 h];unfold stK;rw[lT];apply nw;intro i _;simp only[Function.comp];split
  .rfl
  .rfl
 .rw[l7 (by simp[h]),l7 h];unfold stK;simp
section
variable {k m:Nat}{sp:Sp}{f:Str}{dvs:List V}{a b o:Expr}{ta tb te:TE}{t:TA}{p apos pos':Pos}
def zg(c:Cal X.prog X.w X.K X.mg X.base k x dvs sp)(h:Room m X.A)(q:QA X (e::es) t)(g:k<=m:=by decide)(f:Gl X x:=by rfl)(a:(x==("__debug__":Str))=false:=by decide)
  (d:starEach (e::es) X.env=(false,eval e X.env)::starEach es X.env:=by rfl)(b:(backTo pos (starEach es X.env)).any (·.1)=false:=by rfl):PE X (.Call (.Name x p) (e::es) [] pos) (Zr sp dvs E0 t):=zmu c (h.mono g) f q.pa a d b
def vD{pl:Sem Bool}(c:CalT X.prog X.w X.K X.mg X.base k x C sp)(h:Room m X.A)(d:PE X o ta)(q:QA X (e::es) t)(g:k<=m:=by decide)
    (b:starEach (e::es) X.env=(false,eval e X.env)::starEach es X.env:=by rfl)(a:(backTo pos (starEach es X.env)).any (·.1)=false:=by rfl)
    (i:eval (.Call (.Attribute o x apos) (e :: es) [] pos) X.env=(do
      let ov<-eval o X.env
      standAt apos.atName
      let(f,first)<-holding [ov] (getMethod ov x pl)
      callWith pos f first (backTo pos (starEach (e::es) X.env)) (backToKw pos (keywordEach [] X.env))):=by rfl):PE X (.Call (.Attribute o x apos) (e::es) [] pos) (Xc C x sp [] E0 ta t):=zmF (pl:=pl) c (h.mono g) d q.pa b a i
def fl(K:W.Frag)(c:PE X e ta)(a:X.K=K:=by rfl)(b:attributeBase e f X.env (eval e X.env)=eval e X.env:=by rfl):PE X (.Attribute e f pos) (zd0 K ta f):=zkQ a c b
def fs(K:W.Frag)(b:PE X o ta)(d:PE X e te)(a:X.K=K:=by rfl)(c:swapsWith e (some (.Attribute o f pos')) pos.line X.env=pure false:=by rfl):PS X (.Assign [.Attribute o f pos'] e pos) (zd1 K ta te f):=zkR a b d c
def zo(i:Nat)(a:X.N.Nodup)(b:PE X e te)(d:X.N[i]? =some x:=by rfl)(hx:Loc X.env.scope x:=by first|exact Or.inl rfl|exact Or.inr rfl)(f:swapsWith e (some (.Name x pos')) pos.line X.env=pure false:=by rfl)(c:X.fn x=true\/X.env.scope.names.lookup x=some .local:=by first|exact .inl rfl|exact .inr rfl|assumption) :
  PS X (.Assign [.Name x pos'] e pos) (Qg te (Zo i)):=zl8 a d hx b f c
def zl{c:CmpOp}{r:R2}(g:OpR X (compareOp c) r)(e:PE X a ta)(f:PE X b tb)(h:c≠.In:=by decide)(d:c≠.NotIn:=by decide):PT X (.Compare a [c] [b] pos) (Kr (tOp r ta tb)):=Y9 g e f (zfV b h d)
def UG{c:CmpOp}{r:R2}(g:OpR X (compareOp c) r)(e:PE X a ta)(f:PE X b tb)(h:c≠.In:=by decide)(d:c≠.NotIn:=by decide):PE X (.Compare a [c] [b] pos) (tOp r ta tb):=zkl g e f (zfV b h d)
def zp{r:R2}(e:IxR X r)(c:PE X a ta)(d:PE X b tb)(f:Qi b:=by exact λ_ _=>rfl):PE X (.Subscript a b pos) (tOp r ta tb):=zod e c d f
def KS{T U:TSW}{D:EndsW}{ρ:WS}(l:WS)(a:∀R:WS->OM->Prop,R l O->T { D with nx:=R } ρ O)(b:U D l O):yR T U D ρ O:=a (U D) b
end
section
variable {base:Heap}
def Fun.okU{a:Str}{e:List Str}{k:Nat}{s:SpW}{t:TS}{T:TSW}(F:Fun K x a st f fd)(S:FnScope N e (defScope st))(len:∀ws O R,s ws O R->ws.length=e.length)
  (h:∀{c:Value}{A:Around}{b:List Env}{g:Shared}{H:Hp}{E:XK},Room k (A.deeper (envOfC a (defScope st) g.heap.objs.size f c))->PSs (vG CX0 P w K mg base N a (defScope st) f c A b g H E).nox (defBody st) t)
  (i:RefS K t T)(j:∀ws O R,s ws O R->T { nx:=λ_ O'=>Clo R (.d .none) O',rt:=Clo R } (yy N ws) O):FnOk P w K mg base CX0 (k+1) f fd e (liftSp K s):=F.okV S len (λ_ _ _ _ _ _ l=>h l) i j
def FunD.okU{a:Str}{ds:List Value}{e:List Str}{k:Nat}{s:SpW}{t:TS}{T:TSW}(F:FunD K x a st ds f fd)(S:FnScope N e (defScope st))(len:∀ws O R,s ws O R->ws.length=e.length)
  (h:∀{c:Value}{A:Around}{b:List Env}{g:Shared}{H:Hp}{E:XK},Room k (A.deeper (envOfC a (defScope st) g.heap.objs.size f c))->PSs (vG CX0 P w K mg base N a (defScope st) f c A b g H E).nox (defBody st) t)
  (i:RefS K t T)(j:∀ws O R,s ws O R->T { nx:=λ_ O'=>Clo R (.d .none) O',rt:=Clo R } (yy N ws) O):FnOk P w K mg base CX0 (k+1) f fd e (liftSp K s):=F.okV S len (λ_ _ _ _ _ _ l=>h l) i j
end
section
variable {T T1 T2 T3 T4 U:TSW}{D:EndsW}{ρ:WS}
def yO(J:WS->OM->Prop)(b:∀R:WS->OM->Prop,(∀a O',J a O'->R a O')->T { D with nx:=R } ρ O)(c:∀Q:WS->OM->Prop,(∀a O',U D a O'->Q a O')->∀a O',J a O'->Q a O'):yR T U D ρ O:=b (U D) (c (U D) λ_ _ h=>h)
def Yw(J:WS->OM->Prop)(b:∀R:WS->OM->Prop,(∀a O',J a O'->R a O')->yR T1 T2 { D with nx:=R } ρ O)(c:∀Q:WS->OM->Prop,(∀a O',U D a O'->Q a O')->∀a O',J a O'->Q a O'):yR T1 (yR T2 U) D ρ O:=b (U D) (c (U D) λ_ _ h=>h)
def jm(J:WS->OM->Prop)(b:∀R:WS->OM->Prop,(∀a O',J a O'->R a O')->yR T1 (yR T2 T3) { D with nx:=R } ρ O)(c:∀Q:WS->OM->Prop,(∀a O',U D a O'->Q a O')->∀a O',J a O'->Q a O'):yR T1 (yR T2 (yR T3 U)) D ρ O:=b (U D) (c (U D) λ_ _ h=>h)
def Xu(a:∀R:WS->OM->Prop,R ρ O->T { D with nx:=R } ρ O)(b:U D ρ O):yR T U D ρ O:=a (U D) b
def zS.byG{b:OM->Prop}{G:TGW}{c:TSW}(Pv:Nat->WS->OM->Prop)(d:Pv 0 ρ O)(j:∀i ρ O,Pv i ρ O->b O)
  (k:∀i w (Q:WS->OM->Prop),(∀ρ O,(∀R:WS->OM->Prop,(∀a O',Pv (i+1) a O'->R a O')->G w ρ O λa O'=>c { D with nx:=R,ct:=R,bk:=D.nx } a O')->Q ρ O)->∀ρ O,ws[i]? =some w->Pv i ρ O->Q ρ O)(g:∀ρ O,Pv ws.length ρ O->D.nx ρ O):zS ws b G c D ρ O:=
 zS.by Pv d j (λi w ρ O e p R f=>k i w (λρ O=>∀R:WS->OM->Prop,(∀a O',Pv (i+1) a O'->R a O')->G w ρ O λa O'=>c { D with nx:=R,ct:=R,bk:=D.nx } a O') (λ_ _ h=>h) ρ O e p R f) g
def zS.rngG{f:Nat->Int}{G:TGW}{b:TSW}(Pv:Nat->WS->OM->Prop)(c:Pv 0 ρ O)
  (k:∀i (Q:WS->OM->Prop),(∀ρ O,(∀R:WS->OM->Prop,(∀a O',Pv (i+1) a O'->R a O')->G (.d (.int (f i))) ρ O λa O'=>b { D with nx:=R,ct:=R,bk:=D.nx } a O')->Q ρ O)->∀ρ O,i<n->Pv i ρ O->Q ρ O)(j:∀ρ O,Pv n ρ O->D.nx ρ O):zS ((List.range n).map λi=>.d (.int (f i))) (λ_=>True) G b D ρ O:=
 zS.rng Pv c (λi ρ O e p R g=>k i (λρ O=>∀R:WS->OM->Prop,(∀a O',Pv (i+1) a O'->R a O')->G (.d (.int (f i))) ρ O λa O'=>b { D with nx:=R,ct:=R,bk:=D.nx } a O') (λ_ _ h=>h) ρ O e p R g) j
end
section
variable {base:Heap}
def Fun.okG{a:Str}{e:List Str}{k:Nat}{s:SpW}{t:TS}{T:TSW}(F:Fun K x a st f fd)(S:FnScope N e (defScope st))(len:∀ws O R,s ws O R->ws.length=e.length)
  (i:∀{c:Value}{A:Around}{b:List Env}{g:Shared}{H:Hp}{E:XK},Room k (A.deeper (envOfC a (defScope st) g.heap.objs.size f c))->PSs (vG CX0 P w K mg base N a (defScope st) f c A b g H E).nox (defBody st) t)
  (j:RefS K t T)(l:∀Q:List W->OM->WK->Prop,(∀ws O R,T { nx:=λ_ O'=>Clo R (.d .none) O',rt:=Clo R } (yy N ws) O->Q ws O R)->∀ws O R,s ws O R->Q ws O R):FnOk P w K mg base CX0 (k+1) f fd e (liftSp K s):=F.okU S len i j (l _ λ_ _ _ h=>h)
def FunD.okG{a:Str}{ds:List Value}{e:List Str}{k:Nat}{s:SpW}{t:TS}{T:TSW}(F:FunD K x a st ds f fd)(S:FnScope N e (defScope st))(len:∀ws O R,s ws O R->ws.length=e.length)
  (i:∀{c:Value}{A:Around}{b:List Env}{g:Shared}{H:Hp}{E:XK},Room k (A.deeper (envOfC a (defScope st) g.heap.objs.size f c))->PSs (vG CX0 P w K mg base N a (defScope st) f c A b g H E).nox (defBody st) t)
  (j:RefS K t T)(l:∀Q:List W->OM->WK->Prop,(∀ws O R,T { nx:=λ_ O'=>Clo R (.d .none) O',rt:=Clo R } (yy N ws) O->Q ws O R)->∀ws O R,s ws O R->Q ws O R):FnOk P w K mg base CX0 (k+1) f fd e (liftSp K s):=F.okU S len i j (l _ λ_ _ _ h=>h)
end
def hid{A:Prop}(h:∀Q:Prop,(A->Q)->Q):A:=h A id
inductive LcI (K:W.Frag) (c:Gh) (D:Addr) (n:Nat) (b:WS) (J:List W->OM->Prop) (i:Nat) (σ:St) (H:Hp):Prop
 |mk:∀Γ O ρ us vs,Same c.Z Γ.Z->(∀a rs,c.G a=some rs->∃more,Γ.G a=some (rs++more))->Γ.F=upd c.F D (.lst vs)->Sim K Γ O H->relR K Γ ρ σ->ρ.length=n+b.length->ρ.drop n=b->J us O->us.length<=i->relWs K Γ us vs->LcI K c D n b J i σ H
inductive LcA (n:Nat) (a:WS) (G:TGW) (T:TTW) (E:TEW) (ws:List W) (b:OM->Prop) (c:OM) (R:Addr->List W->OM->Prop):Prop
 |mk:∀J:Nat->List W->OM->Prop,ws.length<=1000000->J 0 [] c->(∀i vs O',J i vs O'->b O')->(∀i w vs O',ws[i]? =some w->J i vs O'->∀us:WS,us.length=n->∃B:Option W->OM->Prop,bodyW G T E n a w (us++a) O' B/\∀y d,B y d->J (i+1) (vs++y.toList) d)->(∀vs O',J ws.length vs O'->∀p,O' p=none->R p vs O')->LcA n a G T E ws b c R
def UH{wi:TI}{Wi:TIW}{js:List Nat}{g:TG}{G:TGW}{tt:TT}{T:TTW}{te:TE}{E:TEW}(hi:vj K wi Wi)(hg:RefG K g G)(ht:xt K tt T)(he:RefE K te E){ρ:WS}(S:Sim K Γ O H)(r:relR K Γ ρ σ){Q:VK}{R:Addr->List W->OM->Prop}{P0:List W->(OM->Prop)->OM->Prop}
  (hT:Wi ρ O P0)(hP:∀ws j L,P0 ws j L->LcA n (yH js ρ) G T E ws j L R)(k:∀Γ' O' t D us,Le Γ Γ'->Sim K Γ' (updO O' D (.lst us)) t->O' D=none->R D us O'->Q (.ref D) t):tLc wi n js g tt te σ H Q:=by
 refine hi _ _ _ _ _ S r _ _ hT λd L H1 J0 ws j l1 S1 ok h1=>?_;refine hid λ_ gQ=>?_;obtain⟨J,xk,ys,xb,hF,hR⟩:=hP _ _ _ h1;apply gQ;intro D hD;have zs:d.F D=none:=S1.f.free hD;have r1:=JC (r.mono l1) n js;refine⟨λi m I t=>(i<=ws.length/\m=ws.length-i)/\LcI K d D n (yH js ρ) (J i) i I t,⟨_,⟨lY _,rfl⟩,⟨d.Z,d.G,upd d.F D (.lst [])⟩,L,_,[],[],Same.refl _,λa rs h=>⟨[],by rw[mm];exact h⟩,rfl,S1.frameNew hD (.lst []),r1.setF,m!"",m!"",ys,ll _,.nil⟩,?_⟩;intro i m I t h;refine hid λ_ gQ=>?_;obtain⟨⟨hi,em⟩,Γ',O',xq,us,vs,X,g',Y,S',r',n1,n2,hJ,s,V⟩:=h;apply gQ;subst em;have w:=ok i Γ' O' t X g' S' (xb _ _ _ hJ);have xl:vs.length<=i:=by rw[<-lJ V];exact s
 by_cases hlt:i<ws.length
 .have y:=w.1 _ (lp hlt);refine .inr ⟨y.1,LcI K d D n (yH js ρ) (J (i+1)) (i+1),λxr H2 h=>⟨ws.length-(i+1),f!"i",⟨hlt,rfl⟩,h⟩,λx H2 hy=>?_⟩;refine hid λ_ gQ=>?_;obtain⟨xo,l2,S2,rx⟩:=y.2 x H2 hy;obtain⟨ul,xe,eu⟩:=zaE n1 n2;obtain⟨B,hB,v⟩:=hF i _ us O' (lp hlt) hJ ul xe;apply gQ;rw[eu]at r';refine hg _ _ _ _ _ _ _ S2 (r'.mono l2) rx _ _ hB λxp O3 H3 C xs l3 S3 U u=>?_;refine ht _ _ _ _ _ S3 U _ _ u.2 λA O4 H4 b P S4 M=>?_;have o:=(l2.trans l3).trans P;have up:∀c,Le Γ' c->∀a rs,d.G a=some rs->∃more,c.G a=some (rs++more):=λc l a rs h=>by
   obtain⟨m,e⟩:=g' a rs h;obtain⟨m2,e2⟩:=l.g a _ e;exact⟨m++m2,by rw[<-mS];exact e2⟩
  cases b with
  |true=>
   rw[l9 rfl]at M ⊢;refine he _ _ _ _ _ S4 (U.mono P) _ _ M λc O5 H5 w5 v5 l5 S5 r5 N=>?_;have p:=o.trans l5;have f5:c.F=upd d.F D (.lst vs):=by rw[p.f,Y]
   have fD:c.F D=some (.lst vs):=by rw[f5,zu]
   refine⟨vs,S5.f _ _ fD,(by rw[lI];omega),⟨c.Z,c.G,upd c.F D (.lst (vs++[v5]))⟩,O5,C,us++[w5],vs++[v5],X.trans p.z,up c p,?_,S5.framePut fD _,((U.mono P).mono l5).setF,u.1.1,u.1.2,v _ _ N,by rw[lx];exact Nat.succ_le_succ s,Paired.appP (Paired.mapP V λ_ _ z=>(z.mono p).setF) (.cons r5.setF .nil)⟩;show upd c.F D _=_;rw[f5,zki]
  |false=>rw[l7 ∅]at M ⊢;have N:=v _ _ M;rw[show us++(none:Option W).toList=us from mm _]at N;exact⟨A,O4,C,us,vs,X.trans o.z,up A o,by rw[o.f,Y],S4,U.mono P,u.1.1,u.1.2,N,oJ s,Paired.mapP V λ_ _ z=>z.mono o⟩
 .have xd:i=ws.length:=f!"i"
  subst xd;have q:=S'.unframeW Y zs V;exact .inl ⟨w.2 rfl,k ⟨Γ'.Z,Γ'.G,d.F⟩ _ _ _ _ (l1.trans ⟨rfl,X,g'⟩) q.2 q.1 (hR us O' hJ D q.1)⟩
section
variable {wi:TI}{Wi:TIW}{js:List Nat}{g:TG}{G:TGW}{tt:TT}{T:TTW}{te:TE}{E:TEW}
def zde{o:OO}(h:O p=none):del (updO O p o) p=O:=by
 funext b;unfold del updO;by_cases e:b=p
 .rw[l9 e,e,h]
 .rw[l7 e,l7 e]
def zk7{F:W->Option PyData}{w:W}(h:ws[i]? =some w):((ws.take i).filterMap F).map W.d++((F w).map W.d).toList=((ws.take (i+1)).filterMap F).map W.d:=by
 rw[nv,h,List.filterMap_append,lS];congr 1;cases e:F w<;>simp[e]
def zgL{a:WS}{b:OM->Prop}{c:OM}{R:Addr->List W->OM->Prop}{F:W->Option PyData}(k:b c)(o:ws.length<=1000)(g:∀w∈ws,∀us:WS,us.length=n->bodyW G T E n a w (us++a) c λy f=>f=c/\y=(F w).map .d)(j:∀p,c p=none->R p ((ws.filterMap F).map .d) c):LcA n a G T E ws b c R:=by
 refine⟨λi vs O'=>O'=c/\vs=((ws.take i).filterMap F).map .d,⋯,⟨rfl,rfl⟩,λi vs O' h=>h.1▸k,λi w vs O' e h us m=>?_,λvs O' h p l=>?_⟩
 .obtain⟨rfl,rfl⟩:=h;refine⟨_,g w (lE e) us m,λy f q=>⟨q.1,?_⟩⟩;rw[q.2];exact zk7 e
 .obtain⟨rfl,h⟩:=h;rw[my]at h;rw[h];exact j p l
def ziy(p:vj K wi Wi)(o:RefG K g G)(s:xt K tt T)(m:RefE K te E):RefE K (ziw wi n js g tt te) (zm4 Wi n js G T E):=λΓ O H ρ σ S r Q R j k=>
  UH p o s m S r (R:=fun D us O'=>R (.own D) (updO O' D (.lst us))) j (fun ws a u h=>by
    obtain⟨v,J,b,c,d,f⟩:=h;exact⟨J,⋯,b,c,λi w vs O' e q us t=>⟨_,d i w vs O' e q us t,λ_ _ z=>z⟩,f⟩) λ_ _ _ _ _ l S' _ h=>k _ _ _ _ _ l S' yf h
def VE(m:vj K wi Wi)(j:RefG K g G)(o:xt K tt T)(i:RefE K te E):RefE K (zmM wi n js g tt te) (zer Wi n js G T E):=λΓ O H ρ σ S r Q R f k=>
  UH m j o i S r (R:=fun D us O'=>R (.own D) (updO O' D (.lst us))) f (fun ws a p h=>by
    obtain⟨b,c,F,d,e⟩:=h;exact zgL b c d e) λ_ _ _ _ _ l S' _ h=>k _ _ _ _ _ l S' yf h
def zdf{Q:VK}{R:WK}(k:∀Γ' O' H' w v,Le Γ Γ'->Sim K Γ' O' H'->relW K Γ' w v->R w O'->Q v H'):∀Γ' O' H' D us,Le Γ Γ'->Sim K Γ' (updO O' D (.lst us)) H'->O' D=none->(∃ds:List PyData,us=ds.map .d/\R (.d (.list ds)) O')->Q (.ref D) H':=by
 rintro Γ' O' H' D _ l S' b ⟨ds,rfl,h⟩;obtain⟨f,c,a,e⟩:=S'.freeze zd;rw[zde b]at a;exact k _ _ _ _ _ (l.trans c) a e h
def QV(l:vj K wi Wi)(j:RefG K g G)(m:xt K tt T)(i:RefE K te E):RefE K (tLc wi n js g tt te) (wLc Wi n js G T E):=λΓ O H ρ σ S r Q R f k=>
  UH l j m i S r f (fun ws a o h=>by
    obtain⟨b,c,F,d,e⟩:=h;exact zgL b c d λp q=>⟨_,rfl,e⟩) (zdf k)
def VF(v:vj K wi Wi)(u:RefG K g G)(y:xt K tt T)(t:RefE K te E):RefE K (zm1 wi n js g tt te) (zeP Wi n js G T E):=λΓ O H ρ σ S r Q R q k=>
  UH v u y t S r q (fun ws a b h=>by
    obtain⟨j,l,c,m,o⟩:=h;refine⟨λi vs O'=>O'=b/\∃ds:List PyData,ds.length=i/\(∀d∈ds,c d)/\vs=ds.map .d,l,⟨rfl,[],rfl,λd h=>(nomatch h),rfl⟩,λi vs O' h=>h.1▸j,λi w vs O' e h us z=>?_,?_⟩
    · obtain⟨rfl,ds,rfl,A,rfl⟩:=h
      refine⟨_,m w (lE e) us z,?_⟩;rintro _ D ⟨f,d,rfl,s⟩;refine⟨f,ds++[d],by rw[lx];rfl,λx hx=>?_,by rw[lS];rfl⟩;rcases ls.1 hx with hx|hx
      · exact A x hx
      · cases lf.1 hx;exact s
    · rintro _ _ ⟨rfl,ds,B,C,rfl⟩ p _
      exact⟨ds,rfl,o ds B C⟩) (zdf k)
inductive LgR (K:W.Frag) (a Γ:Gh) (F:W->List PyData) (ws:List W) (j:Nat) (q:Addr):Prop
 |mk:∀vs w,a.F q=none->Γ.F q=some (.lst vs)->ws[j]? =some w->Reps K Γ.Z (F w) vs->LgR K a Γ F ws j q
inductive LgI (K:W.Frag) (c:Gh) (D:Addr) (n:Nat) (b:WS) (d:OM) (F:W->List PyData) (ws:List W) (i:Nat) (σ:St) (H:Hp):Prop
 |mk:∀(Γ:Gh) (ρ:WS) (rs:List Addr),Same c.Z Γ.Z->(∀a rs,c.G a=some rs->∃more,Γ.G a=some (rs++more))->Sim K Γ d H->relR K Γ ρ σ->ρ.length=n+b.length->ρ.drop n=b->Γ.F D=some (.lst (rs.map V.ref))->rs.Nodup->D∉rs->rs.length=i->(∀(j:Nat) (q:Addr),rs[j]? =some q->LgR K c Γ F ws j q)->(∀x,x≠D->x∉rs->Γ.F x=c.F x)->LgI K c D n b d F ws i σ H
def zeY{rs:List Addr}(d:rs.Nodup)(h:b∉rs):(rs++[b]).Nodup:=by
 rw[nu];exact⟨d,m!"",λu c v a=>by simp at a;subst a;exact λz=>h (by rw[<-z];exact c)⟩
def zeZ{rs:List Addr}{D:Addr}(h:D∉rs)(h':b≠D):D∉rs++[b]:=λm=>by
 rcases ls.1 m with m|m
 .exact h m
 .exact h' (lf.1 m).symm
def VG(hi:vj K wi Wi)(hg:RefG K g G)(ht:xt K tt T)(he:RefE K te E):RefE K (zmN wi n js g tt te) (zes Wi n js G T E):=by
  intro Γ O H ρ σ S r Q R hT k;refine hi _ _ _ _ _ S r _ _ hT λl M H1 J ws wa l1 S1 ok h1=>?_;refine hid λ_ gQ=>?_;obtain⟨hk,xO,F,hF,hR⟩:=h1;apply gQ;intro D hD;have ys:l.F D=none:=S1.f.free hD;have xb:=(S1.free hD).2.1;have r1:=JC (r.mono l1) n js;refine⟨λi m X H'=>(i<=ws.length/\m=ws.length-i)/\LgI K l D n (yH js ρ) M F ws i X H',⟨_,⟨lY _,rfl⟩,⟨l.Z,l.G,upd l.F D (.lst [])⟩,_,[],Same.refl _,λa rs h=>⟨[],by rw[mm];exact h⟩,S1.frameNew hD (.lst []),r1.setF,m!"",m!"",zu,.nil,lF,rfl,λj q h=>(by cases h),λx hx _=>zi hx⟩,?_⟩;intro i m X H' h;refine hid λ_ gQ=>?_;obtain⟨⟨hi,em⟩,Γ',wf,rs,z',g',S',r',n1,n2,fD,nd,nD,hl,t,p⟩:=h;apply gQ;subst em;have W:=ok i Γ' M H' z' g' S' hk;by_cases hlt:i<ws.length
  · have y:=W.1 _ (lp hlt)
    refine .inr ⟨y.1,LgI K l D n (yH js ρ) M F ws (i+1),λwg H2 h=>⟨ws.length-(i+1),⋯,⟨hlt,rfl⟩,h⟩,λx H2 hy=>?_⟩;refine hid λ_ gQ=>?_;obtain⟨wc,l2,S2,rx⟩:=y.2 x H2 hy;obtain⟨us,xp,eu⟩:=zaE n1 n2;apply gQ;rw[eu]at r';refine hg _ _ _ _ _ _ _ S2 (r'.mono l2) rx _ _ (hF _ (ny hlt) us xp) λwd O3 H3 xA wh l3 S3 r3 h3=>?_;refine ht _ _ _ _ _ S3 r3 _ _ h3.2 λwe O4 H4 b l4 S4 h4=>?_;have xs:=(l2.trans l3).trans l4;cases b with
    |false=>rw[l7 ∅]at h4;obtain⟨_,_,h,_⟩:=h4;cases h
    |true=>
      rw[l9 rfl]at h4 ⊢;refine he _ _ _ _ _ S4 (r3.mono l4) _ _ h4 λc O5 H5 w5 v5 l5 S5 r5 h5=>?_;have u:=xs.trans l5;have C:c.F=Γ'.F:=u.f;have xr:∃b v,v5=.ref b/\b≠D/\b∉rs/\l.F b=none/\relWs K c ((F ws[i]).map .d) v/\Sim K ⟨c.Z,c.G,upd c.F b (.lst v)⟩ M H5:=by
        obtain⟨b,xd,hw,rfl⟩:=h5;cases hw;have P:updO M b (.lst ((F ws[i]).map .d)) b=some (.lst ((F ws[i]).map .d)):=zd;have L:c.F b=none:=by
          cases e:c.F b with
          |none=>rfl
          |some o=>have:=(S5.fd _ _ e).2.1;rw[P]at this;cases this
        have B:b≠D:=λe=>by rw[e,C,fD]at L;cases L
        have s:b∉rs:=λm=>by obtain⟨j,hj,e⟩:=pG.mp m;obtain⟨vs,w,_,q,_,_⟩:=t j b (by rw[lp hj,e]);rw[C,q]at L;cases L
        obtain⟨v,wb,A,N⟩:=S5.frameOwn P;rw[zde xd]at N;exact⟨b,v,r5,B,s,by rw[<-p b B s,<-C];exact L,A,N⟩
      refine hid λ_ gQ=>?_;obtain⟨b,v,ev,B,s,zs,A,N⟩:=xr;apply gQ;subst ev;have I:upd c.F b (.lst v) D=some (.lst (rs.map V.ref)):=by rw[zi (Ne.symm B),C];exact fD
      refine⟨rs.map V.ref,N.f _ _ I,qk (by rw[l8];lia),⟨c.Z,c.G,upd (upd c.F b (.lst v)) D (.lst (rs.map V.ref++[.ref b]))⟩,xA,rs++[b],z'.trans u.z,λa ss h=>?_,N.framePut I (.lst (rs.map V.ref++[.ref b])),(((r3.mono l4).mono l5).setF).setF,h3.1.1,h3.1.2,by rw[lS];exact zu,zeY nd s,zeZ nD B,by rw[lx,hl];rfl,λj q e=>?_,λx hx U=>?_⟩
      · obtain⟨m,e⟩:=g' a ss h
        obtain⟨m2,Y⟩:=u.g a _ e;exact⟨m++m2,by rw[<-mS];exact Y⟩
      · by_cases hj:j<rs.length
        · rw[mz hj]at e
          obtain⟨vs,w,q1,q2,q3,q4⟩:=t j q e;have xo:q≠b:=λz=>s (by rw[<-z];exact lE e);have xl:q≠D:=λz=>nD (by rw[<-z];exact lE e);refine⟨vs,w,q1,?_,q3,Reps.same u.z _ _ q4⟩;show upd (upd c.F b _) D _ q=_;rw[zi xl,zi xo,C];exact q2
        · have xk:j=rs.length:=by
            have:=(lv.mp e).1;rw[lx]at this;have h1:[b].length= 1:=rfl
            lia
          subst xk;rw[mJ (ll _),Nat.sub_self]at e;cases e;refine⟨v,ws[i],zs,?_,by rw[hl];exact lp hlt,zz (Γ:=c) A⟩;show upd (upd c.F b _) D _ b=_;rw[zi B,zu]
      · have xq:x≠b:=λz=>U (by rw[z];exact lW _ (lf.2 rfl))
        show upd (upd c.F b _) D _ x=_;rw[zi hx,zi xq,C];exact p x hx λm=>U (n9 _ m)
  · have xe:i=ws.length:=⋯
    refine .inl ⟨W.2 xe,?_⟩;refine hid λ_ gQ=>?_;obtain⟨q1,G',q2,q3⟩:=S'.gridify (F:=l.F) (rows:=ws.map F) ys fD nd nD (by rw [l8];lia) (fun j q ds e1 Y=>by
      obtain⟨vs,w,y1,y2,y3,y4⟩:=t j q e1;rw[lw,y3]at Y;cases Y;exact⟨y1,vs,y2,y4⟩) p
    apply gQ;exact k ⟨Γ'.Z,G',l.F⟩ _ _ _ _ (l1.trans ⟨rfl,z',λa ss h=>by obtain⟨m,e⟩:=g' a ss h;exact⟨m,q2 _ _ e⟩⟩) q3 yf (hR D xb)
end
section
variable {x st kp:Addr}
def qy:(fldW p st kp S).length<1000:=by rw[ZA];decide
end
abbrev rollT(a:Bool)(n:PyData)(S:ST):ST:={ rollS S.top (if a=true then oneD n else -(oneD n)) S with late:=false }
def AllOk.roll{a s:Int}(h:AllOk S)(b:Bds S)(c:0<=a):AllOk (rollS a s S):=⟨yv.mv h.1 c b.b1 b.l0 b.rr,h.2⟩
def AllOk.left(h:AllOk S):AllOk (leftS S):=h
def AllOk.lineE(h:AllOk S)(c:Bds S):AllOk (lineE S):=by
 have b:=h.left;have a:=c.left;unfold L2.lineE;dsimp only;split
 .exact b.roll a a.t0
 .split
  .exact b
  .exact b
def Inv.swap{d:Addr}{o i:HO}(I:Inv X π σ H s)(a:H d=some o)(l:∀f,o≠.tup f)(v:∀k,o≠.tbl k)(B:∀y,o≠.own y)(A:∀q u,X.H₀ d≠some (.frz q u))
  (h:zN X.prog X.w (upd H d i) s.heap d i):Inv X π σ (upd H d i) s where
 ok:=I.ok
 os:=I.os
 bare:=I.bare
 base:=by
  refine⟨I.base.keep,I.base.slot,λb j e n hx=>?_,I.base.there,λb f e=>?_,λb j u e=>?_,λb k e=>?_⟩
  .have q:=I.base.free b j e n hx;rw[zi (λz=>by rw[z,a]at q;cases q)];exact q
  .have q:=I.base.tups b f e;rw[zi (λz=>by rw[z,a]at q;exact l f (lV q))];exact q
  .have q:=I.base.frzs b j u e;rw[zi (λz=>by rw[z]at e;exact A _ _ e)];exact q
  .obtain⟨more,q⟩:=I.base.tbls b k e;refine⟨more,?_⟩;rw[zi (λz=>by rw[z,a]at q;exact v _ (lV q))];exact q
 loc:=I.loc
 cell:=I.cell
 free:=by rw[zi (λz=>by have q:=I.free;rw[z,a]at q;cases q)];exact I.free
 freeC:=λx c e=>by have q:=I.freeC x c e;rw[zi (λz=>by rw[z,a]at q;cases q)];exact q
 pin:=λp t=>by obtain⟨m,g,r⟩:=I.pin p t;refine⟨m,?_,r⟩;rw[zi (λz=>by rw[z,a]at g;cases g)];exact g
 hok:=λb u e=>by
  by_cases z:b=d
  .subst z;rw[zu]at e;cases e;exact h
  .rw[zi z]at e;refine(I.hok b u e).stay (λ_ _ _ q=>q) (λc q=>?_) λc f q=>?_
   .rw[zi (λz=>by rw[z,a]at q;exact B _ (lV q))];exact q
   .rw[zi (λz=>by rw[z,a]at q;exact l _ (lV q))];exact q
 len:=I.len
def Inv.nofrz{d:Addr}(I:Inv X π σ H s)(a:H d=some (.dK kvs)):∀q u,X.H₀ d≠some (.frz q u):=λq u e=>by
 have z:=I.base.frzs d q u e;rw[a]at z;cases z
def Inv.freeze{d:Addr}{o:Obj}(I:Inv X π σ H s)(a:H d=some (.dK kvs))(b:s.heap.get? d=some o):Inv X π σ (upd H d (.frz o (.dK kvs))) s:=
 I.swap a (λ_ z=>nomatch z) (λ_ z=>nomatch z) (λ_ z=>nomatch z) (I.nofrz a) ⟨b,show zN X.prog X.w _ s.heap d (.dK kvs)from I.hok d _ a⟩
def Inv.thaw{d:Addr}{o:Obj}(I:Inv X π σ H s)(b:∀q u,X.H₀ d≠some (.frz q u))(a:H d=some (.frz o (.dK kvs))):Inv X π σ (upd H d (.dK kvs)) s:=
 I.swap a (λ_ z=>nomatch z) (λ_ z=>nomatch z) (λ_ z=>nomatch z) b (show zN X.prog X.w _ s.heap d (.dK kvs)from(I.hok d _ a).2)
abbrev zm7(t:TS):TS:=λD σ H=>∃d kvs,H d=some (.dK kvs)/\t { D with nx:=λa b=>(∃o,b d=some (.frz o (.dK kvs)))/\D.nx a (upd b d (.dK kvs)) } σ H
def zm8{t:TS}(h:PS X st t):PS X st (zm7 t):=by
 intro π s σ H D I ⟨d,kvs,c,g⟩;refine thn (h π s σ H _ I g) λf s' q=>?_;cases f with
 |next=>obtain⟨a,i,b,⟨o,e⟩,q⟩:=q;exact⟨a,_,b.thaw (I.nofrz c) e,q⟩
 |brk=>exact q
 |cont=>exact q
 |ret u=>exact q
abbrev Itd(d:Addr)(o:Obj)(kvs:List (Key×V)):It:=
 ⟨λi H=>H d=some (.frz o (.dK kvs))/\i<kvs.length,λi H x a=>a=H/\∃k v,kvs[i]? =some (k,v)/\x=kV k,λi H=>H d=some (.frz o (.dK kvs))/\kvs.length<=i⟩
def ziz{k:Key}(h:jR k u=true):RelV (kV k) u:=by
 rcases yh h with⟨i,t,rfl,rfl⟩|⟨x,t,rfl,rfl⟩
 .exact⟨t,rfl⟩
 .exact⟨t,rfl⟩
def zgM(d it:Addr)(o:Obj)(kvs:List (Key×V))(vs:List (Key×Value))(ep:Nat)(g:KV kvs vs)(j:∀h:Heap,h.get? d=some o->h.DictAt (zK P w) d vs ep) :
  Turn P w K tg (Itd d o kvs) [it] it (λi h=>h.IsKeyIter it d i vs.length ep) where
 mem:=lf.mpr rfl
 obj:=λi h st b a=>by cases lf.mp a;obtain⟨o,e,c,d⟩:=st;exact⟨o,e,λv z=>by rw[d]at z;cases z⟩
 keep:=λi h h' st k=>st.at λo e=>k it (lf.mpr rfl) o e
 item:=by
  intro X A C y G i π s σ H E I n st B;subst A C y;obtain⟨q,r,S,t,u,x⟩:=n it (lf.mpr rfl);obtain⟨f,J⟩:=B;have F:=(show zN X.prog X.w H s.heap d (.frz o (.dK kvs))from I.hok d _ f).1;have len:=g.length;obtain⟨⟨k,v⟩,hx⟩:∃p,vs[i]? =some p:=⟨vs[i],by simp[<-len,J]⟩;refine wpAny_pyNext_dict_item st (j _ F) hx λD h' l m U=>?_;have M:Inv X π σ H { s with heap:=h' }:=I.turned (t':=s.toks) (λb o a e=>(U.2 b a).trans e) q r t u x;obtain⟨Y,e,c,N⟩:=id m;refine⟨D,rfl,Y7 (s:={ s with heap:=h' }) e c N ∅ ⟨kV k,H,M,ziz l,⟨rfl,?_⟩,m,λb a=>(n b a).1⟩⟩;have L:(kvs.map (·.1))[i]? =some k:=by rw[g.keys,lw,hx];rfl
  rw[lw]at L;obtain⟨⟨T,W⟩,O,Q⟩:=mW.mp L;exact⟨T,W,O,by rw[<-Q]⟩
 done:=by intro X A C y G i π s σ H E I n st B;subst A C y;obtain⟨q,r,S,t,u,x⟩:=n it (lf.mpr rfl);obtain⟨f,J⟩:=B;have F:=(show zN X.prog X.w H s.heap d (.frz o (.dK kvs))from I.hok d _ f).1;have len:=g.length;exact wpAny_pyNext_dict_end (I.ok.hd G) st (j _ F) (by simp;lia) λh' R=>⟨rfl,I.turned (t':=s.toks) (λb o a e=>R b o a e) q r t u x⟩
 self:=λ_ _ _ _ _ st h=>wpAny_pyIter_keyiter st h
abbrev zm9(c:TE):TI:=λσ H R=>c σ H λx b=>∃a kvs,x=.ref a/\b a=some (.dK kvs)/\∀o,R (Itd a o kvs) (upd b a (.frz o (.dK kvs)))
def zk8{l:Expr}{k:TE}(r:PE X l k):PI X tg l (zm9 k):=by
 intro π s σ H R I h;refine thn (r π s σ H _ I h) λv i ⟨y,x,j,w,u⟩=>?_;obtain⟨a,kvs,rfl,e,q⟩:=u;cases w;obtain⟨z,p,vs,g,m⟩:=Uf j.hok e;obtain⟨ep,c⟩:=m.dictAt;obtain⟨o,es,t,d⟩:=id c;have f:=j.freeze e t;refine wpAny_pyIter_dict p c ⟨i.heap.objs.size,[i.heap.objs.size],_,_,_,rfl,f.kept (t':=i.toks) λb o e=>li _ e,zgM a _ o kvs vs ep g (λh e=>⟨o,es,e,d⟩),⟨_,lL _ rfl,rfl,rfl⟩,λb n=>?_,q o⟩;cases lf.mp n;exact f.fpOk (ll _) (f.hok.fresh (ll _))
abbrev tK(ns:List Int):List (Key×V):=ns.map λi=>(Sum.inl i,V.bl true)
def zgN{ns:List Int}:(tK ns).length=ns.length:=l8 ..
def zna{ns:List Int}{k:Key}(h:(tK ns)[i]? =some (k,v)):∃z,ns[i]? =some z/\k=Sum.inl z:=by
 unfold tK at h;rw[lw]at h;obtain⟨z,e,q⟩:=mW.mp h;cases q;exact⟨z,e,rfl⟩
end L2
namespace PySem
open Sem (wp)
abbrev yc{K:Type}[DecidableEq K](b more:List (K×Addr×Value)):List (K×Addr×Value):=more.foldl (λa x=>storedH a x.1 x.2.1 x.2.2) b
section
variable {K:Type}[DecidableEq K]
def XA(a more:List (K×Addr×Value))(i:Nat)(x:K×Addr×Value)(h:more[i]? =some x):yc a (more.take (i+1))=storedH (yc a (more.take i)) x.1 x.2.1 x.2.2:=by
 simp[yc,nv,h,mT]
def XM(b:List (K×Addr×Value))(k:K)(a:Addr)(v:Value):(storedH b k a v).length<=b.length+1:=by
 unfold storedH;split<;>simp
def zcy(a more:List (K×Addr×Value)):(yc a more).length<=a.length+more.length:=by
 induction more generalizing a with
 |nil=>simp[yc]
 |cons x rest ih=>
  have b:=ih (storedH a x.1 x.2.1 x.2.2);have c:=XM a x.1 x.2.1 x.2.2;simp only[yc,mU,lQ]at b ⊢
  lia
def ze0{a:List (K×Addr×Value)}{k:K}(h:k∉a.map (·.1)):atKey a k=none:=
 oK λj p e=>h (lH.2 ⟨_,lE e,rfl⟩)
def J9(a more:List (K×Addr×Value))(b:((a++more).map (·.1)).Nodup):yc a more=a++more:=by
 induction more generalizing a with
 |nil=>simp[yc]
 |cons x rest ih=>
  have c:x.1∉a.map (·.1):=λm=>by rw[lS,lG,nu]at b;exact b.2.2 _ m _ lh rfl
  have:yc a (x::rest)=yc (a++[x]) rest:=by simp only[yc,mU,storedH_new (ze0 c)]
  rw[this,ih (a++[x]) (by simpa using b)];simp
end
section
variable {K:Type}[DecidableEq K]{knd:HeapKind prog w K}
def jo{d:Addr}{t:List (K×Addr×Value)}{k:K}{v:Value}{Q:Unit->Shared->Prop}(C:knd.room A)(f:knd.is s.heap k a)(B:s.heap.DictOfH knd d t)
    (u:∀h',h'.DictOfH knd d (storedH t k a v)->Heap.SameBut d s.heap h'->Q () { s with heap:=h' })
    (hsz:t.length<=sizeLine:=by size_fits) :
    wpAny (model prog w) A (dictSetHashed d (.ref a) (knd.hash k) v) Q E s:=by
  obtain⟨o,es,ep,g,z,b,n,h,i⟩:=B;unfold dictSetHashed
  try with_reducible refine mD ?_
  refine l6 (wpAny_dictFind_heap C f g b n h i ?_ ?_)
  · intro c
    have m:k∉t.map (·.1):=not_mem_keys_of_get c;refine l6 (qh (wpAny_updateDictKeys (hz:=by have e:=size_of_entries n;lia) g b (u _ ⟨_,_,ep+1,n5 _ g (pK (oq b _)),
      z.mapDictKeys _,oq b _,?_,?_,?_⟩ (mV ..))))
    · rw[storedH_new (oK c)]
      simp[n,entryOfKey]
    · rw[storedH_new (oK c)]
      intro x hx;rcases ls.mp hx with hx|hx
      · exact knd.keeps (h x hx) g b (mV ..)
      · simp only[lf]at hx
        subst hx;exact knd.keeps f g b (mV ..)
    · rw[storedH_new (oK c)]
      rw[lS,nu];refine⟨i,m!"",?_⟩;intro x hx y r;simp only[lG,pz,lf]at r;subst r;exact λe=>m (e▸hx)
  · intro j p q
    refine l6 (qh (l6 (wpAny_updateDict g b (wpAny_point (u _ ⟨_,_,ep,n5 _ g (pK (Obj.data_mapDict b _)),
      z.mapDict _,Obj.data_mapDict b _,?_,?_,?_⟩ (mV ..))))))
    · rw[storedH_old (atKey_of_get i q)]
      have:=modify_map_putAt (entryOfKey knd) (λe:DictEntry=>{ e with val:=v }) k v (λ_ _=>rfl) i q;rw[<-n]at this;obtain⟨l⟩:=es;simpa using this
    · rw[storedH_old (atKey_of_get i q)]
      intro x hx;obtain⟨y,r,rfl⟩:=lH.mp hx;unfold putAt;split<;>exact knd.keeps (h y r) g b (mV ..)
    · rw[storedH_old (atKey_of_get i q)]
      rw[keys_map_putAt];exact i
def zcz{a:List (K×Addr×Value)}(b:(a.map λx=>knd.hash x.1).Nodup){e:DictEntry}(d:e∈a.map (entryOfKey knd)):((a.map (entryOfKey knd)).filter (·.hash==e.hash)).length<=1:=by
 induction a with
 |nil=>simp
 |cons x a ih=>
  rw[lG,ng]at b;have i:∀c:Int,c∉a.map (λx=>knd.hash x.1)->(a.map (entryOfKey knd)).filter (·.hash==c)=[]:=λc f=>by rw[List.filter_eq_nil_iff];intro y g q;obtain⟨z,hz,rfl⟩:=lH.1 g;exact f (lH.2 ⟨z,hz,by simpa[entryOfKey]using q⟩)
  rw[lG,List.filter_cons];split
  .rename_i q;have q:knd.hash x.1=e.hash:=by simpa[entryOfKey]using q
   rw[i e.hash (by rw[<-q];exact b.1)];simp
  .rename_i q;rw[lG]at d;rcases lu.1 d with h|h
   .subst h;simp at q
   .exact ih b.2 h
def qz{id:String}{d:Addr}{o:Obj}{es ep}{g:List (K×Addr×Value)}{Q:Array DictEntry->Shared->Prop}(r:s.heap.get? d=some o)(p:o.data=.dict es ep)(c:es.toList=g.map (entryOfKey knd))
  (t:∀x∈g,∃b:Bool,∀i:Bool->Shared->Prop,i b s->wpAny (model prog w) A (Builtin.Dict.quietEq (.ref x.2.1)) i E s)(q:(g.map λx=>knd.hash x.1).Nodup)(h:Q es s) :
  wpAny (model prog w) A (Builtin.Dict.entriesForEmpty id d) Q E s:=by
 unfold Builtin.Dict.entriesForEmpty;refine l6 (o8 r p ?_);refine l6 ?_;rw[<-Array.forIn_toList];refine wpAny_forIn_list _ (λa _ s'=>s'=s/\∀e∈a,e∈es.toList) _ ?_ ?_ _ _ ⟨rfl,λe c=>c⟩
 .rintro e a b s' ⟨rfl,j⟩;have k:e∈g.map (entryOfKey knd):=c▸j e lh;obtain⟨x,hx,m⟩:=lH.1 k;obtain⟨b,n⟩:=t x hx;have l:e.key=.ref x.2.1:=by rw[<-m];rfl
  have fl:¬(es.filter (·.hash==e.hash)).size>1:=by have:=zcz q k;rw[<-c]at this;rw[<-mN,Array.toList_filter];omega
  rw[l];refine l6 (n _ ?_);have f:s'=s'/\∀e∈a,e∈es.toList:=⟨rfl,λe c=>j e (lg _ c)⟩;cases b with
  |true=>exact lz f
  |false=>rw[l9 ∅,l7 fl];exact lz f
 .rintro b s' ⟨rfl,_⟩;exact lz h
def ZG{nm:String}{d o:Addr}{y more:List (K×Addr×Value)}{Q:Unit->Shared->Prop}(hu:knd.room A)(G:d≠o)(Z:(o==sysModules)=false)
    (T:s.heap.DictOfH knd d y)(ho:s.heap.DictOfH knd o more)(hn:(more.map λx=>knd.hash x.1).Nodup)(hq:∀x∈more,∃b:Bool,∀Q':Bool->Shared->Prop,Q' b s->wpAny (model prog w) A (Builtin.Dict.quietEq (.ref x.2.1)) Q' E s)
    (N:∀h',h'.DictOfH knd d (yc y more)->Heap.SameBut d s.heap h'->Q () { s with heap:=h' })
    (hsz:y.length+more.length<=sizeLine:=by size_fits) :
    wpAny (model prog w) A (Builtin.Dict.mergeDict nm d o) Q E s:=by
  obtain⟨od,P,O,j,S,f,U,hid,xe⟩:=id T;obtain⟨oo,a,xb,k,xd,c,r,I,M⟩:=id ho;unfold Builtin.Dict.mergeDict;rw[l7 (by simpa using G)];unfold Builtin.Dict.showsAll;rw[l7 (by rw[Z];exact lN)];refine l6 (lz ?_);refine l6 (o8 k c ?_);have g:more.length=a.size:=(size_of_entries r).symm;have v:wpAny (model prog w) A (do
      let epoch<-dictEpoch o;let l<-dictEntries o
      forIn [:l.size] PUnit.unit fun i (_:PUnit)=>(do
          let l'<-dictEntries o
          match l'[i]? with
            |some e=>do
              holding [e.key,e.val] (dictSetHashed d e.key e.hash e.val)
              let ep'<-dictEpoch o
              if(ep' != epoch)=true then do
                  (unsupported (toString nm++toString ":source-changed-during-callback"):Sem PUnit)
                  pure (ForInStep.yield PUnit.unit)
                else pure (ForInStep.yield PUnit.unit)
            |_=>do
              (unsupported "internal:dict-merge":Sem PUnit)
              pure (ForInStep.yield PUnit.unit):Sem (ForInStep PUnit))
      pure ()) Q E s:=by
    refine l6 (wpAny_dictEpoch k c ?_);refine l6 (o8 k c ?_);refine l6 ?_;rw[Std.Legacy.Range.forIn_eq_forIn_range'];simp only[Std.Legacy.Range.size,Nat.sub_zero,Nat.add_sub_cancel,Nat.div_one];refine wpAny_forIn_list _
      (λp _ s'=>∃h' i,s'= { s with heap:=h' }/\p=List.range' i (a.size-i)/\i<=a.size/\h'.DictOfH knd d (yc y (more.take i))/\h'.get? o=some oo/\Heap.SameBut d s.heap h')
      _ ?_ ?_ _ _ ⟨s.heap,0,rfl,m!"",lY _,by simpa[yc]using T,k,Heap.SameBut.refl _ _⟩
    · rintro x p b s' ⟨h',i,rfl,B,hi,q,m,t⟩
      have L:i<a.size:=by
        rcases Nat.lt_or_ge i a.size with h|h
        · exact h
        · rw[Nat.sub_eq_zero_of_le h]at B;simp at B
      obtain⟨rfl,C⟩:x=i/\p=List.range' (i+1) (a.size-(i+1)):=by
        have e:a.size-i=(a.size-(i+1))+1:=⋯
        rw[e,List.range'_succ]at B;injection B with h1 h2;exact⟨h1,h2⟩
      refine l6 (o8 m c ?_);obtain⟨kv,z⟩:∃kv,more[x]? =some kv:=⟨more[x]'(by rw[g];exact L),lp _⟩;rw[entry_at r x,z];show wpAny _ _ (holding [Value.ref kv.2.1,kv.2.2] (dictSetHashed d (.ref kv.2.1) (knd.hash kv.1) kv.2.2) >>= _) _ _ _;have X:(yc y (more.take x)).length<=sizeLine:=by
        have e1:=zcy y (more.take x);have e2:(more.take x).length<=more.length:=by rw[lX];lia
        lia
      have J:knd.is h' kv.1 kv.2.1:=knd.keeps (I kv (lE z)) j f t;refine l6 (mD (jo (hsz:=X) hu J q λD F u=>?_));have n:D.get? o=some oo:=(u.2 o (Ne.symm G)).trans m;refine l6 (wpAny_dictEpoch n c ?_);rw[l7 m!""];exact lz ⟨D,x+1,rfl,C,L,by rw[XA y more x kv z];exact F,n,t.trans u⟩
    · rintro b s' ⟨h',i,rfl,B,hi,q,m,t⟩
      have V:i=a.size:=by
        rcases Nat.lt_or_ge i a.size with h|h
        · have e:a.size-i=(a.size-(i+1))+1:=⋯
          rw[e,List.range'_succ]at B;exact nomatch B
        · exact Nat.le_antisymm hi h
      refine lz (N h' ?_ t);rw[V,<-g,my]at q;exact q
  dsimp only;split
  · refine l6 (o8 j f ?_)
    split
    · rename_i H
      have ys:y=[]:=by have R:P= #[]:=Array.isEmpty_iff.mp H;have:=size_of_entries U;rw[R]at this;exact mG.mp (by simpa using this.symm)
      subst ys;refine l6 (qz (knd:=knd) k c r hq hn ?_);rw[J9 [] more (by simpa using M),nz]at N;split
      · have zs:a.size<=sizeLine+1:=by
          simp only[nE,Nat.zero_add]at hsz
          lia
        exact l6 (wpAny_updateDictKeysTo j f (lz (N _ ⟨_,_,O+1,n5 _ j (pK (oq f _)),S.mapDictKeys _,
          oq f _,r,λx hx=>knd.keeps (I x hx) j f (mV ..),M⟩ (mV ..))) zs)
      · rename_i Y
        have R:a= #[]:=Array.isEmpty_iff.mp (by simpa using Y);have W:more=[]:=mG.mp (by rw[g,R];rfl);subst W;exact lz (N _ T (Heap.SameBut.refl _ _))
    · exact v
  · exact v
end
section
variable {K:Type}[DecidableEq K]{knd:KeyKind prog w K}
def Z1{ks:List K}(b:IsTupleKey knd s.heap ks a){Q:Bool->Shared->Prop}(h:Q false s):wpAny (model prog w) A (Builtin.Dict.quietEq (.ref a)) Q E s:=by
 unfold Builtin.Dict.quietEq;refine l6 (wpAny_specialOf b.typeIs F.slot_tuple_eq.lookup (lz ?_));have e:(some (Value.builtin "tuple.__eq__")==some (Value.builtin "object.__eq__"))=false:=∅
 rw[e];exact h
def IsTupleKey.there{h':Heap}{ks:List K}(x:IsTupleKey knd h ks a)(k:∀o,h.get? a=some o->h'.get? a=some o):IsTupleKey knd h' ks a:=by
 obtain⟨o,b,n,c,r⟩:=x;exact⟨o,b,n,k _ c,r⟩
def y8{d:Addr}{a:List (List K×Addr×Value)}(h:s.heap.DictOfH (tupleKind knd) d a):s.TypeIs (.ref d) "dict":=let⟨o,_,_,h1,h2,_⟩:=h;⟨o,h1,h2.1⟩
def Yx(knd:KeyKind prog w K)(d o:Addr)(c:d≠o)(e:(o==sysModules)=false) :
    MeetsIn prog w (Builtin.«dict.update» ⟨[.ref d,.ref o],[]⟩) (fun A R s=>∃ kvs more,A.units+1 < cLine/\s.heap.DictOfH (tupleKind knd) d kvs/\s.heap.DictOfH (tupleKind knd) o more/\(more.map fun x=>(tupleKind knd).hash x.1).Nodup/\kvs.length+more.length<=sizeLine/\
      ∀h',h'.DictOfH (tupleKind knd) d (yc kvs more)->Heap.SameBut d s.heap h'->R (.ok (.ret .none)) { s with heap:=h' }):=
  .of_wp λA R s ⟨kvs,more,l,g,a,j,hsz,h⟩=>by
    unfold Builtin.«dict.update»;refine l6 ?_;unfold Builtin.Dict.selfAndRest;refine l6 (p9 (y8 g) ?_);show wpAny _ _ (pure (d,[Value.ref o])) _ _ s;refine lz ?_;show wpAny _ _ (Builtin.Dict.updateFrom "dict.update" d (.ref o) [] .none) _ _ s;unfold Builtin.Dict.updateFrom;refine l6 (oA (y8 a) ?_);rw[l7 ∅];refine l6 ?_;unfold Builtin.Dict.merge;refine l6 ?_
    · unfold Builtin.Dict.readDirectly
      refine l6 (wpAny_isInstance (y8 a) isSubtype_dict_dict ?_);simp only[Bool.not_true,pX,pO];refine l6 (wpAny_specialOf (y8 a) F.slot_dict_iter.lookup (lz ?_));simp only[beq_self_eq_true,p7];refine l6 (lz ?_);refine ZG (knd:=tupleKind knd) (hsz:=hsz) l c e g a j ?_ λh' b f=>?_
      · obtain⟨oo,_,_,_,_,_,_,i,_⟩:=id a
        exact λx hx=>⟨false,λm k=>Z1 (i x hx) k⟩
      show wpAny _ _ (Builtin.Dict.addKeywords d [] >>= _) _ _ _;exact l6 (lz (lz ⟨.none,rfl,h h' b f⟩))
def ZZ{h':Heap}{d:Addr}{xs:List (List K×Addr×Value)}(x:h.DictOfH (tupleKind knd) d xs)(j:∀o,h.get? d=some o->h'.get? d=some o)(hx:∀y∈xs,∀o,h.get? y.2.1=some o->h'.get? y.2.1=some o):h'.DictOfH (tupleKind knd) d xs:=by
 obtain⟨o,es,ep,b,c,e,f,g,i⟩:=x;exact⟨o,es,ep,j _ b,c,e,f,λy a=>IsTupleKey.there (g y a) (hx y a),i⟩
def zcA{b:List (List K×Addr×Value)}{k:List K}{v:Value}{y:List K×Addr×Value}(h:y∈storedH b k a v):y.2.1=a\/∃z∈b,z.2.1=y.2.1:=by
 unfold storedH at h;split at h
 .obtain⟨z,hz,rfl⟩:=lH.mp h;refine .inr ⟨z,hz,?_⟩;unfold putAt;split<;>rfl
 .rcases ls.mp h with h|h
  .exact .inr ⟨y,h,rfl⟩
  .simp only[lf]at h;subst h;exact .inl rfl
def zgO(hh:A.handled=none)(hu:A.units+1<cLine){d it l:Addr}{items:Array Value}{r:Value}{R:Result->Shared->Prop}(g:d≠it)(Q:d≠l)(U:it≠l) :
  ∀(more:List (List K×Addr×Value)) (i:Nat) (s:Shared) (kvs:List (List K×Addr×Value)),i+more.length=items.size->s.heap.DictOfH (tupleKind knd) d kvs->(∀y∈kvs,y.2.1≠it)->s.heap.IsListIter it l i->s.heap.IsList l items->
   (∀(j:Nat) kv,more[j]? =some kv->kv.2.1≠it/\kv.2.1≠d/\IsTupleKey knd s.heap kv.1 kv.2.1/\∃t,items[i+j]? =some (.ref t)/\t≠d/\t≠it/\PyProof.Rows.IsTup s.heap t #[.ref kv.2.1,kv.2.2])->kvs.length+more.length<=sizeLine->
   (∀h' tk,h'.DictOfH (tupleKind knd) d (yc kvs more)->(∀c o,c≠d->c≠it->s.heap.get? c=some o->h'.get? c=some o)->R (.ok (.ret r)) { s with heap:=h',toks:=tk })->
   codeAny (model prog w) A (.builtin "dict.update.loop" ⟨[.ref d,.ref it,rawInt i,r],[]⟩) R s:=by
 intro more;induction more with
 |nil=>intro i s kvs S M f h F Y hz J;refine nZ x8 ?_;rw[nj ym _];show wpAny _ A.in1 (pyNext (.ref it) >>= _) _ _ _;refine l6 (oZ (A:=A.in1) hh h F (by simp at S;simp;lia) λh' G=>?_);show wpAny _ _ (Builtin.Dict.addKeywords d [] >>= _) _ _ _;exact l6 (lz (lz (J h' s.toks (ZZ M (λo q=>G d o g q) λy C o q=>G _ o (f y C) q) λc o _ L q=>G c o L q)))
 |cons kv more ih=>
  intro i s kvs S M f h F Y hz J;obtain⟨p,ys,hk,t,hx,xb,Z,⟨o,ho,L,n,u⟩⟩:=Y 0 kv rfl;refine nZ x8 ?_;rw[nj ym _];show wpAny _ A.in1 (pyNext (.ref it) >>= _) _ _ _;refine l6 (oP h F (x:=.ref t) (by simpa using hx) λh1 v b=>?_);have B:h1.get? t=some o:=(b.2 t Z).trans ho;show wpAny _ _ (holding [.ref t] _ >>= _) _ _ _;refine l6 (mD ?_);refine l6 (nN ?_);unfold Builtin.Dict.pairItems;refine l6 (oA (T:="tuple") ⟨o,B,L⟩ ?_);rw[l9 ∅];refine l6 (og B u ?_);refine lz ?_;show wpAny _ _ (holding [.ref kv.2.1,kv.2.2] (dictSet d (.ref kv.2.1) kv.2.2)) _ _ _;have N:=ZZ M (h':=h1) (λo q=>(b.2 d g).trans q) λy C o q=>(b.2 _ (f y C)).trans q;refine mD (wpAny_dictSet_heap (knd:=tupleKind knd) hu (hk.there λo q=>(b.2 _ p).trans q) N (λh2 O D=>?_) (by simp at hz;lia));show wpAny _ _ (again (.builtin "dict.update.loop" ⟨[.ref d,.ref it,rawInt ((i:Int)+1),r],[]⟩)) _ _ _;have ei:((i:Int)+1)=(((i+1:Nat)):Int):=⋯
  rw[ei];have a:∀c o,c≠d->c≠it->s.heap.get? c=some o->h2.get? c=some o:=λc o I E q=>(D.2 c I).trans ((b.2 c E).trans q);refine lz ⟨nJ ym _,ih (i+1) _ (storedH kvs kv.1 kv.2.1 kv.2.2) (by simp at S;lia) O (λy C=>?_) ?_ ?_ (λj zs hj=>?_) ?_ λI tk P k3=>?_⟩
  .rcases zcA C with e|⟨z,hz,e⟩
   .rw[e];exact p
   .rw[<-e];exact f z hz
  .obtain⟨oi,W,r1⟩:=v;exact⟨oi,(D.2 it (Ne.symm g)).trans W,r1⟩
  .obtain⟨ol,X,r1⟩:=F;exact⟨ol,a l ol (Ne.symm Q) (Ne.symm U) X,r1⟩
  .obtain⟨q1,q2,q3,t',H,k,m,⟨o',V,r'⟩⟩:=Y (j+1) zs (by simpa using hj);refine⟨q1,q2,q3.there λo q=>a _ o q2 q1 q,t',?_,k,m,⟨o',a t' o' k m V,r'⟩⟩;rw[<-H];congr 1
   lia
  .have:=XM kvs kv.1 kv.2.1 kv.2.2;simp at hz
   lia
  .exact J I tk P λc o E h5 q=>k3 c o E h5 (a c o E h5 q)
def zgP(M:A.handled=none)(W:A.units+2<cLine){l:Addr}{o:Obj}{items:Array Value}(O:s.heap.get? l=some o)(y:o.cls=.type "list")(a:o.data=.seq items n)(C:o.dict=none){more:List (List K×Addr×Value)}(m:more.length=items.size)
  (V:∀(j:Nat) f,more[j]? =some f->IsTupleKey knd s.heap f.1 f.2.1/\∃t,items[j]? =some (.ref t)/\PyProof.Rows.IsTup s.heap t #[.ref f.2.1,f.2.2])(hz:more.length<=sizeLine)
  (h:∀h' R,h'.DictOfH (tupleKind knd) s.heap.objs.size (yc [] more)->(∀c o,s.heap.get? c=some o->h'.get? c=some o)->Q (.ref s.heap.objs.size) { s with heap:=h',toks:=R }) :
  wpAny (model prog w) A (call (.type "dict") [.ref l]) Q E s:=by
 refine callType_codes (Q₁:=λv g=>v=.ref s.heap.objs.size/\g= { s with heap:=s.heap.push { cls:=.type "dict",data:=.dict #[] } }) F.kt_called_dict (F.kt_typeCall_dict_1 _) F.entry_dict_init (kt_code_dict_new _ ⟨rfl,rfl⟩) ?_;rintro v g ⟨rfl,rfl⟩;have e:(s.heap.push { cls:=.type "dict",data:=.dict #[] }).DictOfH (tupleKind knd) s.heap.objs.size []:=⟨_,_,_,lL _ rfl,⟨rfl,rfl,rfl⟩,rfl,rfl,λ_ h=>(nomatch h),.nil⟩;have r:({ s with heap:=s.heap.push { cls:=.type "dict",data:=.dict #[] } }:Shared).TypeIs (.ref s.heap.objs.size) "dict":=y8 e;refine⟨r,F.args_dict_init_2 _ _,?_⟩;have i:(s.heap.push { cls:=.type "dict",data:=.dict #[] }).get? l=some o:=li _ O;refine l6 ?_;unfold Builtin.Dict.selfAndRest;refine l6 (p9 r ?_);refine lz ?_;show wpAny _ _ (Builtin.Dict.updateFrom "dict.__init__" s.heap.objs.size (.ref l) [] .none) _ _ _;unfold Builtin.Dict.updateFrom;refine l6 (oA (T:="list") ⟨o,i,y⟩ ?_);rw[l9 ∅];refine l6 (XH (A:=A.in1.in1) i y a C M λx R z=>?_);rw[l9 (by rfl)];refine l6 (qh ?_);have p:x.get? l=some o:=z _ _ i;refine l6 (oH (items:=items) ⟨o,p,y,n,a⟩ ?_);have b:s.heap.objs.size<x.objs.size:=lD (z _ _ (lL s.heap (o:={ cls:=.type "dict",data:=.dict #[] }) rfl));have k:l<s.heap.objs.size:=lD O;obtain⟨Y,es,ep,D,H⟩:=e;have G:∀c u,s.heap.get? c=some u->(x.push { cls:=.type "list_iterator",data:=.fields #[.ref l,.int 0 0] }).get? c=some u:=λc u q=>li _ (z _ _ (li _ q));refine lz ⟨nJ ym _,zgO (knd:=knd) (A:=A.in1) (d:=s.heap.objs.size) (it:=x.objs.size) (l:=l) (items:=items) M W (lK b) (pj k) (pj (nP k b)) more 0 _ [] (by rw[m];lia) ?_ (λ_ h=>(nomatch h)) ?_ ?_ (λj f U=>?_) (by simpa using hz) λh' I B X=>⟨rfl,?_⟩⟩
 .exact⟨Y,es,ep,li _ (z _ _ D),H.1,H.2.1,H.2.2.1,λ_ h=>(nomatch h),.nil⟩
 .exact⟨_,lL _ rfl,rfl,rfl⟩
 .exact⟨o,li _ p,y,n,a⟩
 .obtain⟨N,t,S,⟨Z,J,r2⟩⟩:=V j f U;have P:t<s.heap.objs.size:=lD J;have L:f.2.1<s.heap.objs.size:=let⟨_,_,_,q,_⟩:=N;lD q;exact⟨lK (nP L b),lK L,N.there λo q=>G _ _ q,t,by simpa using S,lK P,lK (nP P b),⟨Z,G _ _ J,r2⟩⟩
 .exact h h' I B λc u q=>X c u (lK (lD q)) (lK (nP (lD q) b)) (G c u q)
end
end PySem
namespace L2
open PySem PySem.Spec PyProof.Rows
abbrev um(kvs more:List (List Key×V)):List (List Key×V):=more.foldl (λa b=>yU a b.1 b.2) kvs
def xJ:∀(more kvs:List (List Key×V)),(um kvs more).length<=kvs.length+more.length
 |[],kvs=>by show kvs.length<=kvs.length+0;lia
 |p::r,kvs=>by have a:=xJ r (yU kvs p.1 p.2);have b:=qd kvs p.1 p.2;show(um (yU kvs p.1 p.2) r).length<=_;rw[lQ];lia
def KT.merge:∀{more:List (List Key×V)}{rs:List (List Key×Addr×Value)}{kvs:List (List Key×V)}{vs:List (List Key×Addr×Value)},KT H more rs->KT H kvs vs->KT H (um kvs more) (yc vs rs):=by
 intro more rs kvs vs r;unfold KT at r;induction r generalizing kvs vs with
 |nil=>intro q;exact q
 |@cons p q ps qs h t ih=>
  intro a;have e:KT H (yU kvs p.1 p.2) (storedH vs q.1 q.2.1 q.2.2):=by have:=a.put p.1 h.2.1 h.2.2;rw[h.1]at this ⊢;exact this
  exact ih e
abbrev UI(r c:Nat):Int:=reduceHash (Builtin.Tuple.tupleHashOf [hashInt (r:Int),hashInt (c:Int)])
def zgQ:∀r<12,((List.range 24).map (UI r)).Nodup:=f!""
def ziA{r c d:Nat}(g:r<12)(a:c<24)(f:d<24)(e:UI r c=UI r d):c=d:=by
 have h:=zgQ r g;have b:((List.range 24).map (UI r))[c]? =((List.range 24).map (UI r))[d]?:=by rw[lw,lw,mO a,mO f];simp[e]
 exact(List.getElem?_inj (by simpa using a) h).1 b
abbrev cellK(r c:Nat):List Key:=[.inl (r:Int),.inl (c:Int)]
inductive OneRow (ks:List (List Key)):Prop
 |mk r:(r<12)->(∀k∈ks,∃c,c<24/\k=cellK r c)->OneRow ks
def zcB{more:List (List Key×Addr×Value)}(h:OneRow (more.map (·.1)))(n:(more.map (·.1)).Nodup):(more.map λx=>(tupleKind (zK P w)).hash x.1).Nodup:=by
 obtain⟨r,o,b⟩:=h;have e:∀ks:List (List Key),ks.Nodup->(∀k∈ks,∃c,c<24/\k=cellK r c)->(ks.map λk=>(tupleKind (zK P w)).hash k).Nodup:=by
  intro ks;induction ks with
  |nil=>intro _ _;exact pP
  |cons k ks ih=>intro f a;rw[ng]at f;rw[lG,ng];refine⟨λm=>?_,ih f.2 λk b=>a k (lg _ b)⟩;obtain⟨p,g,i⟩:=lH.1 m;obtain⟨c,j,rfl⟩:=a k lh;obtain⟨d,l,rfl⟩:=a p (lg _ g);have:d=c:=ziA o l j i;subst this;exact f.1 g
 have:=e (more.map (·.1)) n b;rwa[lT]at this
abbrev ZH:V->List V->Hp->VK->Prop:=λx vs H Q=>Ex4 λa b kvs more=>An8 (x=.ref a) (vs=[.ref b]) (H a=some (.dT kvs)) (H b=some (.dT more)) (a≠b) (OneRow (more.map (·.1))) (kvs.length+more.length<=1000) (Q .non (upd H a (.dT (um kvs more))))
def ze1(N:X.A.units+2<cLine):MtR X "dict.update" ZH:=by
 intro π s σ H x V v us Q I S r h;obtain⟨a,b,kvs,more,rfl,rfl,j,o,k,y,K,q⟩:=h;obtain⟨u,rfl,R⟩:=r.one;cases R;cases S;obtain⟨Y,l,vs,e,g⟩:=zeb I.hok j;obtain⟨T,m,ws,d,f⟩:=zeb I.hok o;have U:=lJ e;have O:=lJ d;have P:=xJ more kvs;have J:more.map (·.1)=ws.map (·.1):=by
  clear O f T P K q y o;induction d with
  |nil=>rfl
  |cons h t ih=>rw[lG,lG,h.1,ih]
 have L:(ws.map (·.1)).Nodup:=let⟨_,_,_,_,_,_,_,_,n⟩:=f;n;refine call_meetsIn PySem.F.slot_dict_update (y8 g) PySem.F.entry_dict_update (PySem.F.args_dict_update_2 _ _) (Yx (zK X.prog X.w) a b k m)
  ⟨vs,ws,by first|exact N|(show X.A.units+1<cLine;lia),g,f,zcB (J▸y) L,(by rw[lI];lia),λh' i M=>⟨.non,_,?_,rfl,q⟩⟩
 obtain⟨q,es,ep,B,C,D,E,_,G⟩:=i;refine kX I (by rw[j];exact True.intro) M ⟨q,B⟩ ⟨by rw[lI];lia,l,_,(d.merge e).keeps λc W p=>?_,q,es,ep,B,C,D,E,G⟩;rw[zi (zju p j (λz=>nomatch z))];exact p
abbrev zgR(K:W.Frag)(H:Hp):List V->List (List Key×V)->Prop:=Paired λy a=>Ex2 λt b=>An3 (y=.ref t) (SqT K H t [.ref b,a.2]) (H b=some (.tup (a.1.map kV)))
abbrev zbi(K:W.Frag):List V->Hp->VK->Prop:=λc H Q=>Ex3 λa b kvs=>An5 (c=[.ref a]) (SqL K H a b) (zgR K H b kvs) (kvs.length<=1000) (∀p,H p=none->Q (.ref p) (upd H p (.dT (um [] kvs))))
def ze2(hc:X.calm=true)(hu:X.A.units+4<cLine):yj X (.type "dict") (zbi X.K):=by
 intro π s σ H xs us Q I r h;obtain⟨a,N,kvs,rfl,k,L,hl,q⟩:=h;obtain⟨u,rfl,ru⟩:=r.one;cases ru;obtain⟨i,M,⟨o,n,e,c,z,E⟩,hz⟩:=I.list k;have l1:=lJ L;have l2:=M.length;have g:∃ws:List (List Key×Addr×Value),KT H kvs ws/\∀(j:Nat) d,ws[j]? =some d->IsTupleKey (zK X.prog X.w) s.heap d.1 d.2.1/\∃t,i[j]? =some (.ref t)/\IsTup s.heap t #[.ref d.2.1,d.2.2]:=by
  clear q E e hz l1 l2 k;induction L generalizing i with
  |nil=>exact⟨[],.nil,λj d f=>by simp at f⟩
  |@cons y d N kvs hy t ih=>
   cases M with
   |@cons _ w1 _ ws1 r1 r2=>
    obtain⟨ws,l,C⟩:=ih (by simp at hl;lia) _ r2;obtain⟨t0,b,rfl,Z,J⟩:=hy;cases r1;obtain⟨tt,rt,pt,_⟩:=I.tuple Z;cases rt with
    |@cons _ key _ t1 rk t1r=>
     cases rk;cases t1r with
     |@cons _ v _ t2 rv' t2r=>
      cases t2r;refine⟨(d.1,b,v)::ws,.cons ⟨rfl,J,rv'⟩ l,λj D f=>?_⟩;cases j with
      |zero=>cases f;obtain⟨ot,P,R,_,S⟩:=pt;exact⟨Ya I.hok J,t0,rfl,⟨ot,P,R,_,S⟩⟩
      |succ j=>obtain⟨m,t',p,x⟩:=C j D (by simpa using f);exact⟨m,t',by simpa using p,x⟩
 obtain⟨ws,l,C⟩:=g;have l3:=lJ l;refine zgP (knd:=zK X.prog X.w) (I.ok.hd hc) ⋯ e c E z (more:=ws) (by simp;lia) (λj d f=>?_) (by rw[lI];lia) λh' tk O kk=>?_
 .obtain⟨m,t,p,x⟩:=C j d f;exact⟨m,t,by simpa using p,x⟩
 .have G:H s.heap.objs.size=none:=I.hok.fresh (ll _);refine⟨.ref s.heap.objs.size,_,I.laid (a:=s.heap.objs.size) (o:=.dT (um [] kvs)) (t':=tk) kk (ll _) ?_,rfl,q _ G⟩;have B:(um [] kvs).length<=sizeLine:=by
   have T:=xJ kvs [];rw[nE]at T;rw[lI];lia
  obtain⟨q,es,ep,k,U,V,W,_,Y⟩:=O;exact⟨B,mM.mpr (Ne.symm (lK I.big)),_,(KT.merge l .nil).keeps λc N F=>by rw[zi (zW F G)];exact F,q,es,ep,k,U,V,W,Y⟩
abbrev ze3:W->Option V
 |.d (.int i)=>some (.int i)
 |.d (.bool b)=>some (.bl b)
 |.own a=>some (.ref a)
 |_=>none
abbrev Xv:List W->Option (List V)
 |[]=>some []
 |w::ws=>match ze3 w,Xv ws with
  |some v,some vs=>some (v::vs)
  |_,_=>none
abbrev zbj(vs:List V):HO->Hp->Prop:=λo _=>o=.tup vs
abbrev qA(n:Nat):HO->Hp->Prop:=λo _=>∃kvs,o=.dT kvs/\kvs.length<=n
abbrev QW(n:Nat):HO->Hp->Prop:=λo _=>∃kvs,o=.dT kvs/\kvs.length<=n/\OneRow (kvs.map (·.1))
def ziB{w:W}{u:V}(e:ze3 w=some u)(r:relW K Γ w v):v=u:=by
 cases w with
 |d x=>
  cases x with
  |int i=>cases e;exact r
  |bool b=>cases e;exact r
  |_=>cases e
 |own a=>cases e;exact r
 |row a i=>cases e
def zgS(r:relWs K Γ ws vs):∀{us:List V},Xv ws=some us->vs=us:=by
 induction r with
 |nil=>intro us e;cases e;rfl
 |cons h t ih=>
  rename_i w v ws vs;intro us e;simp only[Xv]at e;cases h1:ze3 w with
  |none=>rw[h1]at e;cases e
  |some u=>
   cases h2:Xv ws with
   |none=>rw[h1,h2]at e;cases e
   |some us'=>rw[h1,h2]at e;cases e;rw[ziB h1 h,ih h2]
def Sim.raw(S:Sim K Γ O H){p:HO->Hp->Prop}(h:O a=some (.raw p)):∃o,H a=some o/\p o Γ.Z:=by
 obtain⟨_,o,b,c⟩:=S.o _ _ h;exact⟨o,b,c _ (Same.refl _)⟩
def Sim.newRaw(S:Sim K Γ O H){o:HO}{p:HO->Hp->Prop}(h:H a=none)(b:∀Z,p o Z):O a=none/\Sim K Γ (updO O a (.raw p)) (upd H a o):=
 ⟨(S.free h).2.1,S.newO h (by intro _ h;cases h) ⟨o,zu,λZ _=>b Z⟩⟩
def Sim.putRaw(S:Sim K Γ O H){o:HO}{p q:HO->Hp->Prop}(h:O a=some (.raw q))(b:∀Z,p o Z):Sim K Γ (updO O a (.raw p)) (upd H a o):=
 S.put h (by intro _ h;cases h) (by intro _ h;cases h) ⟨o,zu,λZ _=>b Z⟩
abbrev zj3(t:TA):TE:=zd4 t
def zdg{t:TA}{k:Nat}(h:QA X es t):PE X (.Tuple es k pos) (zj3 t):=zf0 h.pa
abbrev zj4(T:TAW):TEW:=λρ O R=>T ρ O λws a=>∃vs,Xv ws=some vs/\vs.length<=1000/\∀p,a p=none->R (.own p) (updO a p (.raw (zbj vs)))
def ziC{t:TA}{T:TAW}(h:yQ K t T):RefE K (zj3 t) (zj4 T):=by
 intro Γ O H ρ σ S l Q R c k;refine h Γ O H ρ σ S l _ _ c λm q n ws vs g b rs a=>?_;obtain⟨us,e,d,a⟩:=a;cases zgS rs e;refine⟨Xj d,λp f=>?_⟩;obtain⟨i,j⟩:=b.newRaw (p:=zbj vs) (o:=.tup vs) f λZ=>rfl;exact k _ _ _ _ _ g j yf (a p i)
abbrev zgT:TEW:=λρ O R=>∀p,O p=none->R (.own p) (updO O p (.raw (qA 0)))
def zgU:RefE K zgc zgT:=by
 intro Γ O H ρ σ S e Q R a k p b;obtain⟨c,d⟩:=S.newRaw (p:=qA 0) (o:=.dT []) b λZ=>⟨[],rfl,ll _⟩;exact k _ _ _ _ _ (Le.refl _) d yf (a p c)
abbrev CellW(O:OM)(r c:Nat)(b:Addr):Prop:=O b=some (.raw (zbj [.int (r:Int),.int (c:Int)]))
abbrev znb(Ty g:TEW):TEW:=λρ O R=>Ty ρ O λy f=>g ρ f λx e=>∃a b n r c,y=.own b/\x=.own a/\CellW e r c b/\e a=some (.raw (qA n))/\∀t,R (.d (.bool t)) e
def zk9{l j:TE}{Ty g:TEW}(C:RefE K l Ty)(z:RefE K j g):RefE K (zmz l j) (znb Ty g):=by
 intro Γ O H ρ σ S i Q R q k;refine C _ _ _ _ _ S i _ _ q λI N L y v h m G p=>?_;refine z _ _ _ _ _ m (i.mono h) _ _ p λJ P M x u D d F e=>?_;obtain⟨a,b,n,r,c,rfl,rfl,w,s,e⟩:=e;cases(show u=.ref a from F);cases(show v=.ref b from G);obtain⟨o,A,kvs,rfl,T⟩:=d.raw s;obtain⟨E,f,B⟩:=d.raw w;cases(show E=_ from B);exact⟨a,_,rfl,jd.t (k:=cellK r c) A f,k _ _ _ _ _ (h.trans D) d yT (e _)⟩
abbrev PairW(O:OM)(r:Nat)(w:W):Prop:=∃t b c,w=.own t/\O t=some (.raw (zbj [.ref b,.bl true]))/\CellW O r c b/\c<24
def XN:∀(more kvs:List (List Key×V)) (k:List Key),k∈(um kvs more).map (·.1)->k∈kvs.map (·.1)\/k∈more.map (·.1)
 |[],kvs,k,h=>.inl h
 |p::r,kvs,k,h=>by
  rcases XN r (yU kvs p.1 p.2) k h with h|h
  .unfold yU at h;split at h
   .rw[lT]at h;obtain⟨z,hz,e⟩:=lH.1 h;refine .inl (lH.2 ⟨z,hz,?_⟩);simp only[Function.comp]at e;split at e<;>exact e
   .rw[lS]at h;rcases ls.1 h with h|h
    .exact .inl h
    .simp only[lG,pz,lf]at h;exact .inr (by rw[h];exact lh)
  .exact .inr (lg _ h)
abbrev zgV:List W->OM->WK->Prop:=λb O R=>∃a ws r,b=[.own a]/\O a=some (.lst ws)/\r<12/\ws.length<=1000/\(∀w∈ws,PairW O r w)/\∀p,O p=none->R (.own p) (updO O p (.raw (QW ws.length)))
def zla(S:Sim K Γ O H){r:Nat}(h:relWs K Γ ws vs):(∀w∈ws,PairW O r w)->∃kvs,zgR K H vs kvs/\kvs.length=ws.length/\∀k∈kvs.map (·.1),∃c,c<24/\k=cellK r c:=by
 induction h with
 |nil=>exact λ_=>⟨[],.nil,rfl,λk h=>by simp at h⟩
 |cons h t ih=>
  intro f;obtain⟨kvs,q,s,u⟩:=ih λw m=>f w (lg _ m);obtain⟨t,b,c,rfl,n,g,i⟩:=f _ lh;obtain⟨o,j,l⟩:=S.raw n;cases(show o=_ from l);obtain⟨p,a,d⟩:=S.raw g;cases(show p=_ from d);refine⟨(cellK r c,.bl true)::kvs,.cons ⟨t,b,h,SqT.of j,a⟩ q,by simp[s],λk hk=>?_⟩;rw[lG]at hk;rcases lu.1 hk with e|hk
  .exact⟨c,i,e⟩
  .exact u k hk
def zlb:RefC K (zbi K) zgV:=by
 rintro Γ O H t vs S rs Q R ⟨a,ws,r,rfl,f,j,q,l,h⟩ k;obtain⟨_,us,d,e⟩:=S.o _ _ f;obtain⟨kvs,m,s,n⟩:=zla S e l;cases rs with
 |cons ra rn=>cases rn;cases(show _=_ from ra);refine⟨a,us,kvs,rfl,SqL.of d,m,⋯,λp i=>?_⟩;obtain⟨b,c⟩:=S.newRaw (p:=QW ws.length) (o:=.dT (um [] kvs)) i λZ=>⟨_,rfl,by have:=xJ kvs [];simp at this;lia,r,j,λk g=>n k ((XN kvs [] k g).resolve_left m!"")⟩;exact k _ _ _ _ _ (Le.refl _) c yf (h p b)
abbrev ze4:W->List W->OM->WK->Prop:=λx c O R=>∃a b n m,x=.own a/\c=[.own b]/\O a=some (.raw (qA n))/\O b=some (.raw (QW m))/\a≠b/\n+m<=1000/\R (.d .none) (updO O a (.raw (qA (n+m))))
def znc:RefM K "dict" ZH ze4:=by
 rintro Γ O H x v t vs S j rs Q R ⟨a,b,n,m,rfl,rfl,f,g,d,q,h⟩ k;cases rs with
 |cons rb rn=>cases rn;cases(show _=_ from rb);cases(show v=_ from j);obtain⟨o,i,kvs,rfl,l⟩:=S.raw f;obtain⟨s,e,more,rfl,r,c⟩:=S.raw g;have:=xJ more kvs;refine⟨a,b,kvs,more,rfl,rfl,i,e,d,c,⋯,k _ _ _ _ _ (Le.refl _) (S.putRaw (p:=qA (n+m)) f λZ=>⟨_,rfl,⋯⟩) vS h⟩
abbrev zj5(e:TEW)(d:TAW):TEW:=λρ O R=>e ρ O λx b=>(∃a n,x=.own a/\b a=some (.raw (qA n)))/\d ρ b λf c=>ze4 x f c R
def ziD{l:TE}{f:TEW}{t:TA}{e:TAW}(b:RefE K l f)(r:yQ K t e):RefE K (tBM K "dict" ZH l t) (zj5 f e):=by
 intro Γ O H ρ σ S i Q R q k;refine b _ _ _ _ _ S i _ _ q λz F C x v g d j c=>?_;obtain⟨⟨a,n,rfl,s⟩,c⟩:=c;obtain⟨o,b,kvs,rfl,_⟩:=d.raw s;cases(show v=.ref a from j);refine⟨?_,r _ _ _ _ _ d (i.mono g) _ _ c λA G D ws vs h m rs p=>?_⟩
 .first
   |exact .inr ⟨a,rfl,.inl ⟨rfl,.inr ⟨_,b⟩⟩⟩
   |(unfold tyV;simp[b])
 .exact znc _ _ _ _ _ _ _ m (j.mono h) rs _ _ p λB I E w u y=>k _ _ _ _ _ ((g.trans h).trans y)
abbrev znd(K:W.Frag):R2:=zea K
def zne(h:X.K=K)(a:X.A.units+64<cLine):OpR X (compareOp .Eq) (znd K):=zgs h a
abbrev znf:R2W:=λx y O R=>∃a ws,x=.own a/\O a=some (.lst ws)/\(∀w∈ws,∃r c b,w=.own b/\CellW O r c b)/\y=.d (.list [])/\R (.d (.bool ws.isEmpty)) O
def zgW(S:Sim K Γ O H)(h:relWs K Γ ws vs):(∀w∈ws,∃r c b,w=.own b/\CellW O r c b)->∃l:List (Int×Int),Reps K H (l.map jT) vs/\l.isEmpty=ws.isEmpty:=by
 induction h with
 |nil=>exact λ_=>⟨[],rfl,rfl⟩
 |cons h t ih=>intro a;obtain⟨l,g,i⟩:=ih λw m=>a w (lg _ m);obtain⟨r,c,b,rfl,d⟩:=a _ lh;obtain⟨o,e,f⟩:=S.raw d;cases(show o=_ from f);exact⟨((r:Int),(c:Int))::l,⟨_,_,rfl,⟨b,_,h,SqT.of e,⟨_,_,rfl,rfl,⟨_,_,rfl,rfl,rfl⟩⟩⟩,g⟩,rfl⟩
def zot:RefR K (znd K) znf:=by
 rintro Γ O H x y v u S j m Q R ⟨a,ws,rfl,d,f,rfl,h⟩ k;obtain⟨_,us,b,c⟩:=S.o _ _ d;obtain⟨l,g,i⟩:=zgW S c f;cases(show v=.ref a from j);have e:PyData.eqv (.list (l.map jT)) (.list [])=ws.isEmpty:=by rw[<-i];cases l<;>rfl
 refine⟨.list (l.map jT),.list [],⟨a,us,rfl,SqL.of b,g⟩,Rep.same S.z _ _ m,J7 l,by rfl,?_⟩;rw[e];exact k _ _ _ _ _ (Le.refl _) S yT h
def ziE(h:X.K=K)(a:X.calm=true)(b:X.A.units+64<cLine):yj X (.type "dict") (zbi K):=by
 subst h;exact ze2 a ⋯
def zng(a:X.A.units+64<cLine):MtR X "dict.update" ZH:=ze1 ⋯
def QX:∀{ns:List Int}{vs:List (Key×V)},zX K Γ (stK ns) vs->vs=tK ns
 |[],_,h=>by cases h;rfl
 |n::ns,_,h=>by
  cases h with
  |cons a b=>rename_i q e;obtain⟨k,v⟩:=q;obtain⟨c,d⟩:=a;cases(show Sum.inl n=k from c);cases(show v=V.bl true from d);rw[QX b];rfl
def zgX:∀(ns:List Int),zX K Γ (stK ns) (tK ns)
 |[]=>.nil
 |n::ns=>.cons ⟨rfl,rfl⟩ (zgX ns)
abbrev zbk(ns:List Int)(o:Obj):HO->Hp->Prop:=λu _=>u=.frz o (.dK (tK ns))
abbrev ziF(T:TSW):TSW:=λD ρ O=>∃d ns,O d=some (.dK (stK ns))/\T { D with nx:=λa O'=>∃o,O' d=some (.raw (zbk ns o))/\D.nx a (updO O' d (.dK (stK ns))) } ρ O
def zdh{t:TS}{T:TSW}(h:RefS K t T):RefS K (zm7 t) (ziF T):=by
 intro Γ O H ρ σ D n S r ⟨d,ns,c,b⟩ e;obtain⟨_,vs,g,i⟩:=S.o _ _ c;cases QX i;refine⟨d,tK ns,g,h _ _ _ _ _ _ _ S r b ⟨λΓ' O' p k m l S' j ⟨o,a,h'⟩=>?_,e.rt,e.bk,e.ct⟩⟩;obtain⟨u,f,rfl⟩:=S'.raw a;exact⟨⟨o,f⟩,e.nx _ _ _ _ _ l (S'.put (oo:=.dK _) a (by intro _ h;cases h) (by intro _ h;cases h) ⟨_,zu,zgX ns⟩) j h'⟩
abbrev ziG(T:TEW):TIW:=λρ O R=>T ρ O λw b=>∃a ns,w=.own a/\b a=some (.dK (stK ns))/\∀o,R (ns.map λi=>.d (.int i)) (λO'=>O' a=some (.raw (zbk ns o))) (updO b a (.raw (zbk ns o)))
def zbl{t:TE}{T:TEW}(h:RefE K t T):vj K (zm9 t) (ziG T):=by
 intro Γ O H ρ σ S r Q R n k;refine h _ _ _ _ _ S r _ _ n λC G E w v s d B c=>?_;obtain⟨a,ns,rfl,f,c⟩:=c;obtain⟨_,vs,y,A⟩:=d.o _ _ f;cases QX A;refine⟨a,tK ns,B,y,λo=>k _ _ _ _ _ _ s (d.put (oo:=.raw (zbk ns o)) f (by intro _ h;cases h) (by intro _ h;cases h) ⟨_,zu,λZ _=>rfl⟩) (λi Γ' O' D hz I S' l=>?_) (c o)⟩;obtain⟨u,g,rfl⟩:=S'.raw l;refine⟨λw j=>?_,λp=>⟨g,by rw[zgN,p,l8];exact ll _⟩⟩;rw[lw]at j;obtain⟨z,b,rfl⟩:=mW.mp j;refine⟨⟨g,by rw[zgN];exact(lv.mp b).1⟩,λx F ⟨m,J,L,q,hx⟩=>?_⟩;subst m;obtain⟨M,e,rfl⟩:=zna q;rw[b]at e;cases e;exact⟨Γ',Le.refl _,S',by rw[hx];rfl⟩
abbrev QY:W->List W->OM->WK->Prop:=λx ws O R=>∃a kvs,x=.own a/\ws=[]/\O a=some (.dK kvs)/\R (.d .none) (updO O a (.dK []))
def zbm{T:String}:RefM K T zc3 QY:=by
 rintro Γ O H x v f vs S d rs Q R ⟨a,us,rfl,rfl,b,h⟩ k;cases rs;cases(show v=.ref a from d);obtain⟨_,vs,c,e⟩:=S.o _ _ b;exact⟨a,vs,rfl,rfl,c,k _ _ _ _ _ (Le.refl _) (S.put (oo:=.dK []) b (by intro _ h;cases h) (by intro _ h;cases h) ⟨_,zu,.nil⟩) vS h⟩
def ziH(a:X.K=K)(b:X.calm=true):zap X (.builtin "min") ["default"] (zaq K):=by
 subst a;exact L2.call_minDf b
abbrev zj6(K:W.Frag)(r:List V->List V->Hp->VK->Prop)(rw:List W->List W->OM->WK->Prop):Prop:=∀Γ O H b vs c us,Sim K Γ O H->relWs K Γ b vs->relWs K Γ c us->∀(Q:VK) (R:WK),rw b c O R->(∀Γ' O' a w v,Le Γ Γ'->Sim K Γ' O' a->relW K Γ' w v->R w O'->Q v a)->r vs us H Q
abbrev ze5(rw:List W->List W->OM->WK->Prop)(T c:TAW):TEW:=λρ O R=>T ρ O λws a=>c ρ a λd b=>rw ws d b R
def zdi{r:List V->List V->Hp->VK->Prop}{rw:List W->List W->OM->WK->Prop}{t e:TA}{T a:TAW}(n:zj6 K r rw)(h:yQ K t T)(m:yQ K e a):RefE K (zmE r t e) (ze5 rw T a):=by
 intro Γ O H ρ σ S d Q R l k;refine h _ _ _ _ _ S d _ _ l λq A x ws vs b f rs i=>?_;refine m _ _ _ _ _ f (d.mono b) _ _ i λs B y D us c g p j=>?_;exact n _ _ _ _ _ _ _ g (relWs.mono c rs) p _ _ j λv C z w u o=>k _ _ _ _ _ ((b.trans c).trans o)
abbrev zbn(d:Int):List Int->Int
 |[]=>d
 |a::r=>r.foldl min a
abbrev ziI(d:Int):List Int->Int
 |[]=>d
 |a::r=>r.foldl max a
def Yy:∀(r:List Int) (a:Int),r.foldl min a∈a::r/\∀b∈a::r,r.foldl min a<=b
 |[],a=>⟨lh ..,λb h=>by rw[lf.mp h];exact pR _⟩
 |x::r,a=>by
  obtain⟨d,c⟩:=Yy r (min a x);have m:min a x=a\/min a x=x:=⋯
  have f:=c _ (lh ..);refine⟨?_,λb hb=>?_⟩
  .rcases lu.mp d with e|e
   .rw[mU,e];rcases m with m|m<;>rw[m]
    .exact lh ..
    .exact lg _ (lh ..)
   .exact lg _ (lg _ e)
  .rw[mU];rcases lu.mp hb with rfl|hb
   .lia
   .rcases lu.mp hb with rfl|hb
    .lia
    .exact c b (lg _ hb)
def JM:∀(r:List Int) (a:Int),r.foldl max a∈a::r/\∀b∈a::r,b<=r.foldl max a
 |[],a=>⟨lh ..,λb h=>by rw[lf.mp h];exact pR _⟩
 |x::r,a=>by
  obtain⟨d,c⟩:=JM r (max a x);have m:max a x=a\/max a x=x:=⋯
  have f:=c _ (lh ..);refine⟨?_,λb hb=>?_⟩
  .rcases lu.mp d with e|e
   .rw[mU,e];rcases m with m|m<;>rw[m]
    .exact lh ..
    .exact lg _ (lh ..)
   .exact lg _ (lg _ e)
  .rw[mU];rcases lu.mp hb with rfl|hb
   .lia
   .rcases lu.mp hb with rfl|hb
    .lia
    .exact c b (lg _ hb)
def UJ:∀{ns:List Int}{vs:List V},relWs K Γ (ns.map λi=>.d (.int i)) vs->vs=ns.map V.int
 |[],_,h=>by cases h;rfl
 |n::ns,_,h=>by
  cases h with
  |cons a b=>rw[UJ b];rw[show _=V.int n from a];rfl
abbrev wDf(g:Int->List Int->Int):List W->List W->OM->WK->Prop:=λa b O R=>∃w ns d,a=[w]/\b=[.d (.int d)]/\seqL O w=some (ns.map λi=>.d (.int i))/\R (.d (.int (g d ns))) O
def zgY:zj6 K (zaq K) (wDf zbn):=by
 rintro Γ O H o vs p us S m n Q R ⟨w,ns,d,rfl,rfl,e,h⟩ k;cases m with
 |cons ra t=>
  cases t;cases n with
  |cons b t=>
   cases t;obtain⟨a,vs,rfl,j,l⟩:=z9 S ra e;cases UJ l;refine⟨a,ns,d,rfl,by rw[show _=V.int d from b],j,λe=>?_,λM c i=>?_⟩
   .subst e;exact k _ _ _ _ _ (Le.refl _) S uL h
   .cases ns with
    |nil=>cases c
    |cons x r=>obtain⟨f,g⟩:=Yy r x;have e:M=zbn d (x::r):=Int.le_antisymm (i _ f) (g _ c);subst e;exact k _ _ _ _ _ (Le.refl _) S uL h
def zlc(d:Int):∀ns:List Int,zbn d ns=d\/zbn d ns∈ns
 |[]=>.inl rfl
 |_::_=>.inr (Yy _ _).1
def zld(d:Int):∀ns:List Int,ziI d ns=d\/ziI d ns∈ns
 |[]=>.inl rfl
 |_::_=>.inr (JM _ _).1
abbrev fwd(ns:List Int)(r c:Int):Int:=zbn r (ns.filter λz=>decide (c<z/\z<r))
abbrev bwd(ns:List Int)(l c:Int):Int:=ziI l (ns.filter λz=>decide (l<z/\z<c))
abbrev itF(f:Int->Int):Nat->Int->Int
 |0,c=>c
 |n+1,c=>f (itF f n c)
def znh{ns:List Int}{r c N:Int}(d:0<=c)(b:0<=r)(a:r<N):0<=fwd ns r c/\fwd ns r c<N:=by
 rcases zlc r (ns.filter λz=>decide (c<z/\z<r))with e|e
 .unfold fwd;rw[e];exact⟨b,a⟩
 .have:=mC (ou.mp e).2;unfold fwd;omega
def zni{ns:List Int}{l c N:Int}(b:0<=l)(d:c<N)(a:l<N):0<=bwd ns l c/\bwd ns l c<N:=by
 rcases zld l (ns.filter λz=>decide (l<z/\z<c))with e|e
 .unfold bwd;rw[e];exact⟨b,a⟩
 .have:=mC (ou.mp e).2;unfold bwd;omega
def zbo{f:Int->Int}{N:Int}(a:∀c,0<=c/\c<N->0<=f c/\f c<N):∀(n:Nat) {c:Int},0<=c/\c<N->0<=itF f n c/\itF f n c<N
 |0,_,h=>h
 |n+1,_,h=>a _ (zbo a n h)
abbrev tabS(n:Nat)(S:ST):ST:={ S with col:=itF (fwd S.stops (eR S)) n S.col,late:=false }
abbrev bakS(n:Nat)(S:ST):ST:={ S with col:=itF (bwd S.stops (eL S)) n S.col,late:=false }
abbrev cutS(S:ST):ST:={ S with stops:=S.stops.filter λz=>decide (z≠S.col) }
abbrev clrS(S:ST):ST:={ S with stops:=[] }
abbrev VH(a b:Int):W->Option PyData
 |.d (.int z)=>if a<z/\z<b then some (.int z)else none
 |_=>none
def zle{a b z:Int}:if a<z/\z<b then some (W.d (.int z))=Option.map W.d (VH a b (.d (.int z)))else none=Option.map W.d (VH a b (.d (.int z))):=by
 simp only[VH];split
 .rfl
 .rfl
abbrev ziJ(a b:Int)(ns:List Int):List Int:=ns.filter λz=>decide (a<z/\z<b)
def JN(a b:Int):∀ns:List Int,(ns.filterMap (VH a b∘λi=>W.d (.int i)))=(ziJ a b ns).map PyData.int
 |[]=>rfl
 |n::ns=>by
  have c:=JN a b ns;unfold ziJ at c ⊢;rw[mB,List.filter_cons];by_cases h:a<n/\n<b
  .rw[l9 (lM h)];simp only[Function.comp,VH,l9 h,lG];exact mH _ c
  .rw[l7 (by simpa using h)];simp only[Function.comp,VH,l7 h];exact c
def ziK(ns:List Int):seqL O (.d (.list (ns.map PyData.int)))=some (ns.map λi=>W.d (.int i)):=by
 simp only[seqL,lT];rfl
abbrev ziL(S:ST)(c:Int):ST:={ S with col:=c }
abbrev ziM(C:Addr)(f:Nat->ST->ST):SpW:=λws O R=>∃n,NumD n/\sSt C [.d n] (λS=>Bds S/\S.stops.length<=1000) (f (oneD n).toNat) ws O R
inductive sStop (C:Addr) (f:ST->ST) (ws:List W) (O:OM) (R:WK):Prop
 |mk:∀x dx p st a S,ws=[.own x]->StAt O C x dx p st a S->(∀O',StAt O' C x dx p st a (f S)->ButO O O' [st]->R (.d .none) O')->sStop C f ws O R
abbrev modeP(on:Bool)(S:ST):PyData->ST
 |.int k=>if k= 1 then{ S with wrap:=on }else if k= 2 then{ S with putting:=on }else if k= 3 then{ S with home:=on }else S
 |_=>S
abbrev is3:PyData->Bool
 |.int k=>decide (k= 3)
 |_=>false
abbrev modesS(ns:List PyData)(on:Bool)(S:ST):ST:=if ns.any is3=true then plS .none .none (ns.foldl (modeP on) S)else ns.foldl (modeP on) S
abbrev sModesN(C:Addr):SpW:=λws O R=>∃ns on,(∀n∈ns,NumD n)/\sSt C [.d (.tuple ns),.d (.bool on)] (λ_=>True) (modesS ns on) ws O R
structure MkN (K:W.Frag) (C:Addr):Prop where
 makes:W.makesIn K C=true
 init:W.findIn K (.ref C) "__init__" =some (some (.builtin "object.__init__"))
 kp:W.keepIn K (.ref C)=true
structure CalN (K:W.Frag) (mg:Str->Option Value) (x:Str) (C:Addr):Prop where
 m:MkN K C
 g:mg x=some (.ref C)
abbrev tMakeN(C:Addr):TE:=λσ H Q=>∀x dx,H x=none->H dx=none->dx≠x->Q (.ref x) (upd (upd H dx (.own x)) x (.ins C dx []))
section
variable {p:Pos}
def zgZ{Q:VK}(M:MkN X.K C)(I:Inv X π σ H s)
  (h:∀x dx,H x=none->H dx=none->dx≠x->Q (.ref x) (upd (upd H dx (.own x)) x (.ins C dx []))) :
  wpAny (model X.prog X.w) X.A (call (.ref C) []) (EP X π σ Q) X.xe s:=by
 have f:=h (s.heap.objs.size+1) s.heap.objs.size (I.hok.fresh (nM _)) (I.hok.fresh (ll _)) (lK (oV _));have c:=Inv.made (C:=C) I;have Y:=PySem.W.makes_of (M:=model X.prog X.w) I.kIn M.makes;have d:((s.heap.push PySem.W.emptyDict).push (PySem.W.instObj C s.heap.objs.size)).get? (s.heap.objs.size+1)=some (PySem.W.instObj C s.heap.objs.size):=by have:=lL (s.heap.push PySem.W.emptyDict) (o:=PySem.W.instObj C s.heap.objs.size) rfl;rwa[pN]at this
 refine wpAny_call (zfX I.kIn M.makes M.init (λa=>PySem.W.Looks.of_pure (PySem.W.oi_bind a)) ?_);have g:PySem.W.Looks (model X.prog X.w) ((s.heap.push PySem.W.emptyDict).push (PySem.W.instObj C s.heap.objs.size)) (typeOf (.ref (s.heap.objs.size+1))) (.ref C):=PySem.W.Looks.andThen (PySem.W.Looks.ld d) PySem.W.Looks.now;have i:PySem.W.Looks (model X.prog X.w) ((s.heap.push PySem.W.emptyDict).push (PySem.W.instObj C s.heap.objs.size)) (isInstance (.ref (s.heap.objs.size+1)) (.type "object")) true:=PySem.W.Looks.andThen g (Y.top.keeps λb o e=>li _ (li _ e));refine codeAny_call_builtin PySem.W.oi_plain PySem.W.entry_oi (PySem.W.check_slot PySem.W.oi_kind PySem.W.oi_split i (PySem.W.oi_args _) ?_);rw[PySem.W.oi_run];exact lz ⟨rfl,⟨V.ref (s.heap.objs.size+1),_,c,rfl,f⟩⟩
def zdj(c:CalN X.K X.mg x C)(b:Gl X x)(a:(x==("__debug__":Str))=false:=by decide):PE X (.Call (.Name x p) [] [] pos) (tMakeN C):=by
 intro π s σ H Q I h;refine n4 (kW I b c.g ?_ a);exact pJ I.kIn c.m.kp (zgZ c.m I h)
end
abbrev znj(t u:TE):TE:=λσ H Q=>t σ H Q\/u σ H Q
def zbp{t u:TE}(a:PE X e t)(b:PE X e u):PE X e (znj t u):=by
 intro π s σ H Q I h;rcases h with h|h
 .exact a π s σ H Q I h
 .exact b π s σ H Q I h
structure IsK (K:W.Frag) (C:Addr):Prop where
 cl:Cls K C
 ha:W.findIn K (.ref C) "__class__" =some (some (.builtin "object.__class__"))
 hn:W.specialIn K (.builtin "object.__class__") "__get__" =some (some (.builtin "getset_descriptor.__get__"))
 htk:W.takesIn K (.builtin "object.__class__")=some true
 hm:W.mroIn K C (.type "object")=some true
abbrev zbq(C:Addr):TEW:=λρ O R=>∀x dx,O x=none->R (.own x) (updO O x (.ins C dx []))
def JO:RefE K (tMakeN C) (zbq C):=by
 intro Γ O H ρ σ S g Q R f k x dx hx b c;have a:upd H dx (.own x) x=none:=by rw[zi (Ne.symm c)];exact hx
 have d:=S.junk b (.own x);have e:=d.newO a (o:=.ins C dx []) (oo:=.ins C dx []) (by intro _ h;cases h) ⟨[],zu,.nil⟩;exact k _ _ _ _ _ (Le.refl _) e yf (f x dx (d.free a).2.1)
abbrev ziN(T U:TEW):TEW:=λρ O R=>T ρ O R\/U ρ O R
def zdk{t u:TE}{T U:TEW}(b:RefE K t T)(c:RefE K u U):RefE K (znj t u) (ziN T U):=by
 intro Γ O H ρ σ S a Q R d k;rcases d with h|h
 .exact .inl (b _ _ _ _ _ S a _ _ h k)
 .exact .inr (c _ _ _ _ _ S a _ _ h k)
inductive Lt where
 |R|D|i|k|s|x|e|w
abbrev effP(l:Lt)(m:PyData)(S:ST):PF:=match l with
 |.R=>mvP S.pic S.ink S.top S.bottom S.left S.right (oneD m) 0
 |.D=>mvP S.pic S.ink S.top S.bottom S.left S.right (-(oneD m)) 0
 |.i=>if S.top<=S.row/\S.row<=S.bottom then mvP S.pic S.ink S.row S.bottom S.left S.right (-(oneD m)) 0 else S.pic
 |.k=>if S.top<=S.row/\S.row<=S.bottom then mvP S.pic S.ink S.row S.bottom S.left S.right (oneD m) 0 else S.pic
 |.s=>mvP S.pic S.ink S.row S.row S.col (eR S) 0 (-(oneD m))
 |.x=>mvP S.pic S.ink S.row S.row S.col (eR S) 0 (oneD m)
 |.e=>wipP S.pic S.ink S.w (S.row*S.w+S.col) (S.row*S.w+(if(S.w:Int)<S.col+oneD m then(S.w:Int)else S.col+oneD m))
 |.w=>wipP S.pic S.ink S.w (spI (wayD m) S).1 (spI (wayD m) S).2
abbrev effS(l:Lt)(m:PyData)(S:ST):ST:={ S with pic:=effP l m S,late:=false }
def ze6{m:PyData}:lineS (-(oneD m)) S=effS .i m S:=by
 unfold lineS effS effP;simp only;split<;>rfl
def ze7{m:PyData}:lineS (oneD m) S=effS .k m S:=by
 unfold lineS effS effP;simp only;split<;>rfl
def yv.wip{a b:Int}(h:yv S):yv { S with pic:=wipP S.pic S.ink S.w a b }:=by
 intro i j c d;show okC (wipP S.pic S.ink S.w a b i j);unfold wipP;split
 .show PyData.strOk s!" "=true;decide +kernel
 .exact h i j c d
def AllOk.eff{l:Lt}{m:PyData}(h:AllOk S)(a:Bds S):AllOk (effS l m S):=by
 have e:=jW a;refine⟨?_,h.2⟩;show yv { S with pic:=effP l m S };cases l<;>simp only[effP]
 .exact yv.mv h.1 a.t0 a.b1 a.l0 a.rr
 .exact yv.mv h.1 a.t0 a.b1 a.l0 a.rr
 .split
  .exact yv.mv h.1 a.r0 a.b1 a.l0 a.rr
  .exact h.1
 .split
  .exact yv.mv h.1 a.r0 a.b1 a.l0 a.rr
  .exact h.1
 .exact yv.mv h.1 a.r0 a.r1 a.c0 e.2
 .exact yv.mv h.1 a.r0 a.r1 a.c0 e.2
 .exact yv.wip h.1
 .exact yv.wip h.1
def Bds.put{c:Str}(h:Bds S):Bds (putS0 c S):=by
 rw[vJ];exact(show Bds (L2.pE c (L2.pD c (L2.pC (L2.pB (L2.pA S)))))from{ h.pA.pB.pC with }).pF
def AllOk.put{c:Str}(h:AllOk S)(e:Bds S)(f:PyData.strOk c=true):AllOk (putS0 c S):=by
 rw[vJ];have g:AllOk (pA S):=by
  unfold pA;split
  .exact h.lineE e
  .exact h
 have b:AllOk (pB (pA S)):=g;have a:=e.pA.pB;generalize pB (pA S)=S2 at *;have i:AllOk (pC S2):=by
  unfold pC;split
  .exact⟨yv.mv b.1 a.r0 a.r1 a.c0 (jW a).2,b.2⟩
  .exact b
 generalize pC S2=S3 at *;have d:AllOk (pE c (pD c S3)):=⟨yv.set i.1 f,zmX f⟩;generalize pE c (pD c S3)=S4 at *;unfold pF;split
 .exact d
 .exact d
def yw{k c:Nat}{A B:TSW}{D:EndsW}{ρ:WS}(hz:z=⟨#[k]⟩)(g:ρ[i]? =some (some (.d (.str ⟨#[c]⟩))))(a:c=k->A D ρ O)(b:c≠k->B D ρ O):xN (y9 (wOp vEq (zO i) (wC (.str z)))) A B D ρ O:=by
 refine Zb (c=k) (λR f=>?_) a b;unfold y9 wOp zO;rw[g];refine⟨rfl,rfl,rfl,?_⟩;have e:decide (vOf (.str ⟨#[c]⟩)=vOf (.str z))=decide (c=k):=by rw[hz];simp[vOf]
 show R (decide (vOf (.str ⟨#[c]⟩)=vOf (.str z))) O;rw[e];exact f
structure Nxt (O O':OM) (C x dx p st kp st' kp':Addr) (S':ST):Prop where
 s:StAt O' C x dx p st' kp' S'
 b:ButO O O' [x,p,st,kp]
 n:∀b,O b≠none->O' b≠none
 e1:st'=st\/O st'=none
 e2:kp'=kp\/O kp'=none
section
variable {O1 O2:OM}{x st kp st' kp' st1 kp1:Addr}{S' S1:ST}
def StAt.some(s:StAt O C x dx p st kp S):∀b∈[x,p,st,kp],O b≠none:=by
 intro b a;simp only[lu,lF,ma]at a;rcases a with rfl|rfl|rfl|rfl
 .rw[s.x];simp
 .rw[s.p];simp
 .rw[s.st];simp
 .rw[s.kp];simp
def Nxt.of{l:List Addr}(h:StAt O' C x dx p st kp S')(b:ButO O O' l)(d:∀a∈l,a∈[x,p,st,kp]):Nxt O O' C x dx p st kp st kp S':=
 ⟨h,b.mono d,fun a c=>by
  by_cases e:a∈[x,p,st,kp]
  .exact h.some a e
  .rw[b.mono d a e c];exact c,.inl rfl,.inl rfl⟩
def Nxt.xp(h:StAt O' C x dx p st kp S')(b:But O O' x p):Nxt O O' C x dx p st kp st kp S':=.of h b.butO m!""
def Nxt.refl(h:StAt O C x dx p st kp S):Nxt O O C x dx p st kp st kp S:=.of (l:=[]) h ButO.refl m!""
def Nxt.trans(a:Nxt O O1 C x dx p st kp st1 kp1 S1)(b:Nxt O1 O2 C x dx p st1 kp1 st' kp' S'):Nxt O O2 C x dx p st kp st' kp' S':=by
 refine⟨b.s,λc d f=>?_,λc d=>b.n c (a.n c d),?_,?_⟩
 .have g:=a.b c d f;simp only[lu,lF,ma,np]at d;rw[b.b c ?_ (by rw[g];exact f),g];simp only[lu,lF,ma,np];refine⟨d.1,d.2.1,λe=>?_,λe=>?_⟩
  .rcases a.e1 with z|z
   .exact d.2.2.1 (e.trans z)
   .rw[<-e]at z;exact f z
  .rcases a.e2 with z|z
   .exact d.2.2.2 (e.trans z)
   .rw[<-e]at z;exact f z
 .rcases b.e1 with z|z
  .rw[z];exact a.e1
  .refine .inr (nL λq=>a.n _ q z)
 .rcases b.e2 with z|z
  .rw[z];exact a.e2
  .refine .inr (nL λq=>a.n _ q z)
def Nxt.old(a:Nxt O O1 C x dx p st kp st' kp' S')(h:Old O1 O2):Nxt O O2 C x dx p st kp st' kp' S':=
 ⟨a.s.old h,fun c d e=>by
  have q:=a.b c d e;rw[h c (by rw[q];exact e),q],λc d=>by
  have q:=a.n c d;rw[h c q];exact q,a.e1,a.e2⟩
variable {x2 dx2 p2 st2 kp2:Addr}{S2:ST}
end
abbrev LsOk(S:ST):Prop:=S.last=.none\/∃c,S.last=.str c/\PyData.strOk c=true
def zlf:(pF S).last=S.last:=by
 unfold pF;split<;>rfl
def ziO{c:Str}:(putS0 c S).last=.str c:=by
 rw[vJ,zlf];rfl
def ziP{c:Str}(h:Bds S):Bds (putS0 c S):=by
 rw[vJ];exact(show Bds (L2.pE c (L2.pD c (L2.pC (L2.pB (L2.pA S)))))from{ h.pA.pB.pC with }).pF
abbrev itS(c:Str):Nat->ST->ST
 |0,S=>S
 |n+1,S=>putS0 c (itS c n S)
def zg0{c:Str}(h:Bds S):∀n,Bds (itS c n S)
 |0=>h
 |n+1=>ziP (zg0 h n)
structure Good (n:Nat) (S:ST):Prop where
 b:Bds S
 k:KOk S
 a:AllOk S
 l:LsOk S
 s:S.stops.length<=n
abbrev agS(m:PyData)(S:ST):ST:=match S.last with
 |.str c=>itS c (oneD m).toNat S
 |_=>S
abbrev wicS(n:PyData)(S:ST):ST:=wipS (S.row*S.w+S.col) (S.row*S.w+(if(S.w:Int)<S.col+oneD n then(S.w:Int)else S.col+oneD n)) S
abbrev wiwS(m:PyData)(S:ST):ST:=wipS (spI (wayD m) S).1 (spI (wayD m) S).2 S
abbrev actS(c:Nat)(a b:PyData)(ns:List PyData)(S:ST):ST:=
 if c= 104 then leftS S else if c= 116 then stopS S else if c= 84 then cutS S else if c= 85 then clrS S else if c= 118 then keepS S else if c= 122 then backS S else if c= 90 then newS S
 else if c= 117\/c= 100\/c= 108\/c= 114 then offS (goS c (oneD a) S)else if c= 121 then tabS (oneD a).toNat S else if c= 89 then bakS (oneD a).toNat S else if c= 112 then agS a S
 else if c= 82 then rollT true a S else if c= 68 then rollT false a S else if c= 105 then lineS (-(oneD a)) S else if c= 107 then lineS (oneD a) S
 else if c= 115 then cellsS (-(oneD a)) S else if c= 120 then cellsS (oneD a) S else if c= 101 then wicS a S else if c= 119 then wiwS a S
 else if c= 103 then plS a b S else if c= 109 then rowsS a b S else if c= 77 then colsS a b S
 else if c= 99 then dyeS ns S else if c= 111 then modesS ns true S else if c= 102 then modesS ns false S else S
structure Smo (S S':ST):Prop where
 w:S'.w=S.w
 h:S'.h=S.h
 s:S'.stops=S.stops
 k:S'.kept=S.kept
 p:S'.pic=S.pic
 l:S'.last=S.last
structure Sno (S S':ST):Prop where
 w:S'.w=S.w
 h:S'.h=S.h
 s:S'.stops=S.stops
 k:S'.kept=S.kept
section
variable {S' S1:ST}{c:Nat}{a b:PyData}{ns:List PyData}{f:ST->ST}
def Smo.refl:Smo S S:=⟨rfl,rfl,rfl,rfl,rfl,rfl⟩
def Smo.trans(x:Smo S S1)(y:Smo S1 S'):Smo S S':=⟨y.w.trans x.w,y.h.trans x.h,y.s.trans x.s,y.k.trans x.k,y.p.trans x.p,y.l.trans x.l⟩
def Smo.toN(x:Smo S S'):Sno S S':=⟨x.w,x.h,x.s,x.k⟩
def Sno.refl:Sno S S:=⟨rfl,rfl,rfl,rfl⟩
def Sno.trans(x:Sno S S1)(y:Sno S1 S'):Sno S S':=⟨y.w.trans x.w,y.h.trans x.h,y.s.trans x.s,y.k.trans x.k⟩
def AllOk.sm(h:AllOk S)(e:Smo S S'):AllOk S':=by
 obtain⟨a,b⟩:=h;refine⟨λi j c d=>?_,by rw[e.l];exact b⟩;rw[e.p];exact a i j (by rw[<-e.h];exact c) (by rw[<-e.w];exact d)
def Good.sn(h:Good n S)(e:Sno S S')(b:Bds S')(a:AllOk S')(c:LsOk S'):Good n S':=
 ⟨b,h.k.of ⟨e.w,e.h,e.s,e.k⟩,a,c,by rw[e.s];exact h.s⟩
def Good.sm(h:Good n S)(e:Smo S S')(b:Bds S'):Good n S':=h.sn e.toN b (h.a.sm e) (by unfold LsOk;rw[e.l];exact h.l)
def Good.up(h:Good n S):Good (n+1) S:=⟨h.b,h.k,h.a,h.l,oJ h.s⟩
def jZ:Smo S (plS a b S):=by unfold plS;split<;>exact⟨rfl,rfl,rfl,rfl,rfl,rfl⟩
def Zc:Smo S (rowsS a b S):=by
 unfold rowsS;split
 .exact .refl
 .refine Smo.trans ?_ jZ;exact⟨rfl,rfl,rfl,rfl,rfl,rfl⟩
def Zd:Smo S (colsS a b S):=by
 unfold colsS;split
 .exact .refl
 .refine Smo.trans ?_ jZ;exact⟨rfl,rfl,rfl,rfl,rfl,rfl⟩
def UK{m:Int}:Smo S (offS (goS c m S)):=by
 unfold goS
 repeat' split
 all_goals exact⟨rfl,rfl,rfl,rfl,rfl,rfl⟩
def ziQ{on:Bool}{d:PyData}:Smo S (modeP on S d):=by
 unfold modeP
 repeat' split
 all_goals exact⟨rfl,rfl,rfl,rfl,rfl,rfl⟩
def zg1{on:Bool}{d:PyData}(h:Bds S):Bds (modeP on S d):=by
 unfold modeP
 repeat' split
 all_goals exact{ h with }
def zbr{on:Bool}:∀{ns:List PyData}{S:ST},Bds S->Smo S (ns.foldl (modeP on) S)/\Bds (ns.foldl (modeP on) S)
 |[],_,h=>⟨.refl,h⟩
 |d::ns,S,h=>by obtain⟨a,b⟩:=zbr (on:=on) (ns:=ns) (zg1 (on:=on) (d:=d) h);exact⟨ziQ.trans a,b⟩
def xv{on:Bool}(h:Bds S):Smo S (modesS ns on S)/\Bds (modesS ns on S):=by
 obtain⟨a,b⟩:=zbr (on:=on) (ns:=ns) h;unfold modesS;split
 .exact⟨a.trans jZ,b.pl⟩
 .exact⟨a,b⟩
def zlg{m:Nat}(h:Bds S):Bds (tabS m S):=by
 have e:=jW h;have c0:=h.c0;have q:=zbo (f:=fwd S.stops (eR S)) (N:=S.w) (λc a=>znh a.1 ⋯ ⋯) m ⟨h.c0,h.c1⟩;exact{ h with c0:=q.1,c1:=q.2 }
def zlh{m:Nat}(h:Bds S):Bds (bakS m S):=by
 have e:=KL h;have q:=zbo (f:=bwd S.stops (eL S)) (N:=S.w) (λc a=>zni e.1 a.2 e.2) m ⟨h.c0,h.c1⟩;exact{ h with c0:=q.1,c1:=q.2 }
def jp:Sno S (lineE S):=by
 unfold lineE;dsimp only;split
 .exact⟨rfl,rfl,rfl,rfl⟩
 .split<;>exact⟨rfl,rfl,rfl,rfl⟩
def Yz:Sno S (putS0 z S):=by
 rw[vJ];have a:Sno S (pA S):=by
  unfold pA;split
  .exact jp
  .exact .refl
 have b:Sno (pB (pA S)) (pC (pB (pA S))):=by
  unfold pC;split
  .exact⟨rfl,rfl,rfl,rfl⟩
  .exact .refl
 have c:∀S,Sno S (pF S):=λS=>by unfold pF;split<;>exact⟨rfl,rfl,rfl,rfl⟩
 exact(a.trans (⟨rfl,rfl,rfl,rfl⟩:Sno (pA S) (pB (pA S)))).trans (b.trans (Sno.trans (⟨rfl,rfl,rfl,rfl⟩:Sno (pC (pB (pA S))) (pE z (pD z (pC (pB (pA S)))))) (c _)))
def Good.put(h:Good n S)(hz:PyData.strOk z=true):Good n (putS0 z S):=h.sn Yz h.b.put (h.a.put h.b hz) (.inr ⟨z,ziO,hz⟩)
def Good.it(h:Good n S)(hz:PyData.strOk z=true):∀m,Good n (itS z m S)
 |0=>h
 |m+1=>(h.it hz m).put hz
def zdl(h:LsOk S)(e:S'.last=S.last):LsOk S':=by unfold LsOk;rw[e];exact h
def Good.lineE (h:Good n S):Good n (lineE S):=h.sn jp h.b.lineE (h.a.lineE h.b) (zdl h.l (by
  unfold L2.lineE;dsimp only;split
  · rfl
  · split<;>rfl))
def Good.tab{m:Nat}(h:Good n S):Good n (tabS m S):=h.sm ⟨rfl,rfl,rfl,rfl,rfl,rfl⟩ (zlg h.b)
def Good.eff{l:Lt}{m:PyData}(h:Good n S):Good n (effS l m S):=h.sn ⟨rfl,rfl,rfl,rfl⟩ { h.b with } (h.a.eff h.b) h.l
def UL{w:Nat}(h:w<=24):(stopsI w).length<=6:=by
 have:∀w,w<=24->(stopsI w).length<=6:=∅
 exact this w h
def Good.new(h:Good n S)(f:6<=n):Good n (newS S):=by
 have d:Bds (st0 S.w S.h S.pic):=by have:=h.b.w1;have:=h.b.w2;have:=h.b.h1;have:=h.b.h2;constructor<;>simp only[st0]<;>first|decide|lia
 have c:AllOk (st0 S.w S.h S.pic):=⟨h.a.1,rfl,rfl⟩;exact⟨{ d with },⟨lY _,λk e=>by cases e⟩,c.wip,.inl rfl,m7 (UL h.b.w2) f⟩
def zI{q:Prop}[Decidable q]{A B:ST}(a:Good n A)(b:Good n B):Good n (if q then A else B):=by
 split
 .exact a
 .exact b
def Good.act(h:Good n S)(g:6<=n)(i:NumD a):Good (n+1) (actS c a b ns S):=by
 unfold actS;refine zI ?_ ?_
 .exact(Good.sm (S':=leftS S) h ⟨rfl,rfl,rfl,rfl,rfl,rfl⟩ h.b.left).up
 refine zI ?_ ?_
 .refine⟨{ h.b with },h.k,h.a,h.l,?_⟩;have:=h.s;show(if S.col∈S.stops then S.stops else S.stops++[S.col]).length<=n+1;split
  .lia
  .simp;exact this
 refine zI ?_ ?_
 .exact⟨{ h.b with },h.k,h.a,h.l,oJ (m7 (List.length_filter_le _ _) h.s)⟩
 refine zI ?_ ?_
 .exact⟨{ h.b with },h.k,h.a,h.l,lY _⟩
 refine zI ?_ ?_
 .exact(⟨{ h.b with },h.k.keep h.b,h.a,h.l,h.s⟩:Good n (keepS S)).up
 refine zI ?_ ?_
 .obtain⟨d,f⟩:=zk6 h.k h.b;refine(⟨f,d,?_,?_,?_⟩:Good n _).up
  .unfold backS;split;exact h.a;exact h.a
  .refine zdl h.l ?_;unfold backS;split<;>rfl
  .unfold backS;split;exact h.s;exact h.s
 refine zI ?_ ?_
 .exact(h.new g).up
 refine zI ?_ ?_
 .have:=vV (n:=a);exact(h.sm UK (h.b.goS (c:=c) (by lia:0<=oneD a)).late').up
 refine zI ?_ ?_
 .exact h.tab.up
 refine zI ?_ ?_
 .exact(Good.sm (S':=bakS _ S) h ⟨rfl,rfl,rfl,rfl,rfl,rfl⟩ (zlh h.b)).up
 refine zI ?_ ?_
 .unfold agS;split
  .rename_i z hz;rcases h.l with e|⟨z',e,hz'⟩
   .rw[e]at hz;cases hz
   .rw[e]at hz;cases hz;exact(h.it hz' _).up
  .exact h.up
 refine zI ?_ ?_
 .exact(h.eff (l:=.R) (m:=a)).up
 refine zI ?_ ?_
 .exact(h.eff (l:=.D) (m:=a)).up
 refine zI ?_ ?_
 .rw[ze6];exact h.eff.up
 refine zI ?_ ?_
 .rw[ze7];exact h.eff.up
 refine zI ?_ ?_
 .exact(h.eff (l:=.s) (m:=a)).up
 refine zI ?_ ?_
 .exact(h.eff (l:=.x) (m:=a)).up
 refine zI ?_ ?_
 .exact(h.eff (l:=.e) (m:=a)).up
 refine zI ?_ ?_
 .exact(h.eff (l:=.w) (m:=a)).up
 refine zI ?_ ?_
 .exact(h.sm jZ h.b.pl).up
 refine zI ?_ ?_
 .exact(h.sm Zc h.b.rows).up
 refine zI ?_ ?_
 .exact(h.sm Zd h.b.cols).up
 refine zI ?_ ?_
 .exact(Good.sm (S':=dyeS ns S) h ⟨rfl,rfl,rfl,rfl,rfl,rfl⟩ h.b.dye).up
 refine zI ?_ ?_
 .obtain⟨d,f⟩:=xv (ns:=ns) (on:=true) h.b;exact(h.sm d f).up
 refine zI ?_ ?_
 .obtain⟨d,f⟩:=xv (ns:=ns) (on:=false) h.b;exact(h.sm d f).up
 exact h.up
abbrev opt(L:List Nat)(c:Nat)(f:ST->ST)(S:ST):ST:=if c∈L then f S else S
def QZ{L M:List Nat}{f:ST->ST}(h:c∈L->c∉M):opt M c f (opt L c f S)=opt (L++M) c f S:=by
 unfold opt;by_cases h1:c∈L
 .rw[l9 h1,l7 (h h1),l9 (n9 _ h1)]
 .rw[l7 h1];by_cases h2:c∈M
  .rw[l9 h2,l9 (lW _ h2)]
  .rw[l7 h2,l7 (by simp[h1,h2])]
def Good.opt{L:List Nat}(h:Good n S)(e:6<=n)(d:NumD a):Good (n+1) (opt L c (actS c a b ns) S):=by
 unfold L2.opt;split
 .exact h.act e d
 .exact h.up
/---/abbrev lsA:List Nat:=[104,116,84,85,118,122,90]
/---/abbrev lsB:List Nat:=[117,100,108,114,121,89,112,82,68,105,107,115,120,101,119]
/---/abbrev lsC:List Nat:=[103,109,77]
/---/abbrev lsD:List Nat:=[99,111,102]
abbrev lsAll:List Nat:=lsA++lsB++lsC++lsD
def zli:opt lsD c f (opt lsC c f (opt lsB c f (opt lsA c f S)))=opt lsAll c f S:=by
 have a:∀c∈lsA,c∉lsB:=∅
 have b:∀c∈lsA++lsB,c∉lsC:=∅
 have d:∀c∈lsA++lsB++lsC,c∉lsD:=∅
 rw[QZ (a c),QZ (b c),QZ (d c)];rfl
end
def zg2{c:Nat}{a:List PyData}(ks:List Nat){R:Bool->OM->Prop}{q:Prop}[Decidable q](hz:a=ks.map λk=>.str ⟨#[k]⟩)(f:q↔c∈ks)(b:R (decide q) O):∃x,seqD O (.d (.tuple a))=some x/\(∀y,y∈x->scD y=true)/\R (inV (V.str ⟨#[c]⟩) (x.map vOf)) O:=by
 refine⟨a,rfl,λy g=>?_,?_⟩
 .rw[hz]at g;obtain⟨k,_,rfl⟩:=lH.mp g;rfl
 .have e:inV (V.str ⟨#[c]⟩) (a.map vOf)=decide q:=by
   rw[hz,lT];have:decide q=decide (c∈ks):=decide_eq_decide.mpr f;rw[this];clear hz f this b;induction ks with
   |nil=>rfl
   |cons k ks ih=>
    have h:inV (V.str ⟨#[c]⟩) ((k::ks).map (vOf∘λk=>PyData.str ⟨#[k]⟩))=(decide (k=c)||inV (V.str ⟨#[c]⟩) (ks.map (vOf∘λk=>PyData.str ⟨#[k]⟩))):=by
     unfold inV;rw[lG,mY];congr 1;show eqV (V.str ⟨#[k]⟩) (V.str ⟨#[c]⟩)=_;simp only[eqV];by_cases e:k=c
     .subst e;simp
     .simp[e]
    rw[h,ih];simp only[lu];by_cases e:k=c
    .subst e;simp
    .simp[e,Ne.symm e]
  rw[e];exact b
abbrev zj7:V->List V->Hp->VK->Prop:=Xe
def zdm:MtR X "list.append" zj7:=xF
def zg3{T:String}:RefM K T zj7 KQ:=zmZ
structure Dds (K:W.Frag) (mg:Str->Option Value) (cD cS cL cT cR:Addr):Prop where
 m_Deed:mg "Deed" =some (.ref cD)
 m_Sign:mg "Sign" =some (.ref cS)
 m_Line:mg "Line" =some (.ref cL)
 m_Tab:mg "Tab" =some (.ref cT)
 m_Row:mg "Row" =some (.ref cR)
 k_S:IsK K cS
 k_L:IsK K cL
 k_T:IsK K cT
 k_R:IsK K cR
 n_sign:NoAttr K cS "sign"
 n_letter:NoAttr K cR "letter"
 n_numbers:NoAttr K cR "numbers"
 i_SD:W.kitOne K (.ref cS) (.ref cD)=some true
 i_LD:W.kitOne K (.ref cL) (.ref cD)=some true
 i_TD:W.kitOne K (.ref cT) (.ref cD)=some true
 i_RD:W.kitOne K (.ref cR) (.ref cD)=some true
 i_SS:W.kitOne K (.ref cS) (.ref cS)=some true
 i_SL:W.kitOne K (.ref cS) (.ref cL)=some false
 i_ST:W.kitOne K (.ref cS) (.ref cT)=some false
 i_SR:W.kitOne K (.ref cS) (.ref cR)=some false
 i_LS:W.kitOne K (.ref cL) (.ref cS)=some false
 i_LL:W.kitOne K (.ref cL) (.ref cL)=some true
 i_LT:W.kitOne K (.ref cL) (.ref cT)=some false
 i_LR:W.kitOne K (.ref cL) (.ref cR)=some false
 i_TS:W.kitOne K (.ref cT) (.ref cS)=some false
 i_TL:W.kitOne K (.ref cT) (.ref cL)=some false
 i_TT:W.kitOne K (.ref cT) (.ref cT)=some true
 i_TR:W.kitOne K (.ref cT) (.ref cR)=some false
 i_RS:W.kitOne K (.ref cR) (.ref cS)=some false
 i_RL:W.kitOne K (.ref cR) (.ref cL)=some false
 i_RT:W.kitOne K (.ref cR) (.ref cT)=some false
 i_RR:W.kitOne K (.ref cR) (.ref cR)=some true
inductive Rea where
 |sign (c:Nat)
 |line
 |tab
 |row (c:Nat) (ns:List PyData)
abbrev rdD:Rea->PyData
 |.sign c=>.tuple [.str "sign",.str ⟨#[c]⟩]
 |.line=>.tuple [.str "line"]
 |.tab=>.tuple [.str "tab"]
 |.row c ns=>.tuple [.str "row",.str ⟨#[c]⟩,.tuple ns]
abbrev numT:PyData->Str
 |.int i=>strI i
 |_=>Str.empty
abbrev rowT(c:Nat)(ns:List PyData):Str:=s!"~" ++ Txt.join s!";" (ns.map numT)++⟨#[c]⟩
abbrev rdT:Rea->Str
 |.sign c=>if c= 126 then s!"~~" else⟨#[c]⟩
 |.line=>Str.ofString "\n"
 |.tab=>Str.ofString "\t"
 |.row c ns=>rowT c ns
abbrev nmA(ns:List PyData)(i:Nat):PyData:=ns.getD i .none
structure OkNs (ns:List PyData):Prop where
 n:∀m∈ns,NumD m
 l:ns.length<=6
 o:1<=ns.length
abbrev OkR:Rea->Prop
 |.sign c=>c<128/\32<=c
 |.line=>True
 |.tab=>True
 |.row c ns=>c<128/\OkNs ns
abbrev DAt(e a f b:Addr)(O:OM)(d:Addr):Rea->Prop
 |.sign c=>∃dx,O d=some (.ins e dx [("sign",.d (.str ⟨#[c]⟩))])
 |.line=>∃dx,O d=some (.ins a dx [])
 |.tab=>∃dx,O d=some (.ins f dx [])
 |.row c ns=>∃dx,O d=some (.ins b dx [("letter",.d (.str ⟨#[c]⟩)),("numbers",.d (.tuple ns))])
abbrev rdS'(r:Rea)(S:ST):ST:=match r with
 |.sign c=>putS0 ⟨#[c]⟩ S
 |.line=>lineE S
 |.tab=>tabS 1 S
 |.row c ns=>if c= 113 then S else opt lsAll c (actS c (nmA ns 0) (nmA ns 1) ns) S
abbrev rdA(r:Rea)(S:ST):List Str:=match r with
 |.row c ns=>if c= 113 then ansL S ns else[]
 |_=>[]
section
variable {A B:TSW}{D:EndsW}{ρ:WS}{x st kp st' kp' d dd E:Addr}{fs:List (Str×W)}{fn y:Str}{v:W}{S':ST}
def qZ{R:WK}(f:ρ[i]? =some (some (.own d)))(b:O d=some (.ins E dd fs))(a:Cls K E)(e:NoAttr K E fn)(c:fs.lookup fn=some v)(h:R v O):yS K (zO i) fn ρ O R:=by
 unfold yS zO;rw[f];exact⟨E,dd,fs,b,a,e,v,c,h⟩
def zg4{R:Bool->OM->Prop}(h:R (decide (y=z)) O):vEq (.d (.str y)) (.d (.str z)) O (λx a=>match x with|.d (.bool k)=>R k a|_=>False):=by
 refine⟨rfl,rfl,rfl,?_⟩;have e:decide (vOf (.str y)=vOf (.str z))=decide (y=z):=by simp[vOf]
 rw[e];exact h
def znk(j:ρ[i]? =some (some (.own d)))(f:O d=some (.ins E dd fs))(e:Cls K E)(h:NoAttr K E fn)(g:fs.lookup fn=some (.d (.str y)))(a:y=z->A D ρ O)(b:y≠z->B D ρ O):xN (y9 (wOp vEq (yS K (zO i) fn) (wC (.str z)))) A B D ρ O:=by
 refine Zb (y=z) (λR c=>?_) a b;unfold y9 wOp;refine qZ j f e h g ?_;exact zg4 c
def zou{k:Int}(f:ρ[i]? =some (some (.d (.tuple ds))))(e:atI ds k=some (.str y))(a:y=z->A D ρ O)(b:y≠z->B D ρ O):xN (y9 (wOp vEq (wOp ub (zO i) (wC (.int k))) (wC (.str z)))) A B D ρ O:=by
 refine Zb (y=z) (λR c=>?_) a b;unfold y9 wOp zO;rw[f];refine⟨ds,k,_,rfl,rfl,e,?_⟩;exact zg4 c
def zlj{U:TSW}(h:ρ[i]? =some (some (.own d)))(e:O d=some (.ins E dd fs))(c:Cls K E)(g:NoAttr K E fn)(f:fs.lookup fn=some (.d (.str y)))(a:y=z->A { D with nx:=U D } ρ O)(b:y≠z->U D ρ O):yR (xN (y9 (wOp vEq (yS K (zO i) fn) (wC (.str z)))) A uc) U D ρ O:=znk h e c g f a b
def uo{U:TSW}{k:Int}(e:ρ[i]? =some (some (.d (.tuple ds))))(c:atI ds k=some (.str y))(a:y=z->A { D with nx:=U D } ρ O)(b:y≠z->U D ρ O):yR (xN (y9 (wOp vEq (wOp ub (zO i) (wC (.int k))) (wC (.str z)))) A uc) U D ρ O:=zou e c a b
def ziR{R:WK}{k:Int}{e:PyData}(b:ρ[i]? =some (some (.d (.tuple ds))))(a:atI ds k=some e)(h:R (.d e) O):wOp ub (zO i) (wC (.int k)) ρ O R:=by
 unfold wOp zO;rw[b];exact⟨ds,k,_,rfl,rfl,a,h⟩
def zov{c k:Nat}:((⟨#[c]⟩:Str)=⟨#[k]⟩)=(c=k):=m!""
def Old.up{o:OO}(h:O a=none):Old O (updO O a o):=λb c=>ze λe=>c (by rw[e];exact h)
def Nxt.nk(N:Nxt O O' C x dx p st kp st' kp' S'){q:Addr}(h:O' q=none):q≠kp':=λe=>by rw[e,N.s.kp]at h;cases h
def Nxt.nn(N:Nxt O O' C x dx p st kp st' kp' S'){q:Addr}(h:O' q=none):O q=none:=nL λe=>N.n q e h
def ze8(a:O d=some (.ins E dd fs))(b:StAt O C x dx p st kp S)(h:fs.length≠17):d≠x:=neW a b.x λe=>by
 injection e with _ _ e;exact h (by rw[e];rfl)
def Nxt.ins(N:Nxt O O' C x dx p st kp st' kp' S')(c:StAt O C x dx p st kp S)(a:O d=some (.ins E dd fs))(h:d≠x):O' d=some (.ins E dd fs):=by
 refine N.b.old a ?_;simp only[lu,lF,ma,np];exact⟨h,neW a c.p (by intro h;cases h),neW a c.st (by intro h;cases h),neW a c.kp (by intro h;cases h)⟩
end
def zbs{ns:List PyData}(h:∀m∈ns,NumD m):NumD (nmA ns i):=by
 unfold nmA;rw[lZ];cases e:ns[i]? with
 |none=>exact trivial
 |some m=>exact h m (lE e)
def zow{c:Nat}(h:c<128):PyData.strOk ⟨#[c]⟩=true:=by
 have:∀n:_root_.Fin 128,PyData.strOk ⟨#[n.val]⟩=true:=f!""
 exact this ⟨c,h⟩
abbrev znl:W->Option PyData
 |.d .none=>some (.str s!"")
 |.d (.int i)=>some (.str (Str.ofString i.repr))
 |_=>none
def JP:∀{ns:List PyData},(∀m∈ns,NumD m)->ns.filterMap (znl∘W.d)=(ns.map numT).map PyData.str
 |[],_=>rfl
 |n::ns,h=>by
  have q:=h n (lh ..);have a:=JP (ns:=ns) λm b=>h m (lg _ b);rw[mB];cases n with
  |none=>exact mH _ a
  |int i=>exact mH _ a
  |_=>exact q.elim
def vK{n:PyData}(h:NumD n):(numT n).length<=8:=by
 cases n with
 |none=>exact lY _
 |int i=>obtain⟨a,b⟩:=h;have q:(toString i).length<=7+1:=int_text_length_le10 ∅ (show i.natAbs<10 ^ 7 by lia);show(Str.ofString (toString i)).length<=8;rw[PySem.ofString_length];exact q
 |_=>exact h.elim
def ZI:∀{ns:List PyData},(∀m∈ns,NumD m)->((ns.map numT).map (·.length)).sum<=8*ns.length
 |[],_=>ll _
 |n::ns,h=>by
  have q:=vK (h n (lh ..));have b:=ZI (ns:=ns) λm a=>h m (lg _ a);simp only[lG,oS,lQ]at b ⊢
  lia
def VI(a:List Str):seqL O (.d (.list (a.map PyData.str)))=some (a.map zin):=by
 simp only[seqL,lT];rfl
def zg5{ns:List PyData}(h:OkNs ns):(Txt.join s!";" (ns.map numT)).length<=60:=by
 have q:=ZE s!";" (ns.map numT);have s:=ZI h.n;have l:=h.l;rw[jb];have e:s!";".length= 1:=f!""
 rw[e,l8]at q;show(Str.join s!";" (ns.map numT)).cps.toList.length<=60
 lia
inductive sDeedDo (C:Addr) (A:OM->Addr->Rea->Prop) (ws:List W) (O:OM) (R:WK):Prop
 |mk:∀r n d x dx p st c S,ws=[.own d,.own x]->A O d r->OkR r->n<=80->6<=n->StAt O C x dx p st c S->Good n S->(∀q b a O',O q=none->O' q=some (.lst (((rdA r S).map .str).map .d))->q≠a->Nxt O O' C x dx p st c b a (rdS' r S)->R (.own q) O')->sDeedDo C A ws O R
abbrev aS(a:Addr)(O:OM)(d:Addr)(r:Rea):Prop:=∃c dx,r=.sign c/\O d=some (.ins a dx [("sign",.d (.str ⟨#[c]⟩))])
abbrev aR(a:Addr)(O:OM)(d:Addr)(r:Rea):Prop:=∃c ns dx,r=.row c ns/\O d=some (.ins a dx [("letter",.d (.str ⟨#[c]⟩)),("numbers",.d (.tuple ns))])
inductive sDeedOf (c a e b:Addr) (ws:List W) (O:OM) (R:WK):Prop
 |mk:∀r,ws=[.d (rdD r)]->OkR r->(∀d O',O d=none->DAt c a e b O' d r->Old O O'->R (.own d) O')->sDeedOf c a e b ws O R
inductive sSigns (A:OM->Addr->Rea->Prop) (ws:List W) (O:OM) (R:WK):Prop
 |mk:∀r d,ws=[.own d]->A O d r->OkR r->(∀O',Old O O'->R (.d (.str (rdT r))) O')->sSigns A ws O R
section
variable {it l:Addr}{items:Array Value}
end
section
variable {A B:TSW}{D:EndsW}{ρ:WS}{x st kp st' kp' d dd E:Addr}{fs:List (Str×W)}{fn y:Str}{v:W}{S':ST}
def UM{T:TEW}(h:T ρ O D.rt):km T D ρ O:=h
end
abbrev Num3:PyData->Prop
 |.none=>True
 |.int i=>0<=i/\i<=999
 |_=>False
def Num3.d{n:PyData}(h:Num3 n):NumD n:=by
 cases n with
 |none=>trivial
 |int i=>exact⟨h.1,by have:=h.2;lia⟩
 |_=>exact h.elim
structure Ok3 (ns:List PyData):Prop where
 n:∀m∈ns,Num3 m
 l:ns.length<=6
 o:1<=ns.length
def Ok3.ns{ns:List PyData}(h:Ok3 ns):OkNs ns:=⟨λm a=>(h.n m a).d,h.l,h.o⟩
def zbt{c:Nat}(h:isLet c):c<128:=by unfold isLet at h;lia
abbrev OkQ:Rea->Prop
 |.sign c=>c<128/\32<=c
 |.line=>True
 |.tab=>True
 |.row c ns=>isLet c/\Ok3 ns
def OkQ.r{r:Rea}(h:OkQ r):OkR r:=by
 cases r with
 |sign c=>exact h
 |line=>trivial
 |tab=>trivial
 |row c ns=>exact⟨zbt h.1,h.2.ns⟩
def zpG:∀n,n<1000->(Nat.toDigits 10 n).length<=3:=f!""
def j0{n:PyData}(h:Num3 n):(∀c∈(numT n).cps.toList,48<=c/\c<=57)/\(numT n).cps.toList.length<=3/\uO (numT n).cps.toList=n:=by
 cases n with
 |none=>exact⟨λc a=>(by cases a),lY _,rfl⟩
 |int i=>
  obtain⟨d,f⟩:=h;obtain⟨m,rfl⟩:=lO d;have e:(numT (.int (m:Int))).cps.toList=(Nat.toDigits 10 m).map Char.toNat:=PySem.W.KIN.signs_num m;rw[e];refine⟨λc a=>?_,by rw[l8];exact zpG m f!"i",?_⟩
  .obtain⟨ch,b,rfl⟩:=lH.mp a;exact PyProof.Rows.digit_range (Nat.isDigit_of_mem_toDigits ∅ ∅ b)
  .unfold uO;rw[l7,PySem.W.KIN.val_back];intro z;have q:m= 0:=by
    have:=PySem.W.KIN.val_back m;rw[z]at this;exact this.symm
   subst q;exact absurd z ∅
 |_=>exact h.elim
def zdn{c:Nat}:∀{A:List (List Nat)},c∈jnL A->c= 59\/∃a∈A,c∈a
 |[],h=>by cases h
 |[a],h=>.inr ⟨a,lf.mpr rfl,h⟩
 |a::b::r,h=>by
  have h':c∈a++59::jnL (b::r):=h;rcases ls.mp h' with z|z
  .exact .inr ⟨a,lh,z⟩
  .rcases lu.mp z with z|z
   .exact .inl z
   .rcases zdn z with y|⟨q,hq,y⟩
    .exact .inl y
    .exact .inr ⟨q,lg _ hq,y⟩
abbrev yx(ns:List PyData):List Nat:=jnL ((ns.map numT).map (·.cps.toList))
def ZJ{ns:List PyData}(h:Ok3 ns):∀c∈yx ns,c= 59\/(48<=c/\c<=57):=λc b=>by
 rcases zdn b with z|⟨a,ha,z⟩
 .exact .inl z
 .obtain⟨t,e,rfl⟩:=lH.mp ha;obtain⟨n,d,rfl⟩:=lH.mp e;exact .inr ((j0 (h.n n d)).1 c z)
def zbu:∀{ns:List PyData},(∀m∈ns,Num3 m)->(((ns.map numT).map (·.cps.toList)).map uO)=ns
 |[],_=>rfl
 |n::ns,h=>by rw[lG,lG,lG,zbu λm a=>h m (lg _ a),(j0 (h n lh)).2.2]
def zg6{ns:List PyData}(h:Ok3 ns):xS ⟨(yx ns).toArray⟩=.tuple ns:=by
 have i:(spF (yx ns)).1++[(spF (yx ns)).2]=(ns.map numT).map (·.cps.toList):=by
  obtain⟨f,g⟩:=za5 (yx ns);refine QQ m!"" ?_ g ?_ f
  .intro e;have l:ns.length= 0:=by simpa using mH List.length e
   have:=h.o
   lia
  .intro a b;obtain⟨t,d,rfl⟩:=lH.mp b;obtain⟨n,c,rfl⟩:=lH.mp d;intro z;have:=(j0 (h.n n c)).1 59 z
   lia
 unfold xS;show qY ((spF (yx ns)).1++[(spF (yx ns)).2])=_;rw[i];unfold qY;rw[l7,zbu h.n];rintro(z|z)
 .rw[l8,l8]at z;have:=h.l
  lia
 .obtain⟨a,b,q⟩:=om.mp z;obtain⟨t,d,rfl⟩:=lH.mp b;obtain⟨n,c,rfl⟩:=lH.mp d;have:=(j0 (h.n n c)).2.1;have j:=mC q
  lia
def YA(c:Nat)(ns:List PyData):(rowT c ns).cps.toList= 126::(yx ns++[c]):=by
 unfold rowT yx;rw[zJ,zJ,jb,show s!";" =vk by decide +kernel,jX,show s!"~".cps.toList=[126]by decide +kernel];rfl
def zg7{c:Nat}{ns:List PyData}(f:isLet c)(h:Ok3 ns):rdF [] (rowT c ns).cps.toList=([],[rdD (.row c ns)]):=by
 rw[YA,show 126::(yx ns++[c])=(126::yx ns)++[c]from rfl,za9];have a:rdF [] (126::yx ns)=(126::yx ns,[]):=by have q:=zbe (t:=yx ns) (b:=[126]) m!"" (ZJ h);show((rdF [126] (yx ns)).1,[]++(rdF [126] (yx ns)).2)=_;rw[q];rfl
 rw[a];have d:rdS (126::yx ns) c=([],rwD (126::yx ns) c):=l9 ⟨m!"",f⟩;rw[d];have e:rwD (126::yx ns) c=[rdD (.row c ns)]:=by unfold rwD;rw[show(126::yx ns).drop 1 =yx ns from rfl,zg6 h];rfl
 rw[e];rfl
def zdo{r:Rea}(h:OkQ r):rdF [] (rdT r).cps.toList=([],[rdD r]):=by
 cases r with
 |sign c=>
  obtain⟨b,d⟩:=h;have e:xW c=rdD (.sign c):=by unfold xW;rw[l7 ⋯,l7 ⋯];rfl
  by_cases hc:c= 126
  .subst hc;rw[show rdT (.sign 126)=s!"~~" from rfl,show s!"~~".cps.toList=[126,126]by decide +kernel];rfl
  .rw[show rdT (.sign c)=⟨#[c]⟩from l7 hc];show rdF [] [c]=_;have a:rdS [] c=([],[xW c]):=by
    unfold rdS;rw[l7 m!"",l7 m!"",l9 (.inl hc)]
   show((rdS [] c).1,(rdS [] c).2++[])=_;rw[a,e];rfl
 |line=>rw[show(rdT .line).cps.toList=[10]by decide +kernel];rfl
 |tab=>rw[show(rdT .tab).cps.toList=[9]by decide +kernel];rfl
 |row c ns=>exact zg7 h.1 h.2
def YB{r:Rea}(h:OkQ r):(rdT r).cps.all (· < 128)=true/\(rdT r).length<=100:=by
 have a:∀z:Str,(∀c∈z.cps.toList,c<128)->z.cps.all (· < 128)=true:=λz hz=>by rw[oW];intro c f;exact lM (hz c (pp.mpr f))
 cases r with
 |sign c=>
  by_cases e:c= 126
  .rw[show rdT (.sign c)=s!"~~" from l9 e];exact⟨f!"",f!""⟩
  .rw[show rdT (.sign c)=⟨#[c]⟩from l7 e];refine⟨a _ λd hd=>?_,(by decide:1<=100)⟩;have b:d∈[c]:=hd;rw[lf.mp b];exact h.1
 |line=>exact⟨f!"",f!""⟩
 |tab=>exact⟨f!"",f!""⟩
 |row c ns=>
  have e:=YA c ns;have i:=zg5 h.2.ns;refine⟨a _ λd hd=>?_,?_⟩
  .rw[show rdT (.row c ns)=rowT c ns from rfl,e]at hd;rcases lu.mp hd with rfl|hd
   .decide
   .rcases ls.mp hd with hd|hd
    .have:=ZJ h.2 d hd;lia
    .cases lf.mp hd;exact zbt h.1
  .have g:(Txt.join s!";" (ns.map numT)).length=(yx ns).length:=by
    rw[yN,jb,show s!";" =vk by decide +kernel,jX];rfl
   rw[show rdT (.row c ns)=rowT c ns from rfl,yN,e,lQ,lx,p8]
   lia
section
variable {k:Nat}{d:PyData}{es:List PyData}
end
section
variable {k m:Nat}{d:PyData}
end
def Good.rd{r:Rea}(h:Good n S)(b:6<=n)(a:OkR r):Good (n+1) (rdS' r S):=by
 cases r with
 |sign c=>exact(h.put (zow a.1)).up
 |line=>exact h.lineE.up
 |tab=>exact h.tab.up
 |row c ns=>
  show Good (n+1) (if c= 113 then S else L2.opt lsAll c (actS c (nmA ns 0) (nmA ns 1) ns) S);split
  .exact h.up
  .exact h.opt b (zbs a.2.n)
def Old.trans{c O2:OM}(a:Old O c)(b:Old c O2):Old O O2:=λx hx=>by rw[b x (by rw[a x hx];exact hx),a x hx]
structure Sd where
 x:Addr
 dx:Addr
 p:Addr
 st:Addr
 kp:Addr
abbrev Sd.l(A:Sd):List Addr:=[A.x,A.p,A.st,A.kp]
/---/abbrev At(O:OM)(C:Addr)(A:Sd)(S:ST):Prop:=StAt O C A.x A.dx A.p A.st A.kp S
abbrev Dj(l m:List Addr):Prop:=∀a∈l,a∉m
def Dj.symm{l m:List Addr}(h:Dj l m):Dj m l:=λa b c=>h a c b
abbrev Fr(O O':OM)(l b:List Addr):Prop:=∀a o,O a=some o->a∉l->O' a=some o/\a∉b
section
variable {O1 O2:OM}{A A' B U:Sd}{S' T:ST}{l l' m l1:List Addr}{q:Addr}{o:OO}
def At.nn(h:At O C A S):∀a∈A.l,∃o,O a=some o:=λa c=>by
 have b:a∈[A.x,A.p,A.st,A.kp]:=c;simp only[lu,lF,ma]at b;rcases b with rfl|rfl|rfl|rfl
 .exact⟨_,h.x⟩
 .exact⟨_,h.p⟩
 .exact⟨_,h.st⟩
 .exact⟨_,h.kp⟩
def At.of(h:At O C A S)(k:∀a∈A.l,∀o,O a=some o->O' a=some o):At O' C A S:=
 ⟨k _ (by simp[Sd.l]) _ h.x,k _ (by simp[Sd.l]) _ h.p,k _ (by simp[Sd.l]) _ h.st,k _ (by simp[Sd.l]) _ h.kp⟩
def At.old(h:At O C A S)(k:Old O O'):At O' C A S:=h.of λa _ o e=>by rw[k a (by rw[e];simp)];exact e
def Fr.at (f:Fr O O' l l') (h:At O C U T) (d:Dj U.l l):At O' C U T/\Dj U.l l':=⟨h.of fun a b o e=>(f a o e (d a b)).1,fun a b=>by
 obtain⟨o,e⟩:=h.nn a b;exact(f a o e (d a b)).2⟩
def Nxt.fr{x st g f d:Addr}(N:Nxt O O' C x dx p st g f d S'):Fr O O' (Sd.l ⟨x,dx,p,st,g⟩) (Sd.l ⟨x,dx,p,f,d⟩):=λa o e i=>by
 have c:a∉[x,p,st,g]:=i;refine⟨N.b.old e c,λz=>?_⟩;have h:a∈[x,p,f,d]:=z;simp only[lu,lF,ma,np]at c h;rcases h with z|z|z|z
 .exact c.1 z
 .exact c.2.1 z
 .rcases N.e1 with y|y
  .exact c.2.2.1 (z.trans y)
  .rw[<-z,e]at y;cases y
 .rcases N.e2 with y|y
  .exact c.2.2.2 (z.trans y)
  .rw[<-z,e]at y;cases y
def At.upd(h:At O C A S)(c:q∉A.l):At (updO O q o) C A S:=h.of λa b u e=>by
 rw[ze (λz=>c (by rw[<-z];exact b))];exact e
def ziS{x st g:Addr}{u:OO}(hx:O x=none)(j:updO O x u p=none)(k:updO O x u st=none)(i:updO O x u g=none)(h:∀b,b≠x->b≠p->b≠st->b≠g->O' b=updO O x u b) :
  Old O O'/\∀a∈Sd.l ⟨x,dx,p,st,g⟩,O a=none:=by
 have c:∀b,updO O x u b=none->O b=none:=λb d=>by
  by_cases e:b=x
  .rw[e];exact hx
  .rw[ze e]at d;exact d
 refine⟨λb d=>?_,λa n=>?_⟩
 .have m:b≠x:=λe=>d (by rw[e];exact hx);rw[h b m (λe=>d (by rw[e];exact c _ j)) (λe=>d (by rw[e];exact c _ k)) (λe=>d (by rw[e];exact c _ i)),ze m]
 .have f:a∈[x,p,st,g]:=n;simp only[lu,lF,ma]at f;rcases f with rfl|rfl|rfl|rfl
  .exact hx
  .exact c _ j
  .exact c _ k
  .exact c _ i
end
section
variable {cS cL cT cR d:Addr}{A:Sd}{r:Rea}
end
section
variable {sl:Addr}{A B U V A' B' U' V':Sd}{T S' T':ST}
end
structure StOk (S:ST):Prop where
 n:S.stops.Nodup
 r:∀s∈S.stops,0<=s/\s<S.w
def zbv:∀(w:Nat) (l:List Int),l.Nodup->(∀x∈l,0<=x/\x<(w:Int))->l.length<=w
 |0,l,_,h=>by
  cases l with
  |nil=>exact ll _
  |cons a l=>have:=h a lh;omega
 |w+1,l,hn,h=>by
  by_cases hm:(w:Int)∈l
  .have b:=zbv w (l.erase (w:Int)) (hn.erase _) λx hx=>by
    rw[hn.mem_erase_iff]at hx;have:=h x hx.2;have:=hx.1;omega
   rw[List.length_erase_of_mem hm]at b;omega
  .have b:=zbv w l hn λx hx=>by
    have:=h x hx;have:x≠w:=λe=>hm (by rw[<-e];exact hx);omega
   omega
section
variable {S':ST}{c:Nat}{a b:PyData}{ns:List PyData}{r:Rea}
def StOk.len(h:StOk S):S.stops.length<=S.w:=zbv _ _ h.n h.r
def Good.in24(h:Good n S)(c:StOk S):Good 24 S:=⟨h.b,h.k,h.a,h.l,m7 c.len h.b.w2⟩
def StOk.to(h:StOk S)(a:S'.stops=S.stops)(b:S'.w=S.w):StOk S':=⟨by rw[a];exact h.n,by rw[a,b];exact h.r⟩
def StOk.sm(h:StOk S)(e:Smo S S'):StOk S':=h.to e.s e.w
def StOk.sn(h:StOk S)(e:Sno S S'):StOk S':=h.to e.s e.w
def StOk.put(h:StOk S):StOk (putS0 z S):=h.sn Yz
def StOk.it(h:StOk S):∀m,StOk (itS z m S)
 |0=>h
 |m+1=>(h.it m).put
def YC:∀w,w<=24->(stopsI w).Nodup/\∀s∈stopsI w,0<=s/\s<(w:Int):=f!""
def zD{q:Prop}[Decidable q]{A B:ST}(a:StOk A)(b:StOk B):StOk (if q then A else B):=by
 split
 .exact a
 .exact b
def StOk.act(h:StOk S)(d:Bds S):StOk (actS c a b ns S):=by
 unfold actS;refine zD ?_ ?_
 .exact h.to rfl rfl
 refine zD ?_ ?_
 .have i:=d.c0;have j:=d.c1;show StOk { S with stops:=if S.col∈S.stops then S.stops else S.stops++[S.col] };split
  .exact h.to rfl rfl
  .rename_i k;refine⟨?_,λs f=>?_⟩
   .show(S.stops++[S.col]).Nodup;rw[nu];refine⟨h.n,m!"",λx hx y l e=>?_⟩;cases lf.mp l;exact k (by rw[<-e];exact hx)
   .have g:s∈S.stops++[S.col]:=f;rcases ls.mp g with z|z
    .exact h.r s z
    .cases lf.mp z;exact⟨i,j⟩
 refine zD ?_ ?_
 .exact⟨h.n.filter _,λs f=>h.r s (ou.mp f).1⟩
 refine zD ?_ ?_
 .exact⟨pP,λs f=>by cases f⟩
 refine zD ?_ ?_
 .exact h.to rfl rfl
 refine zD ?_ ?_
 .unfold backS;split;exact h.to rfl rfl;exact h
 refine zD ?_ ?_
 .have q:=YC S.w d.w2;exact⟨q.1,q.2⟩
 refine zD ?_ ?_
 .exact h.sm UK
 refine zD ?_ ?_
 .exact h.to rfl rfl
 refine zD ?_ ?_
 .exact h.to rfl rfl
 refine zD ?_ ?_
 .unfold agS;split
  .exact h.it _
  .exact h
 refine zD ?_ ?_
 .exact h.to rfl rfl
 refine zD ?_ ?_
 .exact h.to rfl rfl
 refine zD ?_ ?_
 .rw[ze6];exact h.to rfl rfl
 refine zD ?_ ?_
 .rw[ze7];exact h.to rfl rfl
 refine zD ?_ ?_
 .exact h.to rfl rfl
 refine zD ?_ ?_
 .exact h.to rfl rfl
 refine zD ?_ ?_
 .exact h.to rfl rfl
 refine zD ?_ ?_
 .exact h.to rfl rfl
 refine zD ?_ ?_
 .exact h.sm jZ
 refine zD ?_ ?_
 .exact h.sm Zc
 refine zD ?_ ?_
 .exact h.sm Zd
 refine zD ?_ ?_
 .exact h.to rfl rfl
 refine zD ?_ ?_
 .exact h.sm (xv (ns:=ns) (on:=true) d).1
 refine zD ?_ ?_
 .exact h.sm (xv (ns:=ns) (on:=false) d).1
 exact h
end
abbrev PicL(Q:Str->Prop)(S:ST):Prop:=∀i j,i<S.h->j<S.w->Q (S.pic i j).1
abbrev LsL(Q:Str->Prop)(S:ST):Prop:=S.last=.none\/∃c:Str,S.last=.str c/\Q c
structure OneQ (Q:Str->Prop) (S:ST):Prop where
 p:PicL Q S
 l:LsL Q S
 q:Q s!" "
/---/abbrev One(S:ST):Prop:=OneQ (λz=>z.length= 1) S
section
variable {Q:Str->Prop}{S':ST}{c:Nat}{a b:PyData}{ns:List PyData}
def zg8:s!" ".length= 1:=f!""
def PicL.set{j:Nat}{k:Int}(h:PicL Q S)(a:Q z):PicL Q { S with pic:=setF S.pic i j (z,k) }:=by
 intro x y hx b;show Q (setF S.pic i j (z,k) x y).1;unfold setF;split
 .exact a
 .exact h x y hx b
def PicL.mv{t b l r c a:Int}(d:Q s!" ")(h:PicL Q S)(f:0<=t)(g:b<S.h)(i:0<=l)(j:r<S.w):PicL Q (mvS t b l r c a S):=by
 intro x y hx e;show Q (mvP S.pic S.ink t b l r c a x y).1;unfold mvP;split
 .split
  .exact h _ _ (by simp only[mvS]at *;lia) (by simp only[mvS]at *;lia)
  .exact d
 .exact h x y hx e
def PicL.wip{a b:Int}(e:Q s!" ")(h:PicL Q S):PicL Q { S with pic:=wipP S.pic S.ink S.w a b }:=by
 intro i j c d;show Q (wipP S.pic S.ink S.w a b i j).1;unfold wipP;split
 .exact e
 .exact h i j c d
def OneQ.to(h:OneQ Q S)(a:S'.pic=S.pic)(b:S'.w=S.w)(c:S'.h=S.h)(d:S'.last=S.last):OneQ Q S':=
 ⟨λi j e f=>by rw[a];exact h.p i j (by rw[<-c];exact e) (by rw[<-b];exact f),by unfold LsL;rw[d];exact h.l,h.q⟩
def OneQ.sm(h:OneQ Q S)(e:Smo S S'):OneQ Q S':=h.to e.p e.w e.h e.l
def OneQ.eff{l:Lt}{m:PyData}(h:OneQ Q S)(a:Bds S):OneQ Q (effS l m S):=by
 have e:=jW a;refine⟨?_,h.l,h.q⟩;show PicL Q { S with pic:=effP l m S };cases l<;>simp only[effP]
 .exact PicL.mv h.q h.p a.t0 a.b1 a.l0 a.rr
 .exact PicL.mv h.q h.p a.t0 a.b1 a.l0 a.rr
 .split
  .exact PicL.mv h.q h.p a.r0 a.b1 a.l0 a.rr
  .exact h.p
 .split
  .exact PicL.mv h.q h.p a.r0 a.b1 a.l0 a.rr
  .exact h.p
 .exact PicL.mv h.q h.p a.r0 a.r1 a.c0 e.2
 .exact PicL.mv h.q h.p a.r0 a.r1 a.c0 e.2
 .exact PicL.wip h.q h.p
 .exact PicL.wip h.q h.p
def OneQ.lineE(h:OneQ Q S)(c:Bds S):OneQ Q (lineE S):=by
 have b:OneQ Q (leftS S):=h.to rfl rfl rfl rfl;have a:=c.left;unfold L2.lineE;dsimp only;split
 .exact⟨PicL.mv b.q b.p a.t0 a.b1 a.l0 a.rr,b.l,b.q⟩
 .split
  .exact b.to rfl rfl rfl rfl
  .exact b.to rfl rfl rfl rfl
def OneQ.put(h:OneQ Q S)(e:Bds S)(hz:Q z):OneQ Q (putS0 z S):=by
 rw[vJ];have f:OneQ Q (pA S):=by
  unfold pA;split
  .exact h.lineE e
  .exact h
 have b:OneQ Q (pB (pA S)):=f.to rfl rfl rfl rfl;have a:=e.pA.pB;generalize pB (pA S)=S2 at *;have c:OneQ Q (pC S2):=by
  unfold pC;split
  .exact⟨PicL.mv b.q b.p a.r0 a.r1 a.c0 (jW a).2,b.l,b.q⟩
  .exact b
 generalize pC S2=S3 at *;have d:OneQ Q (pE z (pD z S3)):=⟨PicL.set c.p hz,.inr ⟨z,rfl,hz⟩,c.q⟩;generalize pE z (pD z S3)=S4 at *;unfold pF;split
 .exact d.to rfl rfl rfl rfl
 .exact d.to rfl rfl rfl rfl
def OneQ.it(h:OneQ Q S)(a:Bds S)(hz:Q z):∀m,OneQ Q (itS z m S)
 |0=>h
 |m+1=>(h.it a hz m).put (zg0 a m) hz
def zG{q:Prop}[Decidable q]{A B:ST}(a:OneQ Q A)(b:OneQ Q B):OneQ Q (if q then A else B):=by
 split
 .exact a
 .exact b
def OneQ.act(h:OneQ Q S)(d:Bds S):OneQ Q (actS c a b ns S):=by
 unfold actS;refine zG (h.to rfl rfl rfl rfl) ?_;refine zG (h.to rfl rfl rfl rfl) ?_;refine zG (h.to rfl rfl rfl rfl) ?_;refine zG (h.to rfl rfl rfl rfl) ?_;refine zG (h.to rfl rfl rfl rfl) ?_;refine zG ?_ ?_
 .unfold backS;split;exact h.to rfl rfl rfl rfl;exact h
 refine zG ?_ ?_
 .exact⟨PicL.wip (S:=st0 S.w S.h S.pic) h.q h.p,.inl rfl,h.q⟩
 refine zG (h.sm UK) ?_;refine zG (h.to rfl rfl rfl rfl) ?_;refine zG (h.to rfl rfl rfl rfl) ?_;refine zG ?_ ?_
 .unfold agS;split
  .rename_i z hz;rcases h.l with e|⟨z',e,hz'⟩
   .rw[e]at hz;cases hz
   .rw[e]at hz;cases hz;exact h.it d hz' _
  .exact h
 refine zG (h.eff (l:=.R) (m:=a) d) ?_;refine zG (h.eff (l:=.D) (m:=a) d) ?_;refine zG (by rw[ze6];exact h.eff d) ?_;refine zG (by rw[ze7];exact h.eff d) ?_;refine zG (h.eff (l:=.s) (m:=a) d) ?_;refine zG (h.eff (l:=.x) (m:=a) d) ?_;refine zG (h.eff (l:=.e) (m:=a) d) ?_;refine zG (h.eff (l:=.w) (m:=a) d) ?_;refine zG (h.sm jZ) ?_;refine zG (h.sm Zc) ?_;refine zG (h.sm Zd) ?_;refine zG (h.to rfl rfl rfl rfl) ?_;refine zG (h.sm (xv (ns:=ns) (on:=true) d).1) ?_;refine zG (h.sm (xv (ns:=ns) (on:=false) d).1) h
end
section
variable {S':ST}{c:Nat}{a b:PyData}{ns:List PyData}{r:Rea}
structure Fit (S:ST):Prop where
 g:Good 24 S
 s:StOk S
 o:One S
def Fit.rd(h:Fit S)(a:OkR r):Fit (rdS' r S):=by
 have g:=h.g.rd ∅ a;have s:StOk (rdS' r S):=by
  cases r with
  |sign c=>exact h.s.put
  |line=>exact h.s.sn jp
  |tab=>exact h.s.to rfl rfl
  |row c ns=>show StOk (if c= 113 then S else L2.opt lsAll c (actS c (nmA ns 0) (nmA ns 1) ns) S);refine zD h.s ?_;unfold L2.opt;exact zD (h.s.act h.g.b) h.s
 have o:One (rdS' r S):=by
  cases r with
  |sign c=>exact h.o.put h.g.b rfl
  |line=>exact h.o.lineE h.g.b
  |tab=>exact h.o.to rfl rfl rfl rfl
  |row c ns=>show One (if c= 113 then S else L2.opt lsAll c (actS c (nmA ns 0) (nmA ns 1) ns) S);refine zG h.o ?_;unfold L2.opt;exact zG (h.o.act h.g.b) h.o
 exact⟨g.in24 s,s,o⟩
def zpH{a b:Nat}(m:1<=a)(c:a<=24)(h:1<=b)(l:b<=12):Fit (st0 a b λ_ _=>blank 0):=by
 have e:Bds (st0 a b λ_ _=>blank 0):=by constructor<;>simp only[st0]<;>first|decide|lia
 have d:StOk (st0 a b λ_ _=>blank 0):=⟨(YC a c).1,(YC a c).2⟩;have f:Good 6 (st0 a b λ_ _=>blank 0):=⟨e,⟨lY _,λk g=>by cases g⟩,⟨λi j _ _=>(by decide +kernel:PyData.strOk (blank 0).1 =true),rfl,rfl⟩,.inl rfl,UL c⟩;exact⟨f.in24 d,d,λi j _ _=>zg8,.inl rfl,zg8⟩
end
abbrev Ze(c:Nat):Rea:=if c= 10 then .line else if c= 9 then .tab else .sign c
abbrev zbw(b:List Nat)(c:Nat):List Rea:=match xS ⟨(b.drop 1).toArray⟩with
 |.tuple ns=>[.row c ns]
 |_=>[]
abbrev rsS(b:List Nat)(c:Nat):List Rea:=
 if b≠[]/\isLet c then zbw b c
 else if b≠[]/\(vc c\/c= 59)then[]
 else if c≠126\/b.length= 1 then[Ze c]else[]
abbrev rsF:List Nat->List Nat->List Rea
 |_,[]=>[]
 |b,c::cs=>rsS b c++rsF (rdS b c).1 cs
def ziT(c:Nat):xW c=rdD (Ze c):=by
 unfold xW Ze;split
 .rfl
 .split<;>rfl
def znm{b:List Nat}{c:Nat}:(rdS b c).2 =(rsS b c).map rdD:=by
 unfold rdS rsS;split
 .show rwD b c=(zbw b c).map rdD;unfold rwD zbw;rcases za6 ⟨(b.drop 1).toArray⟩with e|⟨ds,e,_,_⟩
  .rw[e];rfl
  .rw[e];rfl
 .split
  .rfl
  .split
   .show[xW c]=[rdD (Ze c)];rw[ziT]
   .rfl
def UN:∀{cs b:List Nat},(rdF b cs).2 =(rsF b cs).map rdD
 |[],_=>rfl
 |c::cs,b=>by show(rdS b c).2++(rdF (rdS b c).1 cs).2 =(rsS b c++rsF (rdS b c).1 cs).map rdD;rw[lS,znm,UN]
def Q0:∀(cs b ds:List Nat),rsF b (cs++ds)=rsF b cs++rsF (rdF b cs).1 ds
 |[],b,ds=>rfl
 |c::cs,b,ds=>by show rsS b c++rsF (rdS b c).1 (cs++ds)=(rsS b c++rsF (rdS b c).1 cs)++rsF (rdF (rdS b c).1 cs).1 ds;rw[Q0 cs,mS]
abbrev okF(c:Nat):Prop:=c= 9\/c= 10\/(32<=c/\c<128)
def zg9{c:Nat}:∀{A:List (List Nat)}{w:List Nat},w∈A->c∈w->c∈jnL A
 |[],_,h,_=>by cases h
 |[a],w,h,hc=>by cases lf.mp h;exact hc
 |a::b::r,w,h,hc=>by
  show c∈a++59::jnL (b::r);rcases lu.mp h with rfl|h
  .exact n9 _ hc
  .exact lW _ (lg _ (zg9 h hc))
def znn:∀{w:List Nat},w.length<=3->(∀c∈w,c<=57)->NumText.digitsVal w<=1000
 |[],_,_=>lY _
 |[a],_,h=>by have:=h a m!"";show 0*10+(a-48)<=1000;omega
 |[a,b],_,h=>by have:=h a m!"";have:=h b m!"";show(0*10+(a-48))*10+(b-48)<=1000;omega
 |[a,b,c],_,h=>by have:=h a m!"";have:=h b m!"";have:=h c m!"";show((0*10+(a-48))*10+(b-48))*10+(c-48)<=1000;omega
 |a::b::c::d::r,h,_=>by simp at h
def ziU{ns:List PyData}(h:xS z=.tuple ns)(hz:∀c∈z.cps.toList,c= 59\/(48<=c/\c<=57)):OkNs ns:=by
 unfold xS qY at h;split at h
 .cases h
 .rename_i i;injection h with h;rw[np]at i;obtain⟨o,f⟩:=i;obtain⟨k,n⟩:=za5 z.cps.toList;subst h;refine⟨λm l=>?_,by rw[l8];lia,by rw[l8,lx];show 1<=_+1;lia⟩;obtain⟨w,d,rfl⟩:=lH.mp l;unfold uO;split
  .trivial
  .have b:w.length<=3:=by
    rw[Bool.not_eq_true,List.any_eq_false]at f;have:=f w d;simp only[nr]at this
    lia
   have j:∀c∈w,c<=57:=λc g=>by
    have a:59∉w:=n w d;have:c∈z.cps.toList:=by rw[<-k];exact zg9 d g
    rcases hz c this with e|e
    .exact absurd (e▸g) a
    .exact e.2
   exact⟨nX _,by have:=znn b j;lia⟩
def zno{b:List Nat}{c:Nat}(d:okG b)(f:okF c):∀r∈rsS b c,OkR r:=λr a=>by
 unfold rsS at a;split at a
 .rename_i g;unfold zbw at a;split at a
  .rename_i ns e;cases lf.mp a;exact⟨zbt g.2,ziU e d⟩
  .cases a
 .split at a
  .cases a
  .split at a
   .cases lf.mp a;unfold Ze;unfold okF at f;split
    .trivial
    .split
     .trivial
     .rename_i h i;exact⟨⋯,⋯⟩
   .cases a
def UO:∀{cs b:List Nat},okG b->(∀c∈cs,okF c)->∀r∈rsF b cs,OkR r
 |[],_,_,_,r,hr=>by cases hr
 |c::cs,b,hb,h,r,hr=>by
  rcases ls.mp (show r∈rsS b c++rsF (rdS b c).1 cs from hr)with z|z
  .exact zno hb (h c lh) r z
  .exact UO (zba hb c).1 (λd a=>h d (lg _ a)) r z
def zlk{cs b:List Nat}(a:okG b):(rsF b cs).length<=cs.length:=by
 have:=(Uy cs a).2.2;rw[UN,l8]at this;exact this
abbrev runS(rs:List Rea)(S:ST):ST:=rs.foldl (λS r=>rdS' r S) S
abbrev runA:List Rea->ST->List Str
 |[],_=>[]
 |r::rs,S=>rdA r S++runA rs (rdS' r S)
def vL(rs a:List Rea)(S:ST):runS (rs++a) S=runS a (runS rs S):=mT
def zbx:∀(rs a:List Rea) (S:ST),runA (rs++a) S=runA rs S++runA a (runS rs S)
 |[],_,_=>rfl
 |r::rs,a,S=>by show rdA r S++runA (rs++a) (rdS' r S)=(rdA r S++runA rs (rdS' r S))++runA a (runS rs (rdS' r S));rw[zbx rs a,mS]
def ziV(rs:List Rea)(r:Rea)(S:ST):runS (rs++[r]) S=rdS' r (runS rs S):=vL rs [r] S
def ziW(rs:List Rea)(r:Rea)(S:ST):runA (rs++[r]) S=runA rs S++rdA r (runS rs S):=by
 rw[zbx];show _++(rdA r (runS rs S)++[])=_;rw[mm]
def Fit.run:∀{rs:List Rea}{S:ST},Fit S->(∀r∈rs,OkR r)->Fit (runS rs S)
 |[],_,h,_=>h
 |r::rs,S,h,hr=>Fit.run (rs:=rs) (h.rd (hr r lh)) λx hx=>hr x (lg _ hx)
def OneQ.rd{Q:Str->Prop}{r:Rea}(h:OneQ Q S)(a:Bds S)(b:∀c,r=.sign c->Q ⟨#[c]⟩):OneQ Q (rdS' r S):=by
 cases r with
 |sign c=>exact h.put a (b c rfl)
 |line=>exact h.lineE a
 |tab=>exact h.to rfl rfl rfl rfl
 |row c ns=>show OneQ Q (if c= 113 then S else L2.opt lsAll c (actS c (nmA ns 0) (nmA ns 1) ns) S);refine zG h ?_;unfold L2.opt;exact zG (h.act a) h
def OneQ.run{Q:Str->Prop}:∀{rs:List Rea}{S:ST},OneQ Q S->Fit S->(∀r∈rs,OkR r)->(∀r∈rs,∀c,r=.sign c->Q ⟨#[c]⟩)->OneQ Q (runS rs S)
 |[],_,h,_,_,_=>h
 |r::rs,S,h,hF,hr,hs=>OneQ.run (rs:=rs) (S:=rdS' r S) (h.rd hF.g.b (hs r lh)) (hF.rd (hr r lh)) (λx hx=>hr x (lg _ hx)) λx hx=>hs x (lg _ hx)
def zby:∀{cs b:List Nat}{c:Nat},Rea.sign c∈rsF b cs->c∈cs
 |[],_,_,h=>(nomatch h)
 |k::cs,b,c,h=>by
  rcases ls.1 (show Rea.sign c∈rsS b k++rsF (rdS b k).1 cs from h)with h|h
  .unfold rsS at h;split at h
   .unfold zbw at h;split at h
    .cases lf.1 h
    .cases h
   .split at h
    .cases h
    .split at h
     .have e:=lf.1 h;unfold Ze at e;split at e
      .cases e
      .split at e
       .cases e
       .injection e with e;rw[e];exact lh
     .cases h
  .exact lg _ (zby h)
structure Scr (K:W.Frag) (C:Addr):Prop where
 cl:Cls K C
 n_state:NoAttr K C "state"
 n_reader:NoAttr K C "reader"
structure TxtS (K:W.Frag) (mg:Str->Option Value) (C:Addr):Prop where
 mgC:mg "Screen" =some (.ref C)
 st:Scr K C
structure Sn where
 x:Addr
 dx:Addr
 A:Sd
 rx:Addr
 rdx:Addr
 rp:Addr
abbrev Sn.l(N:Sn):List Addr:=N.x::(N.A.l++[N.rx,N.rp])
abbrev scF(a r:Addr):List (Str×W):=[("state",.own a),("reader",.own r)]
structure ScAt (O:OM) (cN C cQ:Addr) (N:Sn) (S:ST) (b:List Nat):Prop where
 x:O N.x=some (.ins cN N.dx (scF N.A.x N.rx))
 a:At O C N.A S
 r:RdAt cQ O N.rx N.rdx N.rp b
 k:N.rp≠N.A.kp
section
variable {O1:OM}{cN cQ:Addr}{N M:Sn}{T:ST}{b b':List Nat}{l l':List Addr}
def uQ{r:Addr}:(scF a r).lookup s!"state"=some (.own a):=rfl
def JQ{r:Addr}:(scF a r).lookup s!"reader"=some (.own r):=rfl
def ScAt.nn(h:ScAt O cN C cQ N S b):∀a∈N.l,∃o,O a=some o:=λa ha=>by
 rcases lu.mp (show a∈N.x::(N.A.l++[N.rx,N.rp])from ha)with rfl|ha
 .exact⟨_,h.x⟩
 .rcases ls.mp ha with ha|ha
  .exact h.a.nn a ha
  .simp only[lu,lF,ma]at ha;rcases ha with rfl|rfl
   .exact⟨_,h.r.x⟩
   .exact⟨_,h.r.p⟩
def ScAt.of(h:ScAt O cN C cQ N S b)(k:∀a∈N.l,∀o,O a=some o->O' a=some o):ScAt O' cN C cQ N S b:=
 ⟨k _ (by simp[Sn.l]) _ h.x,h.a.of λa c o e=>k a (by simp[Sn.l,c]) o e,⟨k _ (by simp[Sn.l]) _ h.r.x,k _ (by simp[Sn.l]) _ h.r.p⟩,h.k⟩
def ScAt.old(h:ScAt O cN C cQ N S b)(k:Old O O'):ScAt O' cN C cQ N S b:=h.of λa _ o e=>by rw[k a (by rw[e];simp)];exact e
def zox{x c:Addr}(h:Ho O O' x p)(d:c=p\/O c=none):Fr O O' [x,p] [x,c]:=λa o e b=>by
 simp only[lu,lF,ma,np]at b ⊢;refine⟨by rw[h a (by rw[e];simp) b.1 b.2];exact e,b.1,λz=>?_⟩;rcases d with y|y
 .exact b.2 (z.trans y)
 .rw[<-z,e]at y;cases y
def ScAt.dj(h:ScAt O cN C cQ N S b):N.x∉N.A.l/\Dj [N.rx,N.rp] N.A.l/\N.x∉[N.rx,N.rp]:=by
 refine⟨?_,λa c=>?_,?_⟩
 .show N.x∉[N.A.x,N.A.p,N.A.st,N.A.kp];simp only[lu,lF,ma,np];exact⟨ze8 h.x h.a (by show 2≠17;decide),neW h.x h.a.p (by intro h;cases h),neW h.x h.a.st (by intro h;cases h),neW h.x h.a.kp (by intro h;cases h)⟩
 .show a∉[N.A.x,N.A.p,N.A.st,N.A.kp];simp only[lu,lF,ma,np]at c ⊢;rcases c with rfl|rfl
  .exact⟨ze8 h.r.x h.a (by show 1≠17;decide),neW h.r.x h.a.p (by intro h;cases h),neW h.r.x h.a.st (by intro h;cases h),neW h.r.x h.a.kp (by intro h;cases h)⟩
  .exact⟨neW h.r.p h.a.x (by intro h;cases h),neW h.r.p h.a.p (by intro h;cases h),neW h.r.p h.a.st (by intro h;cases h),h.k⟩
 .simp only[lu,lF,ma,np];refine⟨neW h.x h.r.x ?_,neW h.x h.r.p (by intro h;cases h)⟩;intro e;injection e with _ _ e;exact absurd (mH List.length e) (by show ¬2=1;decide)
end
section
variable {ρ:WS}{cN cQ:Addr}{M:Sn}{b:List Nat}{fn:Str}{v:W}
def ziX{R:WK}(g:ρ[i]? =some (some (.own M.x)))(c:ScAt O cN C cQ M S b)(N:Scr K cN)(d:Cls K C)(f:NoAttr K C fn)(e:(fldW M.A.p M.A.st M.A.kp S).lookup fn=some v)(h:R v O):yS K (yS K (zO i) "state") fn ρ O R:=by
 show yS K (zO i) "state" ρ O _;exact qZ g c.x N.cl N.n_state uQ ⟨C,M.A.dx,_,c.a.x,d,f,v,e,h⟩
def vd{T:TAW}{R:List W->OM->Prop}(g:ρ[i]? =some (some (.own M.x)))(c:ScAt O cN C cQ M S b)(N:Scr K cN)(d:Cls K C)(f:NoAttr K C fn)(e:(fldW M.A.p M.A.st M.A.kp S).lookup fn=some v)(h:T ρ O λws a=>R (v::ws) a):vA (yS K (yS K (zO i) "state") fn) T ρ O R:=ziX g c N d f e h
end
def zbz:∀{rs:List Rea}{S:ST},(∀r∈rs,∀S,(rdA r S).length<=6)->(runA rs S).length<=6*rs.length
 |[],_,_=>lY _
 |r::rs,S,h=>by
  have a:=h r lh S;have b:=zbz (rs:=rs) (S:=rdS' r S) λx hx=>h x (lg _ hx);show(rdA r S++runA rs (rdS' r S)).length<=_;rw[lx,lQ]
  lia
inductive sInitN (c C e:Addr) (ws:List W) (O:OM) (R:WK):Prop
 |mk:∀x dx,∀w h:Nat,ws=[.own x,.d (.int w),.d (.int h)]->O x=some (.ins c dx [])->1<=w->w<=24->1<=h->h<=12->(∀N O',N.x=x->(∀a∈N.l,a=x\/O a=none)->ScAt O' c C e N (st0 w h λ_ _=>blank 0) []->(∀b,b≠x->O b≠none->O' b=O b)->R (.d .none) O')->sInitN c C e ws O R
inductive sTellN (a C c:Addr) (f:ST->List Nat->PyData) (ws:List W) (O:OM) (R:WK):Prop
 |mk:∀N S b,ws=[.own N.x]->ScAt O a C c N S b->Fit S->b.length<=90000->R (.d (f S b)) O->sTellN a C c f ws O R
abbrev tPic(S:ST)(_:List Nat):PyData:=.list ((genG S.h S.w S.pic).map .list)
abbrev tCur(S:ST)(_:List Nat):PyData:=.tuple [.int S.row,.int S.col]
abbrev tLate(S:ST)(_:List Nat):PyData:=.bool S.late
abbrev tInk(S:ST)(_:List Nat):PyData:=.int S.ink
abbrev tMod(S:ST)(_:List Nat):PyData:=.tuple [.bool S.wrap,.bool S.putting,.bool S.home]
abbrev tWin(S:ST)(_:List Nat):PyData:=.tuple [.int S.top,.int S.bottom,.int S.left,.int S.right]
abbrev tStp(S:ST)(_:List Nat):PyData:=.list ((srt S.stops).map .int)
abbrev tKep(S:ST)(_:List Nat):PyData:=.int S.kept.length
abbrev tOpn(_:ST)(b:List Nat):PyData:=.str ⟨b.toArray⟩
section
variable {a:Expr}{ta:TE}{y:Str}{k:Int}{j j1 j2:Nat}{p2 p3 q1 q2 apos cpos:Pos}
abbrev zj8(K:W.Frag)(ta:TE)(k:Int)(y z:Str):TE:=λσ H Q=>ta σ H λx a=>∃p b t,x=.ref p/\SqT K a p b/\atI b k=some (.str t)/\t.length<=100000/\Q (.str (Txt.replace t y z)) a
def Q2(E:X.K=K)(G:PE X a ta)(f:(y==z)=false)(hz:z.length<=100)
  (M:Qi (.Constant (.int k) j p2):=by exact λ_ _=>rfl)
  (b:attributeBase (.Subscript a (.Constant (.int k) j p2) p3) "replace" X.env (eval (.Subscript a (.Constant (.int k) j p2) p3) X.env)=eval (.Subscript a (.Constant (.int k) j p2) p3) X.env:=by rfl)
  (c:(apos.endLine==cpos.line)=true:=by rfl) :
  PE X (.Call (.Attribute (.Subscript a (.Constant (.int k) j p2) p3) "replace" apos) [.Constant (.str y) j1 q1,.Constant (.str z) j2 q2] [] cpos) (zj8 K ta k y z):=by
 subst E;intro π s σ H Q I h;refine oR b (by rfl) c rfl ?_;refine Subscript_ (thn (G π s σ H _ I h) λv m ⟨x,i,l,P,p,W,t,B,L,J,U,q⟩=>?_);subst B;cases P;refine wpAny_Constant_int ?_;have u:Inv X π σ i { m with toks:=m.toks+1 }:=l.tok _;obtain⟨O,r,pl,N⟩:=u.tuple L;obtain⟨j,C,D,R,S,T⟩:=Xd J;obtain⟨w,A,g⟩:=r.get D;obtain⟨o,rfl⟩:=g;have d:=r.length;have V:=qi;refine oQ (x:=.str t o) pl.typeIs slot_tuple_getitem.lookup (getItem_tuple (j:=j) pl ⋯ ⋯ (by rw[lC,<-d];exact C) (by simpa using A) ⟨rfl,?_⟩) (M _ _);refine⟨"str","str.replace",F.plainAttrs_str,F.slot_str_replace,F.type_str_replace,?_,?_,?_⟩
 .exact oE _ t o
 .exact λ_ e=>nomatch e
 refine o0 rfl (pw (pT (pS (k:=j1) (pos:=q1) (pT (pS (k:=j2) (pos:=q2) (Calls.spliced_nil ?_))))));refine SC.replace (by show @Ne Nat _ _;simp) (by show @Ne Nat _ _;simp) (by show @Ne Nat _ _;simp) f ?_ λt' n=>?_
 .have:(t.length+1)*z.length<=100001*100:=Nat.mul_le_mul ⋯ hz
  lia
 .exact⟨.str _,i,l.tok n,⟨t',rfl⟩,q⟩
abbrev ze9(b:TEW)(k:Int)(y z:Str):TEW:=λρ O R=>b ρ O λx a=>∃ds t,zU x=some ds/\atI ds k=some (.str t)/\t.length<=100000/\R (.d (.str (Txt.replace t y z))) a
def zbA{f:TEW}(h:RefE K ta f):RefE K (zj8 K ta k y z) (ze9 f k y z):=by
 intro Γ O H ρ σ S r Q R n q;refine h _ _ _ _ _ S r _ _ n λA C B w v s c u i=>?_;obtain⟨ds,t,e,a,o,m⟩:=i;obtain⟨p,vs,rfl,q1,q2⟩:=x9 c u e;have b:atI (ds.map W.d) k=some (.d (.str t)):=by
  unfold atI at a ⊢;rw[l8];cases hj:ixN ds.length k with
  |none=>rw[hj]at a;cases a
  |some j=>rw[hj]at a;replace a:ds[j]? =some (.str t):=a;show(ds.map W.d)[j]? =some (.d (.str t));rw[lw,a];rfl
 obtain⟨x,g,l⟩:=Zv q2 b;rw[show x=V.str t from l]at g;exact⟨p,vs,t,rfl,q1,g,o,q _ _ _ _ _ s c vR m⟩
end
open Builtin Builtin.Str in
def Ka:Txt.replace x ⟨#[126]⟩ z=Str.join z (Txt.split x ⟨#[126]⟩):=by
 have e:strKind (⟨#[126]⟩:Str)= 1:=by unfold Builtin.Str.strKind;rw[l9 f!""]
 have f:1<=strKind x:=by
  unfold Builtin.Str.strKind;split
  .decide
  .split<;>decide
 unfold Txt.replace Txt.split;have b:((⟨#[126]⟩:Str).length==0&&z.length==0)=false:=rfl;rw[b,Bool.or_false,e];cases h:(occurrences x ⟨#[126]⟩ 0 x.length (x.length+1)).isEmpty
 .have hx:¬x.length<1:=λhx=>by
   have a:x.cps.toList=[]:=mG.1 (by show x.length= 0;lia);have c:x=⟨#[]⟩:=uP a;subst c;have:(occurrences ⟨#[]⟩ ⟨#[126]⟩ 0 (⟨#[]⟩:Str).length ((⟨#[]⟩:Str).length+1)).isEmpty=true:=f!""
   rw[this]at h;cases h
  have d:(decide (x.length<(⟨#[126]⟩:Str).length)||decide (strKind x<1))=false:=by rw[show(⟨#[126]⟩:Str).length= 1 from rfl,lR hx,lR ⋯];rfl
  rw[l7 m!"",l7 (by rw[d];simp),l7 m!""];exact StrLaws.glued_eq_join _ _
 .rw[l9 rfl];split<;>rfl
abbrev uq(cs:List Nat):List Nat:=cs.flatMap λc=>if c= 126 then[126,126]else[c]
def zbB(a b:List Nat):uq (a++b)=uq a++uq b:=List.flatMap_append
def YD:∀{a:List Nat},126∉a->uq a=a
 |[],_=>rfl
 |c::a,h=>by have b:c≠126:=λe=>h (by rw[e];exact lh);have:=YD (a:=a) λz=>h (lg _ z);unfold uq at this ⊢;rw[o9,this,l7 b];rfl
def zbC:∀{ws:List Str},(∀w∈ws,126∉w.cps.toList)->(Str.join ⟨#[126,126]⟩ ws).cps.toList=uq (Str.join ⟨#[126]⟩ ws).cps.toList
 |[],_=>rfl
 |[p],h=>(YD (h p lh)).symm
 |p::q::r,h=>by have b:=zbC (ws:=q::r) λw a=>h w (lg _ a);rw[pQ,pQ,zJ,zJ,zJ,zJ,zbB,zbB,b,YD (h p lh)];rfl
def ko(x:Str):(Txt.replace x s!"~" s!"~~").cps.toList=uq x.cps.toList:=by
 rw[show s!"~" =⟨#[126]⟩by decide +kernel,show s!"~~" =⟨#[126,126]⟩by decide +kernel,Ka,zbC λw a=>pY _ 126 w a,pZ]
end L2
namespace L2
open PySem PySem.Spec PyProof.Rows
def KU{T U:TSW}{D:EndsW}{ρ:WS}(h:∀R:WS->OM->Prop,(∀a O',U D a O'->R a O')->T { D with nx:=R } ρ O):yR T U D ρ O:=h (U D) λ_ _ z=>z
def UP{f:PF}{ink t b l r c a y x:Int}(d:0<=y)(hx:0<=x)(h:t<=y/\y<=b/\l<=x/\x<=r):mvP f ink t b l r c a y.toNat x.toNat=if t<=y+c/\y+c<=b/\l<=x+a/\x+a<=r then f (y+c).toNat (x+a).toNat else blank ink:=by
 unfold mvP atF;rw[pL d,pL hx,l9 h]
def znp(x:Int):x%4=0\/x%4=1\/x%4=2\/x%4=3:=⋯
def zj9{A B:TTW}{T U:TSW}{D:EndsW}{ρ:WS}(a:∀R:Bool->OM->Prop,R false O->A ρ O R)(b:xN B T U D ρ O):xN (wOr A B) T U D ρ O:=a _ b
def zoy{A:TTW}{T U:TSW}{D:EndsW}{ρ:WS}(a:∀R:Bool->OM->Prop,R false O->A ρ O R)(b:U D ρ O):xN A T U D ρ O:=a _ b
section
variable {R:WK}{x w:W}{i j:Int}{y:Str}
def zfa :ub (.d (.tuple ds)) (.d (.int i)) O R= ∃ e,atI ds i=some e/\R (.d e) O:=propext ⟨fun⟨_,_,e,a,b,c,f⟩=>by
 cases a;cases b;exact⟨e,c,f⟩,λ⟨e,a,b⟩=>⟨ds,i,e,rfl,rfl,a,b⟩⟩
def zbD:Xm (.d (.str y)) (.d (.str z)) O R=(y.length+z.length<=sizeLine/\R (.d (.str (y ++ z))) O):=propext ⟨fun⟨_,_,a,b,c⟩=>by
 cases a;cases b;exact c,λh=>⟨y,z,rfl,rfl,h⟩⟩
def zfb:Vf [w] O R= ∃ n,lenW O w=some n/\R (.d (.int n)) O:=propext ⟨fun⟨_,n,a,b⟩=>by
 cases a;exact⟨n,b⟩,λ⟨n,h⟩=>⟨w,n,rfl,h⟩⟩
def Q3:jf [w] O R= ∃ ds,seqD O w=some ds/\R (.d (.list ds)) O:=propext ⟨fun⟨_,n,a,b⟩=>by
 cases a;exact⟨n,b⟩,λ⟨n,h⟩=>⟨w,n,rfl,h⟩⟩
def zbE:UF [.d (.int i)] O R=(-1000000<=i/\i<=1000000/\R (.d (.str (toString i))) O):=propext ⟨fun⟨_,a,b⟩=>by
 cases a;exact b,λh=>⟨i,rfl,h⟩⟩
def VJ:ja x [w] O R= ∃ O1,jh O x w=some O1/\R (.d .none) O1:=propext ⟨fun⟨_,n,a,b⟩=>by
 cases a;exact⟨n,b⟩,λ⟨n,h⟩=>⟨w,n,rfl,h⟩⟩
def ziY {P:Int->Prop}:(∃ j:Int,[W.d (.int i)]=[W.d (.int j)]/\P j)=P i:=propext ⟨fun⟨_,a,b⟩=>by
 cases a;exact b,λh=>⟨i,rfl,h⟩⟩
def ziZ {P:Int->Int->Prop}:(∃ a b:Int,[W.d (.int i),W.d (.int j)]=[W.d (.int a),W.d (.int b)]/\P a b)=P i j:=propext ⟨fun⟨_,_,c,e⟩=>by
 cases c;exact e,λh=>⟨i,j,rfl,h⟩⟩
def zfc {P:Addr->Addr->List (Str×W)->Prop}:(∃ a dx fs,W.own b=W.own a/\P a dx fs)= ∃ dx fs,P b dx fs:=propext ⟨fun⟨_,dx,fs,c,d⟩=>by
 cases c;exact⟨dx,fs,d⟩,λ⟨dx,fs,h⟩=>⟨b,dx,fs,rfl,h⟩⟩
def jq {α:Type}{P:α->Prop}{a:α}:(∃ x,some a=some x/\P x)=P a:=propext ⟨fun⟨_,b,c⟩=>by
 cases b;exact c,λh=>⟨a,rfl,h⟩⟩
section
variable {P:List PyData->Prop}{a b c d e:PyData}
def zi0:(∃ds,zZ [.d a]=some ds/\P ds)=P [a]:=jq
def zi1:(∃ds,zZ [.d a,.d b]=some ds/\P ds)=P [a,b]:=jq
def zi2:(∃ds,zZ [.d a,.d b,.d c]=some ds/\P ds)=P [a,b,c]:=jq
def zi3:(∃ds,zZ [.d a,.d b,.d c,.d d]=some ds/\P ds)=P [a,b,c,d]:=jq
end
end
section
variable {ρ:WS}{R:WK}{D:EndsW}{Ta Tb Tv:TEW}{Tr:TAW}{r:R2W}{x y w:W}{xs:List W}{i j:Int}{f:Str}
abbrev kOp(r:R2W)(Tb:TEW)(ρ:WS)(R:WK):WK:=λx a=>Tb ρ a λy b=>r x y b R
abbrev zfd(r:R2W)(x:W)(R:WK):WK:=λy a=>r x y a R
abbrev kUn(r:W->OM->WK->Prop)(R:WK):WK:=λx a=>r x a R
abbrev zka(Tr:TAW)(ρ:WS)(R:List W->OM->Prop):WK:=λx a=>Tr ρ a λxs b=>R (x::xs) b
abbrev zha(x:W)(R:List W->OM->Prop):List W->OM->Prop:=λxs a=>R (x::xs) a
abbrev zfe(s:SpW)(R:WK):List W->OM->Prop:=λws a=>s (ws++[]) a R
abbrev kCB(r:List W->OM->WK->Prop)(R:WK):List W->OM->Prop:=λws a=>r ws a R
abbrev zff(R:WK):List W->OM->Prop:=λws a=>∃ds,zZ ws=some ds/\ds.length<=1000/\R (.d (.tuple ds)) a
abbrev zbF(R:WK):List W->OM->Prop:=λws a=>∃ds,zZ ws=some ds/\ds.length<=1000/\R (.d (.list ds)) a
abbrev zi4(K:W.Frag)(f:Str)(R:WK):WK:=λx b=>match x with
 |.own a=>∃C dx fs,b a=some (.ins C dx fs)/\Cls K C/\NoAttr K C f/\∃w,fs.lookup f=some w/\R w b
 |_=>False
abbrev zbG(K:W.Frag)(f:Str)(D:EndsW)(ρ:WS)(y:W):WK:=λx b=>match x with
 |.own a=>∃C dx fs,b a=some (.ins C dx fs)/\Cls K C/\NoAttr K C f/\fs.length<1000/\D.nx ρ (updO b a (.ins C dx (zM f y fs)))
 |_=>False
abbrev kSF(K:W.Frag)(Ta:TEW)(f:Str)(D:EndsW)(ρ:WS):WK:=λy a=>Ta ρ a (zbG K f D ρ y)
abbrev znq(i:Nat)(ρ:WS)(D:EndsW):WK:=λw a=>D.nx (ρ.set i (some w)) a
abbrev zkb(D:EndsW)(ρ:WS):WK:=λ_ a=>D.nx ρ a
abbrev zfg(R:Bool->OM->Prop):WK:=λx a=>match x with
 |.d (.bool k)=>R k a
 |_=>False
abbrev kIf(T U:TSW)(D:EndsW)(ρ:WS):Bool->OM->Prop:=λb a=>if b=true then T D ρ a else U D ρ a
abbrev VL(Ta Tb:TEW)(ρ:WS)(R:WK):Bool->OM->Prop:=λb a=>if b=true then Ta ρ a R else Tb ρ a R
abbrev znr(R:Bool->OM->Prop):WK:=λx a=>∃b,kj a x=some b/\kZ x/\R b a
abbrev zfh(U:TTW)(ρ:WS)(R:Bool->OM->Prop):Bool->OM->Prop:=λc a=>if c=true then U ρ a R else R false a
abbrev zns(G:TGW)(c:TSW)(D:EndsW)(ρ:WS):List W->(OM->Prop)->OM->Prop:=λws a b=>zS ws a G c D ρ b
abbrev kJt(k:List W->(OM->Prop)->OM->Prop):WK:=λw a=>∃ds,zU w=some ds/\k (ds.map .d) (λ_=>True) a
abbrev kJ1(k:List W->(OM->Prop)->OM->Prop):List W->OM->Prop:=λws a=>∃j:Int,ws=[.d (.int j)]/\-(2 ^ 62)<=j/\j<2 ^ 62/\k ((List.range j.toNat).map λ(i:Nat)=>.d (.int i)) (λ_=>True) a
abbrev kJ2(k:List W->(OM->Prop)->OM->Prop):List W->OM->Prop:=λws a=>∃i j:Int,ws=[.d (.int i),.d (.int j)]/\(-(2 ^ 62)<=i/\i<2 ^ 62/\-(2 ^ 62)<=j/\j<2 ^ 62)/\k ((List.range (j-i).toNat).map λ(k:Nat)=>.d (.int (i+k))) (λ_=>True) a
abbrev zkc(G:TGW)(ρ:WS)(D:EndsW):WK:=λw a=>G w ρ a D.nx
abbrev zfi(o w:W)(ρ:WS)(R:WS->OM->Prop):WK:=λi b=>∃k a,i=.d (.int k)/\qw b o k w=some a/\R ρ a
abbrev znt(b:TEW)(w:W)(ρ:WS)(R:WS->OM->Prop):WK:=λo a=>b ρ a (zfi o w ρ R)
abbrev zbH(r:R2W)(b:TEW)(ρ:WS)(y:W)(R:WK):WK:=λz a=>match z with
 |.d (.bool k)=>if k=true then b ρ a (zfd r y R)else R (.d (.bool false)) a
 |_=>False
abbrev zi5(r c:R2W)(b:TEW)(ρ:WS)(x:W)(R:WK):WK:=λy a=>r x y a (zbH c b ρ y R)
abbrev kCh(r c:R2W)(Tb b:TEW)(ρ:WS)(R:WK):WK:=λx a=>Tb ρ a (zi5 r c b ρ x R)
abbrev zi6(x w:W)(ρ:WS)(D:EndsW):WK:=λy b=>match x,uM y with
 |.own a,some k=>∃kvs,b a=some (.dK kvs)/\kvs.length<1000/\D.nx ρ (updO b a (.dK (ud kvs k w)))
 |_,_=>False
abbrev zi7(Ty:TEW)(w:W)(ρ:WS)(D:EndsW):WK:=λx a=>Ty ρ a (zi6 x w ρ D)
abbrev kDP(b Ty:TEW)(ρ:WS)(D:EndsW):WK:=λw a=>b ρ a (zi7 Ty w ρ D)
abbrev kBM(T:String)(mq:W->List W->OM->WK->Prop)(Ta:TAW)(ρ:WS)(R:WK):WK:=λx a=>tyW T a x/\Ta ρ a λxs b=>mq x xs b R
abbrev znu(T:String)(mq:W->List W->OM->WK->Prop)(R:WK):WK:=λx a=>tyW T a x/\mq x [] a R
abbrev znv(mq:W->List W->OM->WK->Prop)(x:W)(R:WK):List W->OM->Prop:=λxs a=>mq x xs a R
def zpI(h:Ta ρ O (kOp r Tb ρ R)):wOp r Ta Tb ρ O R:=h
def zoz(h:Tb ρ O (zfd r x R)):kOp r Tb ρ R x O:=h
def zkd(h:r x y O R):zfd r x R y O:=h
def zpJ{r:W->OM->WK->Prop}(h:Ta ρ O (kUn r R)):wUn r Ta ρ O R:=h
def zoA{r:W->OM->WK->Prop}(h:r x O R):kUn r R x O:=h
def zfj(e:ρ[n]? =some (some w))(h:R w O):zO n ρ O R:=by
 unfold zO;rw[e];exact h
def goC{d:PyData}(h:R (.d d) O):wC d ρ O R:=h
def znw{R:List W->OM->Prop}(h:Ta ρ O (zka Tr ρ R)):vA Ta Tr ρ O R:=h
def zll{R:List W->OM->Prop}(h:Tr ρ O (zha x R)):zka Tr ρ R x O:=h
def zlm{R:List W->OM->Prop}(h:R (x::xs) O):zha x R xs O:=h
def zoB{R:List W->OM->Prop}(h:R [] O):je ρ O R:=h
def znx{s:SpW}(h:Tr ρ O (zfe s R)):vB s [] Tr ρ O R:=h
def zln{s:SpW}(h:s ws O R):zfe s R ws O:=by
 unfold zfe;rw[mm];exact h
def zpK{r:List W->OM->WK->Prop}(h:Tr ρ O (kCB r R)):wCB r Tr ρ O R:=h
def zoC{r:List W->OM->WK->Prop}(h:r ws O R):kCB r R ws O:=h
def zoD(h:Tr ρ O (zff R)):Ye Tr ρ O R:=h
def zoE(h:Tr ρ O (zbF R)):zay Tr ρ O R:=h
def zpL{a b:PyData}(h:R (.d (.tuple [a,b])) O):zff R [.d a,.d b] O:=⟨[a,b],rfl,(by decide:2<=1000),h⟩
def zpM{a b c d:PyData}(h:R (.d (.tuple [a,b,c,d])) O):zff R [.d a,.d b,.d c,.d d] O:=⟨[a,b,c,d],rfl,(by decide:4<=1000),h⟩
def zpN{a b c d e f g:PyData}(h:R (.d (.tuple [a,b,c,d,e,f,g])) O):zff R [.d a,.d b,.d c,.d d,.d e,.d f,.d g] O:=⟨[a,b,c,d,e,f,g],rfl,(by decide:7<=1000),h⟩
def zpO{a b:PyData}(h:R (.d (.list [a,b])) O):zbF R [.d a,.d b] O:=⟨[a,b],rfl,(by decide:2<=1000),h⟩
def zpP{a b c:PyData}(h:R (.d (.list [a,b,c])) O):zbF R [.d a,.d b,.d c] O:=⟨[a,b,c],rfl,(by decide:3<=1000),h⟩
def zpQ{a b c d e f:PyData}(h:R (.d (.list [a,b,c,d,e,f])) O):zbF R [.d a,.d b,.d c,.d d,.d e,.d f] O:=⟨[a,b,c,d,e,f],rfl,(by decide:6<=1000),h⟩
def zoF(h:Ta ρ O (zi4 K f R)):yS K Ta f ρ O R:=h
def zny(h:Tv ρ O (kSF K Ta f D ρ)):qg K Ta Tv f D ρ O:=h
def zlo(h:Ta ρ O (zbG K f D ρ y)):kSF K Ta f D ρ y O:=h
def zoG(h:Ta ρ O (znq n ρ D)):kn Ta (xH n) D ρ O:=h
def znz(h:D.nx (ρ.set n (some w)) O):znq n ρ D w O:=h
def znA(h:Ta ρ O (zkb D ρ)):qe Ta D ρ O:=h
def zlp(h:D.nx ρ O):zkb D ρ w O:=h
def zoH(h:Ta ρ O D.rt):km Ta D ρ O:=h
def znB{R:Bool->OM->Prop}(h:Ta ρ O (zfg R)):y9 Ta ρ O R:=h
def zlq{R:Bool->OM->Prop}{b:Bool}(h:R b O):zfg R (.d (.bool b)) O:=h
def zoI{c:TTW}{T U:TSW}(h:c ρ O (kIf T U D ρ)):xN c T U D ρ O:=h
def zoJ{c:TTW}(h:c ρ O (VL Ta Tb ρ R)):wIf c Ta Tb ρ O R:=h
def zoK{R:Bool->OM->Prop}(h:Ta ρ O (znr R)):Qs Ta ρ O R:=h
def zoL{T U:TTW}{R:Bool->OM->Prop}(h:T ρ O (zfh U ρ R)):Zw T U ρ O R:=h
def znC(h:R (.d (.bool (!Zu x))) O):qf x (.d .none) O R:=h
section
variable {p:Prop}[Decidable p]{T U:TSW}{V:TTW}{R':Bool->OM->Prop}{b:Bool}
def j4(a:p->T D ρ O)(b:¬p->U D ρ O):kIf T U D ρ (decide p) O:=by
 unfold kIf;by_cases h:p
 .rw[l9 (lM h)];exact a h
 .rw[l7 (by rw[lR h];decide)];exact b h
def zhb{q:Prop}[Decidable q](a:p/\q->T D ρ O)(b:¬(p/\q)->U D ρ O):kIf T U D ρ (decide p&&decide q) O:=by
 by_cases h:p/\q
 .rw[lM h.1,lM h.2];exact a h
 .rw[<-Bool.decide_and,lR h];exact b h
def UQ(a:b=true->T D ρ O)(c:b=false->U D ρ O):kIf T U D ρ b O:=by
 cases b with
 |true=>exact a rfl
 |false=>exact c rfl
def zfk(e:b=true)(h:T D ρ O):kIf T U D ρ b O:=by subst e;exact h
def Xw(e:b=false)(h:U D ρ O):kIf T U D ρ b O:=by subst e;exact h
def znD(a:p->Ta ρ O R)(b:¬p->Tb ρ O R):VL Ta Tb ρ R (decide p) O:=by
 unfold VL;by_cases h:p
 .rw[l9 (lM h)];exact a h
 .rw[l7 (by rw[lR h];decide)];exact b h
def znE(a:b=true->Ta ρ O R)(c:b=false->Tb ρ O R):VL Ta Tb ρ R b O:=by
 cases b with
 |true=>exact a rfl
 |false=>exact c rfl
def zpR{j:Int}(a:∀R:WK,R (.d (.int i)) O->Ta ρ O R)(b:∀R:WK,R (.d (.int j)) O->Tb ρ O R)(h:R (.d (.int (if p then i else j))) O):VL Ta Tb ρ R (decide p) O:=by
 by_cases e:p
 .rw[l9 e]at h;exact znD (λ_=>a _ h) λz=>absurd e z
 .rw[l7 e]at h;exact znD (λz=>absurd z e) λ_=>b _ h
def znF{c:Bool}(a:∀R:Bool->OM->Prop,R c O->V ρ O R)(h:R' (b&&c) O):zfh V ρ R' b O:=by
 cases b with
 |true=>exact a _ h
 |false=>exact h
def znG{us:List W}(e:O a=some (.lst us))(h:R' (!us.isEmpty) O):znr R' (.own a) O:=⟨_,by simp[kj,seqL,e],trivial,h⟩
end
def zoM{d:PyData}(e:atI ds i=some d)(h:R (.d d) O):ub (.d (.tuple ds)) (.d (.int i)) O R:=⟨ds,i,d,rfl,rfl,e,h⟩
def zoN{b:TIW}{G:TGW}{a:TSW}(h:b ρ O (zns G a D ρ)):zaD b G a D ρ O:=h
def znH{G:TGW}{b:TSW}{a:OM->Prop}(h:zS ws a G b D ρ O):zns G b D ρ ws a O:=h
def zpS{k:List W->(OM->Prop)->OM->Prop}(h:Ta ρ O (kJt k)):zaB Ta ρ O k:=h
def zoO{k:List W->(OM->Prop)->OM->Prop}(h:k (ds.map .d) (λ_=>True) O):kJt k (.d (.tuple ds)) O:=⟨ds,rfl,h⟩
def zpT{k:List W->(OM->Prop)->OM->Prop}(h:Tr ρ O (kJ1 k)):Um Tr ρ O k:=h
def zoP{k:List W->(OM->Prop)->OM->Prop}(h:k ((List.range j.toNat).map λ(i:Nat)=>.d (.int i)) (λ_=>True) O)(c:-(2 ^ 62)<=j/\j<2 ^ 62):kJ1 k [.d (.int j)] O:=⟨j,rfl,c.1,c.2,h⟩
def zpU{k:List W->(OM->Prop)->OM->Prop}(h:Tr ρ O (kJ2 k)):Uo Tr ρ O k:=h
def zoQ{k:List W->(OM->Prop)->OM->Prop}(h:k ((List.range (j-i).toNat).map λ(k:Nat)=>.d (.int (i+k))) (λ_=>True) O)(c:-(2 ^ 62)<=i/\i<2 ^ 62/\-(2 ^ 62)<=j/\j<2 ^ 62):kJ2 k [.d (.int i),.d (.int j)] O:=⟨i,j,rfl,c,h⟩
def zpV{R:WS->OM->Prop}(h:R (ρ.set n (some w)) O):xH n w ρ O R:=h
def znI{b a:TEW}(h:Ta ρ O (zkc (Vl b a) ρ D)):kn Ta (Vl b a) D ρ O:=h
def zlr{b a:TEW}(h:b ρ O (znt a w ρ D.nx)):zkc (Vl b a) ρ D w O:=h
def znJ{a:TEW}{R:WS->OM->Prop}(h:a ρ O (zfi x w ρ R)):znt a w ρ R x O:=h
def zoR(e:zZ (vs.map ofV)=some ds)(l:ds.length<=1000)(h:R (.d (.list ds)) O):wCs vs ρ O (zbF R):=⟨ds,e,l,h⟩
def znK{R:WS->OM->Prop}{a:OM}(e:qw O x i w=some a)(h:R ρ a):zfi x w ρ R (.d (.int i)) O:=⟨i,a,rfl,e,h⟩
def zfl(e:seqL O x=some ws)(g:atI ws i=some w)(h:R w O):QM x (.d (.int i)) O R:=⟨ws,e,w,g,h⟩
def zls(e:seqD O x=some ds)(h:R (.d (.list ds)) O):jf [x] O R:=⟨x,ds,rfl,e,h⟩
def zpW{b:R2W}{a:TEW}(h:Ta ρ O (kCh r b Tb a ρ R)):ug r b Ta Tb a ρ O R:=h
def zoS{b:R2W}{a:TEW}(h:Tb ρ O (zi5 r b a ρ x R)):kCh r b Tb a ρ R x O:=h
def zoT{b:R2W}{a:TEW}(h:r x y O (zbH b a ρ y R)):zi5 r b a ρ x R y O:=h
def zoU{a:TEW}{b c:Bool}(e:∀R:WK,R (.d (.bool c)) O->a ρ O (zfd r y R))(h:R (.d (.bool (b&&c))) O):zbH r a ρ y R (.d (.bool b)) O:=by
 cases b with
 |true=>exact e _ h
 |false=>exact h
def zpX{a Ty:TEW}(h:Tv ρ O (kDP a Ty ρ D)):uh a Ty Tv D ρ O:=h
def zoV{a Ty:TEW}(h:a ρ O (zi7 Ty w ρ D)):kDP a Ty ρ D w O:=h
def zoW{Ty:TEW}(h:Ty ρ O (zi6 x w ρ D)):zi7 Ty w ρ D x O:=h
def zoX{b:Bool}(h:R (.d (.bool (Yc b x))) O):zav x (.d (.bool b)) O R:=⟨b,rfl,h⟩
def zoY{kvs:List (Key×W)}(e:O a=some (.dK kvs))(h:D.nx ρ (updO O a (.dK (ud kvs (.inl i) w))))(l:kvs.length<1000):zi6 (.own a) w ρ D (.d (.int i)) O:=⟨kvs,e,l,h⟩
def zoZ{T U:TSW}(h:T { D with nx:=U D } ρ O):yR T U D ρ O:=h
def znL(h:D.nx ρ O):uc D ρ O:=h
def zo0{T:String}(h:Ta ρ O (znu T mq R)):zaH T mq Ta ρ O R:=h
def zpY{T:String}(h:Ta ρ O (kBM T mq Tr ρ R)):wBM T mq Ta Tr ρ O R:=h
def zo1(h:R (.d (.int (i+j))) O):vI0 (λi j=>.int (i+j)) (.d (.int i)) (.d (.int j)) O R:=h
def zo2(h:R (.d (.int (i-j))) O):vI0 (λi j=>.int (i-j)) (.d (.int i)) (.d (.int j)) O R:=h
def zpZ(h:R (.d (.bool (decide (i<j)))) O):vI0 (λi j=>.bl (decide (i<j))) (.d (.int i)) (.d (.int j)) O R:=h
def zp0(h:R (.d (.bool (decide (i<=j)))) O):vI0 (λi j=>.bl (decide (i<=j))) (.d (.int i)) (.d (.int j)) O R:=h
def zp1(h:R (.d (.bool (decide (j<i)))) O):vI0 (λi j=>.bl (decide (j<i))) (.d (.int i)) (.d (.int j)) O R:=h
def zp2(h:R (.d (.bool (decide (j<=i)))) O):vI0 (λi j=>.bl (decide (j<=i))) (.d (.int i)) (.d (.int j)) O R:=h
def zp3(h:R (.d (.bool (decide (i=j)))) O):vEq (.d (.int i)) (.d (.int j)) O R:=h
def zo3{y:Str}(h:R (.d (.bool (decide (y=z)))) O):vEq (.d (.str y)) (.d (.str z)) O R:=⟨rfl,rfl,rfl,by rw[show decide (vOf (.str y)=vOf (.str z))=decide (y=z)by simp[vOf]];exact h⟩
def zo4(h:R (.d (.bool false)) O):vEq (.d .none) (.d (.int j)) O R:=⟨rfl,rfl,rfl,h⟩
def zo5{n:PyData}(c:NumD n)(h:R (.d (.int (oneD n))) O):qx [.d n] O R:=⟨n,rfl,c,h⟩
def zo6{n:PyData}(c:NumD n)(h:R (.d (.int (uN n i j))) O):jj [.d n,.d (.int i),.d (.int j)] O R:=⟨n,i,j,rfl,c,h⟩
def znM{n m:PyData}(c:NumD n)(d:NumD m)(h:R (.d (ue n m i)) O):Xo [.d n,.d m,.d (.int i)] O R:=⟨n,m,i,rfl,c,d,h⟩
def zp4{C:Int->Prop}{g:Int->Int}(c:C i)(h:R (.d (.int (g i))) O):sI1 C g [.d (.int i)] O R:=⟨i,rfl,c,h⟩
def zo7(c:0<j)(d:j<1073741824)(h:R (.d (.int (i / j))) O):vI zhK (λi j=>.int (i / j)) (.d (.int i)) (.d (.int j)) O R:=⟨⟨c,d⟩,h⟩
def zo8(c:0<j)(h:R (.d (.int (i%j))) O):vI (λ_ j=>0<j) (λi j=>.int (i%j)) (.d (.int i)) (.d (.int j)) O R:=⟨c,h⟩
def zhc{y:Str}(h:R (.d (.str (y++z))) O)(l:y.length+z.length<=sizeLine):Xm (.d (.str y)) (.d (.str z)) O R:=⟨y,z,rfl,rfl,l,h⟩
def znN(h:R (.d (.str (Txt.mul z i))) O)(c:MulOk z i):Uv (.d (.str z)) (.d (.int i)) O R:=⟨z,i,rfl,rfl,c,h⟩
def znO{es:List PyData}(h:R (.d (.list (ds++es))) O)(l:ds.length+es.length<=10000000):zaJ (.d (.list ds)) (.d (.list es)) O R:=⟨_,_,ds,es,rfl,rfl,zV ds,zV es,l,h⟩
def znP(h:R (.d (.str (toString i))) O)(l:-1000000<=i/\i<=1000000):UF [.d (.int i)] O R:=⟨i,rfl,l.1,l.2,h⟩
def zp5{g:Int->Int->Int}(h:R (.d (.int (g i j))) O):vI2 g [.d (.int i),.d (.int j)] O R:=h
def zo9{us:List W}(e:O a=some (.lst us))(h:Tr ρ O (znv mq (.own a) R)):kBM "list" mq Tr ρ R (.own a) O:=⟨.inl ⟨rfl,by simp[seqL,e]⟩,h⟩
def znQ{us:List W}(e:O a=some (.lst us))(h:mq (.own a) [] O R):znu "list" mq R (.own a) O:=⟨.inl ⟨rfl,by simp[seqL,e]⟩,h⟩
def zpa{us:List W}(e:O a=some (.lst us))(h:R (.d .none) (updO O a (.lst (us++[w]))))(l:us.length<1000):ja (.own a) [w] O R:=⟨w,_,rfl,by simp only[jh,e,l9 l],h⟩
def zpb{us:List W}(e:O a=some (.lst us))(h:R w (updO O a (.lst us.dropLast)))(l:us[us.length-1]? =some w):zeW (.own a) [] O R:=⟨a,us,w,rfl,rfl,e,l,h⟩
def zlt{us:List W}(e:O a=some (.lst us))(h:R w (updO O a (.lst (us.eraseIdx n))))(l:us[n]? =some w)(g:n<=1000):UE (.own a) [.d (.int n)] O R:=⟨a,us,w,n,rfl,rfl,e,l,g,h⟩
def znR{us:List W}(e:O a=some (.lst us))(h:R (.d (.int us.length)) O):Vf [.own a] O R:=⟨_,us.length,rfl,by simp[lenW,zU,seqL,e],h⟩
def zpc(h:mq x ws O R):znv mq x R ws O:=h
def vm{fs:List (Str×W)}(hx:O a=some (.ins C dx fs))(c:Cls K C)(n:NoAttr K C f)(l:fs.lookup f=some w)(h:R w O):zi4 K f R (.own a) O:=⟨C,dx,fs,hx,c,n,w,l,h⟩
def qB{fs b:List (Str×W)}(hx:O a=some (.ins C dx fs))(c:Cls K C)(n:NoAttr K C f)(l:fs.length<1000)(e:zM f y fs=b)(h:D.nx ρ (updO O a (.ins C dx b))):zbG K f D ρ y (.own a) O:=⟨C,dx,fs,hx,c,n,l,by rw[e];exact h⟩
/---/abbrev GrP(K:W.Frag)(C:Addr)(f:Str)(v:Addr->Addr->Addr->ST->W):Prop:=∀{O:OM}{a dx p st b:Addr}{S:ST}{R:WK},Sta K C->O a=some (.ins C dx (fldW p st b S))->R (v p st b S) O->zi4 K f R (.own a) O
/---/abbrev GsP(K:W.Frag)(C:Addr)(f:Str)(y:W)(g:ST->ST):Prop:=∀{O:OM}{a dx p st b:Addr}{S:ST}{D:EndsW}{ρ:WS},Sta K C->O a=some (.ins C dx (fldW p st b S))->D.nx ρ (updO O a (.ins C dx (fldW p st b (g S))))->zbG K f D ρ y (.own a) O
def qC{st b:Addr}{g:ST->ST}(q:GsP K C f y g)(s:Sta K C)(h:D.nx ρ (updO O a (.ins C dx (fldW p st b (g S))))):zbG K f D ρ y (.own a) (updO O a (.ins C dx (fldW p st b S))):=q s zd (by rw[yW];exact h)
def UR:GrP K C "picture" λp st a S=>.own p:=λs hx h=>vm hx s.cl s.n_picture ya h
def zdp:GrP K C "wide" λp st a S=>.d (.int S.w):=λs hx h=>vm hx s.cl s.n_wide xc h
def zdq:GrP K C "high" λp st a S=>.d (.int S.h):=λs hx h=>vm hx s.cl s.n_high xf h
def zhd:GrP K C "row" λp st a S=>.d (.int S.row):=λs hx h=>vm hx s.cl s.n_row xz h
def JR:GrP K C "column" λp st a S=>.d (.int S.col):=λs hx h=>vm hx s.cl s.n_column yn h
def zdr:GrP K C "late" λp st a S=>.d (.bool S.late):=λs hx h=>vm hx s.cl s.n_late yX h
def zhe:GrP K C "ink" λp st a S=>.d (.int S.ink):=λs hx h=>vm hx s.cl s.n_ink xB h
def zds:GrP K C "wrap" λp st a S=>.d (.bool S.wrap):=λs hx h=>vm hx s.cl s.n_wrap yY h
def US:GrP K C "putting" λp st a S=>.d (.bool S.putting):=λs hx h=>vm hx s.cl s.n_putting yb h
def zdt:GrP K C "home" λp st a S=>.d (.bool S.home):=λs hx h=>vm hx s.cl s.n_home yZ h
def zhf:GrP K C "top" λp st a S=>.d (.int S.top):=λs hx h=>vm hx s.cl s.n_top xC h
def JS:GrP K C "bottom" λp st a S=>.d (.int S.bottom):=λs hx h=>vm hx s.cl s.n_bottom yo h
def zdu:GrP K C "left" λp st a S=>.d (.int S.left):=λs hx h=>vm hx s.cl s.n_left y0 h
def zbI:GrP K C "right" λp st a S=>.d (.int S.right):=λs hx h=>vm hx s.cl s.n_right yC h
def zbJ:GrP K C "stops" λp st a S=>.own st:=λs hx h=>vm hx s.cl s.n_stops yr h
def zdv:GrP K C "kept" λp st kp S=>.own kp:=λs hx h=>vm hx s.cl s.n_kept y6 h
def zhg{v:Int}:GsP K C "row" (.d (.int v)) λS=>{ S with row:=v }:=λs hx h=>qB hx s.cl s.n_row qy xi h
def JT{v:Int}:GsP K C "column" (.d (.int v)) λS=>{ S with col:=v }:=λs hx h=>qB hx s.cl s.n_column qy yd h
def zdw{v:Bool}:GsP K C "late" (.d (.bool v)) λS=>{ S with late:=v }:=λs hx h=>qB hx s.cl s.n_late qy yI h
def zhh{v:Int}:GsP K C "ink" (.d (.int v)) λS=>{ S with ink:=v }:=λs hx h=>qB hx s.cl s.n_ink qy xj h
def zdx{v:Bool}:GsP K C "wrap" (.d (.bool v)) λS=>{ S with wrap:=v }:=λs hx h=>qB hx s.cl s.n_wrap qy yJ h
def UT{v:Bool}:GsP K C "putting" (.d (.bool v)) λS=>{ S with putting:=v }:=λs hx h=>qB hx s.cl s.n_putting qy zY h
def zdy{v:Bool}:GsP K C "home" (.d (.bool v)) λS=>{ S with home:=v }:=λs hx h=>qB hx s.cl s.n_home qy yK h
def zhi{v:Int}:GsP K C "top" (.d (.int v)) λS=>{ S with top:=v }:=λs hx h=>qB hx s.cl s.n_top qy xm h
def JU{v:Int}:GsP K C "bottom" (.d (.int v)) λS=>{ S with bottom:=v }:=λs hx h=>qB hx s.cl s.n_bottom qy ye h
def zdz{v:Int}:GsP K C "left" (.d (.int v)) λS=>{ S with left:=v }:=λs hx h=>qB hx s.cl s.n_left qy yL h
def zbK{v:Int}:GsP K C "right" (.d (.int v)) λS=>{ S with right:=v }:=λs hx h=>qB hx s.cl s.n_right qy yt h
def zdA{v:PyData}:GsP K C "last" (.d v) λS=>{ S with last:=v }:=λs hx h=>qB hx s.cl s.n_last qy y7 h
def zp6{V:TTW}{R:Bool->OM->Prop}{b:Bool}(h:zfh V ρ R b O):zfh V ρ R b O:=h
def zp7{b:Bool}(h:VL Ta Tb ρ R b O):VL Ta Tb ρ R b O:=h
def zp8(h:ub x y O R):ub x y O R:=h
def zp9{a:TEW}{z:W}(h:zbH r a ρ y R z O):zbH r a ρ y R z O:=h
end
/---/abbrev Pic6:=List Rw6
abbrev rowsC(p:Pic6):PyData:=.list (p.map rowC)
structure OkP (w h:Nat) (p:Pic6):Prop where
 len:p.length=h
 row:∀r∈p,r.length=w/\okR r
def Old.nn(h:Old O O')(a:O' b=none):O b=none:=by
 cases e:O b with
 |none=>rfl
 |some x=>rw[h b (by rw[e];simp),e]at a;cases a
abbrev znS:Cel:=(⟨#[32]⟩,0)
abbrev yE(w:Nat):Rw6:=List.replicate w znS
def JV(w:Nat):okR (yE w):=λc a=>⟨32,∅,∅,by rw[nR a];rfl⟩
def UU(w:Nat):(yE w).map celD=List.replicate w (.tuple [.str s!" ",.int 0]):=by
 unfold yE;rw[List.map_replicate];rfl
def zi8{n:Nat}:∀{ds:List PyData},(∀d∈ds,PyData.canLay0 d=true/\PyData.depth d<=n/\PyData.eqv d d=true)->PyData.canLayAll0 ds=true/\PyData.depthAll ds<=n/\PyData.eqvAll ds ds=true
 |[],_=>by simp[PyData.canLayAll0,PyData.depthAll,PyData.eqvAll]
 |d::ds,h=>by
  obtain⟨a,f,b⟩:=h d lh;obtain⟨c,g,e⟩:=zi8 (n:=n) (ds:=ds) λx hx=>h x (lg _ hx);simp[PyData.canLayAll0,PyData.depthAll,PyData.eqvAll,a,b,c,e]
  lia
def KW(h:∀d∈ds,PyData.canLay0 d=true/\PyData.depth d<=n/\PyData.eqv d d=true):PyData.canLay0 (.list ds)=true/\PyData.depth (.list ds)<=n+1/\PyData.eqv (.list ds) (.list ds)=true:=by
 obtain⟨a,b,c⟩:=zi8 h;simp[PyData.canLay0,PyData.depth,PyData.eqv,a,c];omega
def KY(h:∀d∈ds,PyData.canLay0 d=true/\PyData.depth d<=n/\PyData.eqv d d=true):PyData.canLay0 (.tuple ds)=true/\PyData.depth (.tuple ds)<=n+1/\PyData.eqv (.tuple ds) (.tuple ds)=true:=by
 obtain⟨a,b,c⟩:=zi8 h;simp[PyData.canLay0,PyData.depth,PyData.eqv,a,c];omega
def xn{d:PyData}(h:PyData.canLay0 d=true/\PyData.depth d<=n/\PyData.eqv d d=true)(a:n<=50):SeqAt.shaped d=true:=by
 simp only[SeqAt.shaped,h.1,Bool.true_and,nr]
 lia
def zpd{c:Cel}(h:zio c):PyData.canLay0 (celD c)=true/\PyData.depth (celD c)<=3/\PyData.eqv (celD c) (celD c)=true:=by
 obtain⟨k,a,b,e⟩:=h;have:PyData.strOk c.1=true:=by
  rw[e];unfold PyData.strOk;simp
  lia
 simp[celD,PyData.canLay0,PyData.canLayAll0,PyData.depth,PyData.depthAll,PyData.eqv,PyData.eqvAll,this]
def zqa{r:Rw6}(h:okR r):PyData.canLay0 (rowC r)=true/\PyData.depth (rowC r)<=4/\PyData.eqv (rowC r) (rowC r)=true:=
 KW λd b=>by obtain⟨c,a,rfl⟩:=lH.1 b;exact zpd (h c a)
def zfm{p:Pic6}(h:∀r∈p,okR r):PyData.canLay0 (rowsC p)=true/\PyData.depth (rowsC p)<=5/\PyData.eqv (rowsC p) (rowsC p)=true:=
 KW λd b=>by obtain⟨c,a,rfl⟩:=lH.1 b;exact zqa (h c a)
def zpe{p:Pic6}(h:∀r∈p,okR r):SeqAt.shaped (rowsC p)=true:=xn (zfm h) ∅
def zi9(p:Pic6):PyData.eqv (rowsC p) (.list [])=p.isEmpty:=by
 cases p<;>rfl
def zfn(w:Nat):PyData.list (zix (w:Int) [.tuple [.str s!" ",.int 0]])=rowC (yE w):=by
 unfold zix rowC;rw[UU,nq];congr 1;induction w with
 |zero=>rfl
 |succ w ih=>rw[mi,mR,ih,mi];rfl
def znT{pc:Pic6}{k:Int}(b:0<=k)(c:k<pc.length):∃r∈pc,atI ((pc.map rowC).map W.d) k=some (.d (rowC r)):=by
 obtain⟨n,rfl⟩:=lO b;have a:n<pc.length:=f!"i"
 refine⟨pc[n],ny a,uK ?_⟩;rw[lw,lw,lp a];rfl
def Q4{α:Type}{a:List α}:ji a none (some (n:Int))=a.take n:=by
 unfold ji;rw[HT.sIx_none,HT.sIx_nat,List.drop_zero,Nat.sub_zero];rcases Nat.le_total n a.length with h|h
 .rw[Nat.min_eq_left h]
 .rw[Nat.min_eq_right h,my,o6 h]
def zdB{α:Type}{a:List α}:ji a (some (n:Int)) none=a.drop n:=by
 unfold ji;rw[HT.sIx_none,HT.sIx_nat];rcases Nat.le_total n a.length with h|h
 .rw[Nat.min_eq_left h,o6 (by rw[m9];lia)]
 .rw[Nat.min_eq_right h,List.drop_length,List.drop_eq_nil_of_le h];simp
abbrev ur(O:OM)(b:Addr)(r:Rw6):Prop:=O b=some (.lst ((r.map celD).map .d))
/---/abbrev Rws(O:OM):List Addr->Pic6->Prop:=Paired (ur O)
def ur.old{r:Rw6}(h:ur O b r)(a:Old O O'):ur O' b r:=by
 unfold ur at *;rw[a b (by rw[h];simp)];exact h
def Rws.old{a:List Addr}{p:Pic6}(h:Rws O a p)(b:Old O O'):Rws O' a p:=Paired.mapP h λ_ _ z=>z.old b
abbrev OwnP(O:OM)(a:Addr)(b:List Addr)(p:Pic6):Prop:=O a=some (.lst (b.map W.own))/\Rws O b p
def OwnP.old{b:List Addr}{p:Pic6}(h:OwnP O a b p)(c:Old O O'):OwnP O' a b p:=⟨by rw[c a (by rw[h.1];simp)];exact h.1,Rws.old h.2 c⟩
def OwnP.new{b:List Addr}{p:Pic6}(h:Rws O b p)(c:O a=none):OwnP (updO O a (.lst (b.map W.own))) a b p:=⟨zd,Rws.old h (Old.refl.upd c)⟩
def OwnP.len{b:List Addr}{p:Pic6}(h:OwnP O a b p):b.length=p.length:=lJ h.2
def OwnP.seq{b:List Addr}{p:Pic6}(h:OwnP O a b p):seqL O (.own a)=some (b.map W.own):=by simp only[seqL,h.1]
def OwnP.lenW{b:List Addr}{p:Pic6}(h:OwnP O a b p):lenW O (.own a)=some p.length:=by simp[L2.lenW,zU,seqL,h.1,h.len]
def ur.seqD{r:Rw6}(h:ur O b r):seqD O (.own b)=some (r.map celD):=by simp only[L2.seqD,zU,seqL,show O b=_ from h,nS,zV]
def ur.lenW{r:Rw6}(h:ur O b r):lenW O (.own b)=some r.length:=by simp[L2.lenW,zU,seqL,show O b=_ from h]
def Rws.items{b:List Addr}{p:Pic6}(h:Rws O b p):uk O (b.map W.own)=some (p.map rowC):=by
 induction h with
 |nil=>rfl
 |cons a t ih=>simp only[lG,uk,UB,show O _=_ from a,zV,nA,ih];rfl
def OwnP.deep{b:List Addr}{p:Pic6}(h:OwnP O a b p):vC O (.own a)=some (rowsC p):=by
 simp only[vC,h.1,Rws.items h.2,nA];rfl
def OwnP.at{c:List Addr}{p:Pic6}(h:OwnP O a c p)(e:i<p.length):∃b,c[i]? =some b/\atI (c.map W.own) (i:Int)=some (.own b)/\ur O b (p[i]'e):=by
 obtain⟨b,d,f⟩:=Paired.getQ h.2 (lp e);exact⟨b,d,uK (by rw[lw,d];rfl),f⟩
abbrev PicS(O:OM)(x:W)(p:Pic6):Prop:=x=.d (rowsC p)\/∃a b,x=.own a/\OwnP O a b p
def PicS.seq{x:W}{p:Pic6}(h:PicS O x p):∃ws:List W,ws.length=p.length/\(∀O',Old O O'->seqL O' x=some ws)/\∀(i:Nat) (w:W),ws[i]? =some w->∃r:Rw6,p[i]? =some r/\∀O',Old O O'->seqD O' w=some (r.map celD):=by
 rcases h with rfl|⟨a,bs,rfl,q⟩
 .refine⟨(p.map rowC).map .d,m!"",λ_ _=>rfl,λi w e=>?_⟩;rw[lw,lw]at e;cases c:p[i]? with
  |none=>rw[c]at e;cases e
  |some r=>rw[c]at e;cases e;exact⟨r,rfl,λ_ _=>by simp only[seqD,zU,seqL,rowC,nS,zV]⟩
 .refine⟨bs.map W.own,by rw[l8,q.len],λO' f=>(q.old f).seq,λi w e=>?_⟩;rw[lw]at e;cases hb:bs[i]? with
  |none=>rw[hb]at e;cases e
  |some b=>rw[hb]at e;cases e;obtain⟨r,c,g⟩:=Paired.getP q.2 hb;exact⟨r,c,λO' f=>(g.old f).seqD⟩
abbrev cutP(w:Nat)(p:Pic6)(r m:Nat):Pic6:=p.take r++p.drop (r+m)++List.replicate m (yE w)
abbrev putP(w:Nat)(p:Pic6)(r m:Nat):Pic6:=(p.take r++List.replicate m (yE w)++p.drop r).take p.length
abbrev wrR(r:Rw6)(c:Nat)(t:Str)(ink:Int):Rw6:=(r.take c++(t.cps.toList.map λk=>((⟨#[k]⟩:Str),ink))++r.drop (c+t.length)).take r.length
def zhj{a:List Addr}{q:Addr}(c:∀b∈a,O b=none)(d:O q=none):∀b∈a++[q],O b=none:=λb hb=>by
 rcases ls.1 hb with hb|hb
 .exact c b hb
 .cases lf.1 hb;exact d
def znU{a cs:List Addr}{r k:Nat}(b:∀c∈cs,O c=none):∀c∈a.take r++a.drop k++cs,c∈a\/O c=none:=λc hc=>by
 rcases ls.1 hc with hc|hc
 .rcases ls.1 hc with hc|hc
  .exact .inl (md hc)
  .exact .inl (nl hc)
 .exact .inr (b c hc)
def znV{a cs:List Addr}{r:Nat}(b:∀c∈cs,O c=none):∀c∈(a.take r++cs++a.drop r).take n,c∈a\/O c=none:=λc hc=>by
 rcases ls.1 (md hc)with hc|hc
 .rcases ls.1 hc with hc|hc
  .exact .inl (md hc)
  .exact .inr (b c hc)
 .exact .inl (nl hc)
inductive sCop7 (ws:List W) (O:OM) (R:WK):Prop
 |mk:∀x,∀p:Pic6,ws=[x]->PicS O x p->p.length<=12->(∀r∈p,r.length<=24)->(∀q a O',OwnP O' q a p->Old O O'->a.Nodup->q∉a->O q=none->(∀b∈a,O b=none)->R (.own q) O')->sCop7 ws O R
inductive sCut7 (ws:List W) (O:OM) (R:WK):Prop
 |mk:∀a b,∀p:Pic6,∀w h r m:Nat,ws=[.own a,.d (.int r),.d (.int m)]->OwnP O a b p->OkP w h p->w<=24->h<=12->1<=m->r+m<=h->(∀q cs O',OwnP O' q cs (cutP w p r m)->Old O O'->O q=none->(∀c∈cs,c∈b\/O c=none)->R (.own q) O')->sCut7 ws O R
inductive sPut7 (ws:List W) (O:OM) (R:WK):Prop
 |mk:∀a b,∀p:Pic6,∀w h r m:Nat,ws=[.own a,.d (.int r),.d (.int m)]->OwnP O a b p->OkP w h p->w<=24->h<=12->1<=m->r+m<=h->(∀q cs O',OwnP O' q cs (putP w p r m)->Old O O'->O q=none->(∀c∈cs,c∈b\/O c=none)->R (.own q) O')->sPut7 ws O R
def UV(w:Nat):(List.replicate w (List.map W.d [PyData.tuple [.str s!" ",.int 0]])).flatten=((yE w).map celD).map W.d:=by
 rw[UU];induction w with
 |zero=>rfl
 |succ w ih=>rw[mi,mR,ih,mi];rfl
inductive Dd where
 |cut (r m:Nat)
 |put (r m:Nat)
 |wr (r c:Nat) (t:Str) (ink:Int)
abbrev ddD:Dd->PyData
 |.cut r m=>.tuple [.str s!"cut",.int r,.int m]
 |.put r m=>.tuple [.str s!"put",.int r,.int m]
 |.wr r c t ink=>.tuple [.str s!"write",.int r,.int c,.str t,.int ink]
abbrev okDd(w h:Nat):Dd->Prop
 |.cut r m=>1<=m/\r+m<=h
 |.put r m=>1<=m/\r+m<=h
 |.wr r c t _=>r<h/\c+t.length<=w/\∀k∈t.cps.toList,32<=k/\k<=126
abbrev doD(w:Nat)(p:Pic6):Dd->Pic6
 |.cut r m=>cutP w p r m
 |.put r m=>putP w p r m
 |.wr r c t ink=>p.set r (wrR (p.getD r []) c t ink)
abbrev doW(w:Nat)(p:Pic6)(ds:List Dd):Pic6:=ds.foldl (doD w) p
def znW{r:Rw6}{c:Nat}{t:Str}{ink:Int}(b:okR r)(d:∀k∈t.cps.toList,32<=k/\k<=126)(e:c+t.length<=r.length):(wrR r c t ink).length=r.length/\okR (wrR r c t ink):=by
 have f:t.cps.toList.length=t.length:=rfl;refine⟨?_,λx hx=>?_⟩
 .unfold wrR;simp only[lX,lx,l8,m9]
  lia
 .have hx:=md hx;rcases ls.1 hx with hx|hx
  .rcases ls.1 hx with hx|hx
   .exact b x (md hx)
   .obtain⟨k,a,rfl⟩:=lH.1 hx;exact⟨k,(d k a).1,(d k a).2,rfl⟩
  .exact b x (nl hx)
def OkP.get{w h:Nat}{p:Pic6}(b:OkP w h p){r:Nat}(d:r<h):∃x,p[r]? =some x/\p.getD r []=x/\x.length=w/\okR x:=by
 have c:=b.len;have a:r<p.length:=⋯
 refine⟨p[r],lp a,?_,b.row _ (ny a)⟩;rw[lZ,lp a];rfl
def OkP.do{w h:Nat}{p:Pic6}(a:OkP w h p){d:Dd}(f:okDd w h d):OkP w h (doD w p d):=by
 have l:=a.len;have j:(yE w).length=w/\okR (yE w):=⟨by simp[yE],JV w⟩;cases d with
 |cut r m=>
  obtain⟨b,i⟩:=f;refine⟨?_,λx hx=>?_⟩
  .show(cutP w p r m).length=h;unfold cutP;simp only[lx,lX,m9,mf]
   lia
  .rcases ls.1 hx with hx|hx
   .rcases ls.1 hx with hx|hx
    .exact a.row x (md hx)
    .exact a.row x (nl hx)
   .rw[nR hx];exact j
 |put r m=>
  obtain⟨b,i⟩:=f;refine⟨?_,λx hx=>?_⟩
  .show(putP w p r m).length=h;unfold putP;simp only[lx,lX,m9,mf]
   lia
  .have hx:=md hx;rcases ls.1 hx with hx|hx
   .rcases ls.1 hx with hx|hx
    .exact a.row x (md hx)
    .rw[nR hx];exact j
   .exact a.row x (nl hx)
 |wr r c t ink=>
  obtain⟨b,i,k⟩:=f;obtain⟨x,_,e,s,q⟩:=a.get b;obtain⟨n,o⟩:=znW (ink:=ink) q k (by lia:c+t.length<=x.length);refine⟨by show(p.set _ _).length=h;rw[oy];exact l,λy g=>?_⟩;rcases List.mem_or_eq_of_mem_set g with g|rfl
  .exact a.row y g
  .rw[e];exact⟨n.trans s,o⟩
def ur.ne{q:Addr}{r:Rw6}{a:List Addr}(h:ur O b r)(c:O q=some (.lst (a.map W.own)))(d:a≠[]):b≠q:=by
 rintro rfl;rw[show O b=_ from h]at c;cases a with
 |nil=>exact d rfl
 |cons x xs=>cases r<;>simp at c
def Rws.far{d:List Addr}{p:Pic6}(h:Rws O d p)(f:b∉d)(o:OO):Rws (updO O b o) d p:=by
 induction h with
 |nil=>exact .nil
 |cons a c ih=>exact .cons (by unfold ur;rw[ze (λe=>f (by rw[e];exact lh))];exact a) (ih λm=>f (lg _ m))
def Rws.set{e:List Addr}{p:Pic6}(h:Rws O e p)(k:e.Nodup)(f:e[i]? =some b)(s:Rw6):Rws (updO O b (.lst ((s.map celD).map .d))) e (p.set i s):=by
 induction h generalizing i with
 |nil=>cases f
 |cons a c ih=>
  rename_i x y l m;obtain⟨g,j⟩:=ng.1 k;cases i with
  |zero=>cases f;exact .cons zd (Rws.far c g _)
  |succ i=>have hx:x≠b:=λz=>g (by rw[z];exact lE (by simpa using f));exact .cons (by unfold ur;rw[ze hx];exact a) (ih j (i:=i) (by simpa using f))
def OwnP.setRow{q:Addr}{a:List Addr}{p:Pic6}(h:OwnP O q a p)(j:a.Nodup)(c:a[i]? =some b)(s:Rw6):OwnP (updO O b (.lst ((s.map celD).map .d))) q a (p.set i s):=by
 have f:a≠[]:=λe=>by rw[e]at c;cases c
 obtain⟨r,_,g⟩:=Paired.getP h.2 c;exact⟨by rw[ze (Ne.symm (g.ne h.1 f))];exact h.1,Rws.set h.2 j c s⟩
abbrev wrS(r:Rw6)(c:Nat)(t:Str)(ink:Int)(i:Nat):Rw6:=r.take c++((t.cps.toList.take i).map λk=>((⟨#[k]⟩:Str),ink))++r.drop (c+i)
def zja(r:Rw6)(c:Nat)(t:Str)(ink:Int):wrS r c t ink 0 =r:=by simp[wrS]
def zdC{r:Rw6}{c:Nat}{t:Str}{ink:Int}(a:c+t.length<=r.length)(b:i<=t.length):(wrS r c t ink i).length=r.length:=by
 have d:t.cps.toList.length=t.length:=rfl;unfold wrS;simp only[lx,lX,l8,m9]
 lia
def zjb{r:Rw6}{c:Nat}{t:Str}{ink:Int}{k:Nat}(d:c+t.length<=r.length)(a:t.cps.toList[i]? =some k):(wrS r c t ink i).set (c+i) (⟨#[k]⟩,ink)=wrS r c t ink (i+1):=by
 have f:t.cps.toList.length=t.length:=rfl;have e:i<t.length:=by have:=(lv.1 a).1;lia
 have b:(r.take c++((t.cps.toList.take i).map λk=>((⟨#[k]⟩:Str),ink))).length=c+i:=by
  simp only[lx,lX,l8]
  lia
 unfold wrS;rw[List.set_append_right _ _ ⋯,b,Nat.sub_self,List.drop_eq_getElem_cons (by lia:c+i<r.length),List.set_cons_zero,nv,a];simp[Nat.add_assoc]
def zjc{r:Rw6}{c:Nat}{t:Str}{ink:Int}(a:c+t.length<=r.length):wrS r c t ink t.length=wrR r c t ink:=by
 have b:t.cps.toList.length=t.length:=rfl;have:=zdC (ink:=ink) a (ll t.length);unfold wrR;have e:wrS r c t ink t.length=r.take c++(t.cps.toList.map λk=>((⟨#[k]⟩:Str),ink))++r.drop (c+t.length):=by unfold wrS;rw[<-b,my]
 rw[<-e,<-this,my]
end L2
namespace Att
open PySem PySem.W PySem.Calls PyProof.Rows
def zjd{i:Int}(x:(WData.int i).layable=true):L2.Bt 1048576 i:=by
  have h:=(layableW_iff.mp x).2.2;simp only[WData.weight]at h;unfold L2.Bt;by_cases hi:i= 0
  · subst hi
    exact Nat.two_pow_pos _
  · have a:i.natAbs≠0:=f!"i"
    simp only[oj,hi,pO]at h;exact (Nat.log2_lt a).mp (by
      have e:(2:Nat) ^ 20=1048576:=∅
      omega)
def attB{l:OpenLaw}{q:Program}{c:List Str}{p:(Str->Option Value)->Heap->Prop}{s:World->Heap->Prop}{d:DefRec}
    (K:l.most=some n)(k:d.params.defaults=[])
    (call:∀ (w:World) (e b:Shared) (mg m:Str->Option Value) (j a:Addr) (vs:List Value) (ns:List Int),Ground q c [] p w e mg m b.heap->s w b.heap->mg d.name=some (.ref j)->
      b.heap.get? a=some { cls:=.type "list",data:=.seq vs.toArray }->IntsAre vs ns->ns.length<=n->(∀i∈ns,L2.Bt 1048576 i)->b.gens= #[]->
      codeAny (model l.prog w) callerA (.call (.ref j) ⟨[.ref a],[]⟩) (λr s'=>r=.ok (.ret (.bool true))/\OldK b.heap s'.heap/\s'.os=b.os/\AllBare s'.gens) b) :
    WalkO q c p s l.row.toRowW d [] (λf vs=>PySem.call f vs):=by
  intro w e b mg m G Y j o V P doc Q kV T R E u J F t v O L N U M S;cases Dflts.none u k;cases Dflts.noKw u;obtain⟨a,vs,ns,B,C,D,H,I⟩:=zf8 K L M;subst B;subst C;have g:∀i∈ns,L2.Bt 1048576 i:=λi h=>zjd (layableW_item (layableW_arg N _ lh) _ (lH.2 ⟨i,h,rfl⟩));refine enter_call (qE (call w e b mg m j a vs ns G Y J D H I g F) ?_);rintro r s' ⟨rfl,x,y,A⟩;refine⟨.inl ⟨.bool true,.bool true,[],rfl,λ_=>rfl,.bool true,zf9 l _,λ_=>⟨List.Pairwise.nil,λ_ z=>?_⟩⟩,x,y,A⟩;cases z
end Att
namespace L2
open PySem PySem.Spec PyProof.Rows
def walkW{l:PySem.W.OpenLaw}{k:Nat}{q:Program}{j:List Str}{E:(Str->Option Value)->Heap->Prop}{y:World->Heap->Prop}{d:DefRec}{K:Params->W.Frag}{s:SpW}(S:l.most=some n)(t:n<=1000)(p:d.params.defaults=[])(U:Room k callerA)
    (A:∀(w:World) (h:Heap),y w h->(K w.params).In h)
    (F:∀ (w:World) (mg:Str->Option Value) (o:Addr) (h:Heap),(K w.params).In h->h.Ns mainGlobals mg->mg d.name=some (.ref o)->
      ∃fd:FuncData,(∀(s:Shared) (u:Value),BindsTo s fd ⟨[u],[]⟩ [(x,u)])/\∀c:Heap,(K w.params).In c->c.Ns mainGlobals mg->FnOk l.prog w (K w.params) mg c CX0 k o fd [x] (liftSp (K w.params) s))
    (V:∀(ns:List Int) (O:OM) (R:WK),ns.length<=n->(∀i∈ns,Bt 1048576 i)->(∀O',R (.d (.bool true)) O')->s [.d (.list (ns.map .int))] O R) :
    PySem.W.WalkO q j E y l.row.toRowW d [] (λf vs=>PySem.call f vs):=by
  refine Att.attB S p λw C D mg mb o a vs ns G Y Q M P B m N=>?_;obtain⟨fd,I,J⟩:=F w mg o _ (A w _ Y) G.T.g Q;refine zhX (A w _ Y) G.T.g G.T.b G.T.builtins G.T.nolimit N M P (m7 B (m7 t ∅)) U J I (λH Z L=>?_) λ_ _ _ z=>z;refine⟨⟨H,λ_=>none,λ_=>none⟩,λ_=>none,[.d (.list (ns.map .int))],λw _=>w=.d (.bool true),?_,.cons ⟨a,_,rfl,L,JB ns⟩ .nil,V ns _ _ B m λ_=>rfl,?_⟩
  · exact⟨Same.refl _,λ_ _ e=>(by cases e),λ_ _ e=>(by cases e),λ_ _ e=>(by cases e),λ_ _ e=>(by cases e),λ_ _ e=>(by cases e),λ_ _ e=>(by cases e),λ_ _ _ _ _ _ _ e=>(by cases e)⟩
  · rintro Γ' O' X w v _ _ r rfl
    exact r
end L2
namespace K30
open PySem L2
set_option hygiene false
local macro_rules | `(tactic| walk_at "ln")=>do
 let r:=Lean.mkIdent `rfl
 `(tactic| first | (rintro _ _ _ ⟨$r:ident,_⟩;rfl) | (rintro _ _ _ ⟨_,$r:ident,_⟩;rfl) | (rintro _ _ _ ⟨_,_,$r:ident,_⟩;rfl) | (rintro _ _ _ ⟨_,_,_,$r:ident,_⟩;rfl) | (rintro _ _ _ ⟨_,_,_,_,$r:ident,_⟩;rfl) | (rintro _ _ _ ⟨_,_,_,_,_,$r:ident,_⟩;rfl) | (rintro _ _ _ ⟨_,_,_,_,_,_,$r:ident,_⟩;rfl) | (rintro _ _ _ ⟨_,_,_,_,_,_,_,$r:ident,_⟩;rfl) | (rintro _ _ _ ⟨_,_,_,_,_,_,_,_,$r:ident,_⟩;rfl) | (rintro _ _ _ ⟨_,_,_,_,_,_,_,_,_,$r:ident,_⟩;rfl) | (rintro _ _ _ ⟨_,_,_,_,_,_,_,_,_,_,$r:ident,_⟩;rfl) | (rintro _ _ _ ⟨_,_,_,_,_,_,_,_,_,_,_,$r:ident,_⟩;rfl) | (rintro _ _ _ ⟨_,_,_,_,_,_,_,_,_,_,_,_,$r:ident,_⟩;rfl) | (rintro _ _ _ ⟨_,_,_,_,_,_,_,_,_,_,_,_,_,$r:ident,_⟩;rfl))
local macro_rules | `(tactic| walk_at "ref") => do
  let f (s : String) : Lean.MacroM (Lean.TSyntax `tactic) := do
    let a ← (s.splitOn " ").toArray.mapM fun n => `(tactic| apply $(Lean.mkIdent n.toName))
    `(tactic| with_reducible first $[| $a:tactic]*)
  `(tactic| repeat' (first | $(← f "zaX Qm Qn zar Qo zas zeA zeB zaY QL zei zaZ zek zel zep zbf zie za2 zeK zaK zat"):tactic | exact zik (fun _=>rfl) | exact zez (fun _ _=>rfl) | exact zij (fun _ _=>rfl) | $(← f "Vx X8 Qr X9 zax Xp zeC Qp zaw Qq Vu QJ Qt zdk JO zc4 Va"):tactic | with_reducible exact zaI rfl | $(← f "zaO Qu Qv Vq Yr Ys Ve Vd zaz zeH za3 zaM zaA zic zeo zaN zeD zgJ zgI zda QP QS QK Zy Vs VF QV VE VG za0 Vy Vo RefPs.nil RefPs.cons zaG QG zj0 zdb za1 zg3 VB QO Vp zbm zdi zgY Vv Qx Vg Yi Vh Qy Qz QB Vi Vk Vj Yj Vm QN Vz QE zdh zbl Yk VA Vn Yl Ym Yn Yo zbA J3"):tactic))
local macro_rules | `(tactic| walk_at "wd") => do
  let f (s : String) : Lean.MacroM (Array (Lean.TSyntax ``Lean.Parser.Tactic.simpLemma)) := (s.splitOn " ").toArray.mapM fun n => `(Lean.Parser.Tactic.simpLemma| $(Lean.mkIdent n.toName):ident)
  let a ← f "zO nW mQ wC wOp vI0 vI wUn vU vEq vNe ZC qf y9 ug Zw wOr Yd wIf je vA wCs vB wCB vI2 yS qg qp uh yR uc qe km KA xN kn xH ofV uM List.set List.map yy List.append nz oX"
  let b ← ("zfa zbD zfb Q3 zbE VJ ziY ziZ zfc jq zi0 zi1 zi2 zi3".splitOn " ").toArray.mapM fun n => `(Lean.Parser.Tactic.simpLemma| ↓$(Lean.mkIdent n.toName):ident)
  let c ← f "ze9 ziN zbq Uv zeJ Xq zeL Uu KN KO zeI KQ ziF ziG QY ze5 wDf KR zeR zeP KM UF zeW UE zeX zO wC wOp vI0 vI wUn vU vEq vNe ZC qf zav QM ub zej zaJ wIn Xm ug Kv zem Kw wIf y9 Zw wOr Yd Qs je vA wCs Ye zay KH vB Ky Kx zaW wCB Vf Kz jf Yg Yh vI2 Xl KI yS qp KG k6 wBM zaH ja yR uc qe km xN kn xH QD QC Zx Vl qg uh zaD KB zaB Um Uo KC KE wLc zer zes Vr KJ bodyW yH yy ofV vOf scD XZ Zu Yc zU uM kj kZ tyD isI zZ oY wCR zet Vr qx sI1 sI2 sI3 jj k7 Up Xo jk KK yM zd yW ZA"
  `(tactic| ((try dsimp only [$a,*]);try simp [$b,*,$c,*]))
local macro_rules | `(tactic| walk_at "go") => do
  let i (s : String) := (s.splitOn " ").toArray.map fun n => Lean.mkIdent n.toName
  let a ← (i "zpI zoz zkd zpJ zoA goC znw zll zlm zoB znx zln zpK zoC zoD zoE zpL zpM zpN zpO zpP zpQ zoF zny zlo zoG znz znA zlp zoH znB zlq zoI zoJ zoK zoL znC zoN znH zpS zoO zpT zpU zpV znI zlr znJ zpW zoS zoT zpX zoV zoW zoX zoZ znL zo0 zpY zo1 zo2 zpZ zp0 zp1 zp2 zp3 zo3 zo4 zp5 zpc").mapM fun n => `(tactic| with_reducible refine $n ?_)
  let b ← (i "zfj").mapM fun n => `(tactic| with_reducible refine $n rfl ?_)
  let c ← (i "znG znK zls zo5 zo6 zo9 znQ znR").mapM fun n => `(tactic| with_reducible refine $n (by assumption) ?_)
  let d ← (i "zoP zoQ zhc znN znO znP").mapM fun n => `(tactic| with_reducible refine $n ?_ ?_)
  let e ← (i "zfl znM").mapM fun n => `(tactic| with_reducible refine $n (by assumption) (by assumption) ?_)
  let f ← (i "zoY zpa").mapM fun n => `(tactic| with_reducible refine $n (by assumption) ?_ ?_)
  let g ← (i "zp4").mapM fun n => `(tactic| with_reducible refine $n trivial ?_)
  let h ← (i "zo7").mapM fun n => `(tactic| with_reducible refine $n (by first |decide |omega) (by first |decide |omega) ?_)
  let j ← (i "zo8").mapM fun n => `(tactic| with_reducible refine $n (by first |decide |omega) ?_)
  let k ← (i "UR zdp zdq zhd JR zdr zhe zds US zdt zhf JS zdu zbI zbJ zdv zhg JT zdw zhh zdx UT zdy zhi JU zdz zbK zdA").mapM fun n => `(tactic| with_reducible refine $n T.st (by assumption) ?_)
  let l ← (i "UR zdp zdq zhd JR zdr zhe zds US zdt zhf JS zdu zbI zbJ zdv").mapM fun n => `(tactic| with_reducible refine $n T.st zd ?_)
  let m ← (i "zhg JT zdw zhh zdx UT zdy zhi JU zdz zbK zdA").mapM fun n => `(tactic| with_reducible refine qC $n T.st ?_)
  `(tactic| repeat (first $[| $a:tactic]* $[| $b:tactic]* $[| $c:tactic]* $[| $d:tactic]* $[| $e:tactic]* $[| $f:tactic]* $[| $g:tactic]* $[| $h:tactic]* $[| $j:tactic]* $[| $k:tactic]* $[| $l:tactic]* $[| $m:tactic]* | ((with_reducible refine zp6 ?_);(with_reducible apply znF);(focus (intro _ h;walk_at "go";exact h))) | ((with_reducible refine zp7 ?_);(with_reducible apply zpR);(focus (intro _ h;walk_at "go";exact h));(focus (intro _ h;walk_at "go";exact h))) | ((with_reducible refine zp8 ?_);(with_reducible apply zoM);focus rfl) | ((with_reducible refine zp9 ?_);(with_reducible apply zoU);(focus (intro _ h;walk_at "go";exact h)))))
local macro_rules | `(tactic| walk_at "rd")=>do
 let t:=Lean.mkIdent `T.st
 let g (h:Lean.Name):=#[].mapM fun n=>`(Lean.Parser.Tactic.simpLemma| ↓$(Lean.mkIdent n):ident $t $(Lean.mkIdent h))
 let a <- g `hx
 let b <- g `zd
 `(tactic| ((try dsimp only [zO,nW,mQ,wC,wOp,vI0,vI,wUn,vU,vEq,vNe,ZC,qf,y9,ug,Zw,wOr,Yd,wIf,je,vA,wCs,vB,wCB,vI2,yS,qg,qp,uh,yR,uc,qe,km,KA,xN,kn,xH,ofV,uM,List.set,List.map,yy,List.append,nz,oX]);try simp only [$a,*,$b,*,xi,yd,yI,xj,yJ,zY,yK,xm,ye,yL,yt,y7]))
local macro_rules | `(tactic| walk_at "rf7") => do
  let f (s : String) : Lean.MacroM (Lean.TSyntax `tactic) := do
    let a ← (s.splitOn " ").toArray.mapM fun n => `(tactic| apply $(Lean.mkIdent n.toName))
    `(tactic| with_reducible first $[| $a:tactic]*)
  `(tactic| repeat' (first | $(← f "zaX Qm Qn zar Qo zas zeA zeB zot zm3 zgG zgH zaY QL zei zaZ zek zel zep zie zaK za2 zm6 zbf zeK zat"):tactic | exact zik (fun _=>rfl) | exact zez (fun _ _=>rfl) | exact zij (fun _ _=>rfl) | $(← f "Vx X8 Qr X9 zax Xp zeC Qp zaw Qq Vu QJ Qt Va"):tactic | with_reducible exact zaI rfl | $(← f "zaO ziC zgU zk9 Qu Qv Vq Yr Ys Ve Vd zaz zlb zaM zaA zic zeo zaN zeD zeH za3 QP QS QK Zy Vs VF ziy QV VE VG za0 Vy Vo RefPs.nil RefPs.cons ziD zaG QG Vp za1 VB QO Vv Qx Vg Yi Vh Qy Qz QB Vi Vk Vj Yj Vm QN Vz QE Yk VA Vn Yl Ym Yn zeN Yo"):tactic))
local macro_rules | `(tactic| walk_at "wd7") => do
  let f (s : String) : Lean.MacroM (Array (Lean.TSyntax ``Lean.Parser.Tactic.simpLemma)) := (s.splitOn " ").toArray.mapM fun n => `(Lean.Parser.Tactic.simpLemma| $(Lean.mkIdent n.toName):ident)
  let a ← f "zO nW mQ wC wOp vI0 vI wUn vU vEq vNe ZC qf y9 ug Zw wOr Yd wIf je vA wCs vB wCB vI2 yS qg qp uh yR uc qe km KA xN kn xH ofV uM List.set List.map yy List.append nz oX"
  let b ← ("zfa zbD zfb Q3 zbE VJ ziY ziZ zfc jq zi0 zi1 zi2 zi3".splitOn " ").toArray.mapM fun n => `(Lean.Parser.Tactic.simpLemma| ↓$(Lean.mkIdent n.toName):ident)
  let c ← f "zeP znf zjY zj4 zgT znb zgV ze4 zj5 ze3 Xv zeR zj2 zeS zeT KR zm4 zO wC wOp vI0 vI wUn vU vEq vNe ZC qf zav QM ub zej zaJ wIn Xm ug Kv zem Uv zeJ Xq zeL KM Uu KN KO zeI Kw wIf y9 Zw wOr Yd Qs je vA wCs Ye zay KH vB Ky Kx wCB Vf Kz jf Yg Yh vI2 Xl KI yS qp KG k6 wBM zaH ja yR uc qe km xN kn xH QD QC Zx Vl qg uh zaD KB zaB Um Uo KC zgA KE wLc zer zes Vr KJ bodyW yH yy ofV vOf scD XZ Zu Yc zU uM kj kZ tyD isI zZ oY wCR zet Vr qx sI1 sI2 sI3 k7 yM zd yW"
  `(tactic| ((try dsimp only [$a,*]);try simp [$b,*,$c,*]))
local macro_rules | `(tactic| walk_at "rf8") => do
  let f (s : String) : Lean.MacroM (Lean.TSyntax `tactic) := do
    let a ← (s.splitOn " ").toArray.mapM fun n => `(tactic| apply $(Lean.mkIdent n.toName))
    `(tactic| with_reducible first $[| $a:tactic]*)
  `(tactic| repeat' (first | $(← f "zaX Qm Qn zar Qo zas zeA zeB zgG zgH zaY QL zei zaZ zek zel zep zbf zie za2 zeK zaK zat"):tactic | exact zik (fun _=>rfl) | exact zez (fun _ _=>rfl) | exact zij (fun _ _=>rfl) | $(← f "Vx X8 Qr X9 zax Xp zeC Qp zaw Qq Vu QJ Qt zdk JO zc4 Va"):tactic | with_reducible exact zaI rfl | $(← f "zaO Qu Qv Vq Yr Ys Ve Vd zaz zeH za3 zaM zaA zic zeo zaN zeD zgJ zgI zda QP QS QK Zy Vs VF QV VE VG za0 Vy Vo RefPs.nil RefPs.cons zaG QG zj0 zdb za1 zg3 VB QO Vp zbm zdi zgY Vv Qx Vg Yi Vh Qy Qz QB Vi Vk Vj Yj Vm QN Vz QE zdh zbl Yk VA Vn Yl Ym Yn Yo zbA J3"):tactic))
local macro_rules | `(tactic| walk_at "wd8") => do
  let f (s : String) : Lean.MacroM (Array (Lean.TSyntax ``Lean.Parser.Tactic.simpLemma)) := (s.splitOn " ").toArray.mapM fun n => `(Lean.Parser.Tactic.simpLemma| $(Lean.mkIdent n.toName):ident)
  let a ← f "zO nW mQ wC wOp vI0 vI wUn vU vEq vNe ZC qf y9 ug Zw wOr Yd wIf je vA wCs vB wCB vI2 yS qg qp uh yR uc qe km KA xN kn xH ofV uM List.set List.map yy List.append nz oX"
  let b ← ("zfa zbD zfb Q3 zbE VJ ziY ziZ zfc jq zi0 zi1 zi2 zi3".splitOn " ").toArray.mapM fun n => `(Lean.Parser.Tactic.simpLemma| ↓$(Lean.mkIdent n.toName):ident)
  let c ← f "ze9 ziN zbq Uv zeJ Xq zeL Uu KN KO zeI KQ ziF ziG QY ze5 wDf KR zeR zeP KM UF zeW UE zeX zO wC wOp vI0 vI wUn vU vEq vNe zeS zeT ZC qf zav QM ub zej zaJ wIn Xm ug Kv zem Kw wIf y9 Zw wOr Yd Qs je vA wCs Ye zay KH vB Ky Kx zaW wCB Vf Kz jf Yg Yh vI2 Xl KI yS qp KG k6 wBM zaH ja yR uc qe km xN kn xH QD QC Zx Vl qg uh zaD KB zaB Um Uo KC KE wLc zer zes Vr KJ bodyW yH yy ofV vOf scD XZ Zu Yc zU uM kj kZ tyD isI zZ oY wCR zet Vr qx sI1 sI2 sI3 jj k7 Up Xo jk KK yM zd yW ZA"
  `(tactic| ((try dsimp only [$a,*]);try simp [$b,*,$c,*]))
set_option hygiene true
abbrev top(i:Nat):Stmt:=PySem.Challenge.pw_signscreen_k30_signs_lead.main.body.getD i (.Pass ⟨0,0,0,0⟩)
/---/abbrev Sc(s:Stmt)(N:List Str)(k:Nat):Prop:=FnScope N (N.take k) (defScope s)
local macro_rules | `(tactic| walk_at "sc")=>`(tactic| exact⟨rfl,rfl,rfl,by decide +kernel,rfl,by decide +kernel,by decide +kernel⟩)
def XO:Sc (top 8) ["thing","least","most"] 3:=f!"s"
def UW:Sc (top 9) ["ink"] 1:=f!"s"
def UX:Sc (top 10) ["ink"] 1:=f!"s"
def XQ:Sc (top 11) ["ink"] 1:=f!"s"
def zhk:Sc (top 12) ["fore","back","marks"] 3:=f!"s"
def YG:Sc (top 13) ["ink","hue"] 2:=f!"s"
def YH:Sc (top 14) ["ink","hue"] 2:=f!"s"
def YI:Sc (top 15) ["ink","mark"] 2:=f!"s"
def j5:Sc (top 16) ["ink","mark"] 2:=f!"s"
def j6:Sc (top 17) ["ink"] 1:=f!"s"
def UY:Sc (top 22) ["wide","high"] 2:=f!"s"
def zbL:Sc (top 23) ["wide","ink"] 2:=f!"s"
def VM:Sc (top 24) ["wide","high","ink"] 3:=f!"s"
def JW:Sc (top 25) ["picture"] 1:=f!"s"
/---/abbrev vM:Stmt:=zL (top 28) 0
def qU:Sc vM ["self","wide","high"] 3:=f!"s"
/---/abbrev qD:Stmt:=zL (top 28) 1
def Zf:Sc qD ["self"] 1:=f!"s"
def Zg:Sc (top 29) ["wide"] 1:=f!"s"
def VO:Sc (top 30) ["state","top","bottom","left","right"] 1:=f!"s"
def j7:Sc (top 31) ["many"] 1:=f!"s"
def XR:Sc (top 32) ["state"] 1:=f!"s"
def zfo:Sc (top 34) ["state","letter","many","times","edge"] 3:=f!"s"
def j8:Sc (top 35) ["state"] 1:=f!"s"
def UZ:Sc (top 36) ["number","first","last"] 3:=f!"s"
def XS:Sc (top 37) ["state","row","column"] 3:=f!"s"
def U0:Sc (top 38) ["state"] 1:=f!"s"
def YM:Sc (top 39) ["state","many","right","step","ahead"] 2:=f!"s"
def zcC:Sc (top 40) ["state","many","left","step","behind"] 2:=f!"s"
def XT:Sc (top 41) ["state"] 1:=f!"s"
def zbM:Sc (top 42) ["state"] 1:=f!"s"
def Z0:Sc (top 43) ["state"] 1:=f!"s"
def qF:Sc (top 45) ["state","step","right","line","old","column","source","inside"] 2:=f!"s"
def YN:Sc (top 46) ["state","many"] 2:=f!"s"
def zbN:Sc (top 47) ["state","many"] 2:=f!"s"
def Kb:Sc (top 49) ["state","many","row_begin","behind"] 2:=f!"s"
def zlu:Sc (top 50) ["state","way","row_begin","row_end","cursor","picture_end","spans","span"] 2:=f!"s"
def zdD:Sc (top 53) ["state"] 1:=f!"s"
def jw:Sc (top 54) ["state","then"] 1:=f!"s"
def Kc:Sc (top 55) ["state"] 1:=f!"s"
def zjf:Sc (top 58) ["state","numbers","answers","number"] 2:=f!"s"
def jy:Sc (top 60) ["state","first","step","old","row","source","inside","column"] 3:=f!"s"
def U1:Sc (top 61) ["state","first","times"] 3:=f!"s"
def YQ:Sc (top 62) ["state","first","times"] 3:=f!"s"
def zlv:Sc (top 63) ["state","letter","many"] 3:=f!"s"
def YR:Sc (top 64) ["state","many"] 2:=f!"s"
def YS:Sc (top 65) ["state","many"] 2:=f!"s"
def Q7:Sc (top 67) ["first","last","size","begin","end"] 3:=f!"s"
def kJ:Sc (top 68) ["state","first","last","rows"] 3:=f!"s"
def uV:Sc (top 69) ["state","first","last","columns"] 3:=f!"s"
def zdE:Sc (top 70) ["ink","number"] 2:=f!"s"
def zbT:Sc (top 71) ["state","numbers","number"] 2:=f!"s"
def qH:Sc (top 72) ["state","numbers","on","turned_on","number"] 3:=f!"s"
def XU:Sc (top 74) ["state"] 1:=f!"s"
def XV:Sc (top 75) ["state","sign"] 2:=f!"s"
def zjg:Sc (top 76) ["state","many","turn"] 2:=f!"s"
def YT:Sc (top 78) ["numbers","place"] 2:=f!"s"
def ut:Sc (top 79) ["state","letter"] 2:=f!"s"
def Zh:Sc (top 80) ["state","letter","many"] 3:=f!"s"
def Zi:Sc (top 81) ["state","letter","first","second"] 4:=f!"s"
def Zj:Sc (top 82) ["state","letter","numbers"] 3:=f!"s"
/---/abbrev uu:Stmt:=zL (top 84) 0
def jA:Sc uu ["self","sign"] 2:=f!"s"
/---/abbrev YU:Stmt:=zL (top 84) 1
def U2:Sc YU ["self","state"] 2:=f!"s"
/---/abbrev YV:Stmt:=zL (top 85) 0
def zfq:Sc YV ["self","state"] 2:=f!"s"
/---/abbrev VQ:Stmt:=zL (top 86) 0
def zhl:Sc VQ ["self","state"] 2:=f!"s"
/---/abbrev uW:Stmt:=zL (top 87) 0
def j9:Sc uW ["self","letter","numbers"] 3:=f!"s"
/---/abbrev VR:Stmt:=zL (top 87) 1
def YW:Sc VR ["self","state","first"] 2:=f!"s"
/---/abbrev kL:Stmt:=zL (top 87) 2
def jB:Sc kL ["self","body"] 1:=f!"s"
def U3:Sc (top 88) ["read"] 1:=f!"s"
def jC:Sc (top 91) ["ink","marks"] 1:=f!"s"
def Zk:Sc (top 92) ["row","column"] 2:=f!"s"
def ka:Sc (top 93) ["letter","row","many"] 3:=f!"s"
def qL:Sc (top 94) ["deed"] 1:=f!"s"
def XW:Sc (top 95) ["way","row","column","ink","deeds"] 4:=f!"s"
def jE:Sc (top 100) ["sign"] 1:=f!"s"
def jF:Sc (top 101) ["sign"] 1:=f!"s"
def YY:Sc (top 102) ["body","parts"] 1:=f!"s"
def qM:Sc (top 103) ["sign"] 1:=f!"s"
/---/abbrev vn:Stmt:=zL (top 104) 0
def xY:Sc vn ["self"] 1:=f!"s"
/---/abbrev vp:Stmt:=zL (top 104) 1
def xZ:Sc vp ["self"] 1:=f!"s"
/---/abbrev qN:Stmt:=zL (top 104) 2
def uX:Sc qN ["self","text","found","sign"] 2:=f!"s"
/---/abbrev x0:Stmt:=zL (top 104) 3
def xP:Sc x0 ["self","sign","stood_alone"] 2:=f!"s"
/---/abbrev vN:Stmt:=zL (top 104) 4
def vq:Sc vN ["self","letter","numbers"] 2:=f!"s"
/---/abbrev vt:Stmt:=zL (top 106) 0
def qq:Sc vt ["self","wide","high"] 3:=f!"s"
/---/abbrev qO:Stmt:=zL (top 106) 1
def uY:Sc qO ["self","text","answers","read"] 2:=f!"s"
/---/abbrev xE:Stmt:=zL (top 106) 2
def vz:Sc xE ["self"] 1:=f!"s"
/---/abbrev uw:Stmt:=zL (top 106) 3
def jH:Sc uw ["self"] 1:=f!"s"
/---/abbrev vO:Stmt:=zL (top 106) 4
def qV:Sc vO ["self"] 1:=f!"s"
/---/abbrev vv:Stmt:=zL (top 106) 5
def qr:Sc vv ["self"] 1:=f!"s"
/---/abbrev uZ:Stmt:=zL (top 106) 6
def kd:Sc uZ ["self"] 1:=f!"s"
/---/abbrev uy:Stmt:=zL (top 106) 7
def jI:Sc uy ["self"] 1:=f!"s"
/---/abbrev xQ:Stmt:=zL (top 106) 8
def uz:Sc xQ ["self"] 1:=f!"s"
/---/abbrev x6:Stmt:=zL (top 106) 9
def uF:Sc x6 ["self"] 1:=f!"s"
/---/abbrev vw:Stmt:=zL (top 106) 10
def qt:Sc vw ["self"] 1:=f!"s"
def ke:Sc (top 108) ["_law_script","_law_k"] 2:=f!"s"
def qP:Sc (top 109) ["_law_script","_law_k","_law_number"] 2:=f!"s"
def XX:Sc (top 110) ["_law_number"] 1:=f!"s"
def jK:Sc (top 111) ["_law_number","_law_some"] 1:=f!"s"
def kP:Sc (top 112) ["_law_number","_law_wide","_law_row_here","_law_ink_here","_law_place"] 2:=f!"s"
def uA:Sc (top 113) ["_law_script","_law_first","_law_wide","_law_high","_law_rows","_law_k","_law_number","_law_row_here"] 4:=f!"s"
def Zl:Sc (top 115) ["_law_picture_here"] 1:=f!"s"
def kQ:Sc (top 116) ["_law_picture_here","_law_row_here","_law_many","_law_wide","_law_rows"] 3:=f!"s"
def kR:Sc (top 117) ["_law_picture_here","_law_row_here","_law_many","_law_wide","_law_fresh"] 3:=f!"s"
def jL:Sc (top 118) ["_law_picture_here","_law_deed_here","_law_rows","_law_k","_law_sign_here"] 2:=f!"s"
def vP:Sc (top 122) ["_law_script","_law_first","_law_wide","_law_high","_law_text","_law_k","_law_number","_law_a","_law_b","_law_rows"] 4:=f!"s"
def qR:Sc (top 123) ["_law_script","_law_first","_law_wide","_law_high","_law_way","_law_number","_law_met","_law_k","_law_more","_law_place","_law_size","_law_cells","_law_text"] 4:=f!"s"
def qS:Sc (top 124) ["_law_ink_here","_law_numbers"] 1:=f!"s"
def U4:Sc (top 125) ["_law_row_here","_law_column"] 2:=f!"s"
def jN:Sc (top 126) ["_law_script","_law_picture_here","_law_screen","_law_row_here","_law_cells","_law_column","_law_cell"] 2:=f!"s"
def qT:Sc (top 127) ["_law_way","_law_end","_law_text","_law_deed_here"] 2:=f!"s"
def zbU:Sc (top 128) ["_law_script","_law_number","_law_wide","_law_high","_law_picture_here","_law_screen","_law_kept","_law_way","_law_due","_law_deed_here","_law_end","_law_handed","_law_text","_law_other"] 1:=f!"s"
structure Txt (P:Program) (w:World) (K:W.Frag) (mg:Str->Option Value) (C bw:Addr):Prop where
 n_len:mg "len" =none
 n_range:mg "range" =none
 n_int:mg "int" =none
 n_bool:mg "bool" =none
 n_str:mg "str" =none
 n_dict:mg "dict" =none
 n_list:mg "list" =none
 n_tuple:mg "tuple" =none
 n_isinstance:mg "isinstance" =none
 n_sorted:mg "sorted" =none
 n_min:mg "min" =none
 n_max:mg "max" =none
 n_zip:mg "zip" =none
 n_repr:mg "repr" =none
 n_enumerate:mg "enumerate" =none
 g_WIDEST:∃t,mg "WIDEST" =some (.int 24 t)
 g_HIGHEST:∃t,mg "HIGHEST" =some (.int 12 t)
 g_TAB_STEP:∃t,mg "TAB_STEP" =some (.int 4 t)
 g_ALL_MARKS:∃t,mg "ALL_MARKS" =some (.int 448 t)
 g_MOST_KEPT:∃t,mg "MOST_KEPT" =some (.int 8 t)
 g_BITS_BY_MARK:∃a,mg "BITS_BY_MARK" =some (.ref a)/\DK K a [(0,64),(1,128),(2,256)]
 g_BITS_BY_WORD:mg "BITS_BY_WORD" =some (.ref bw)
 d_bw:DS P w K bw bitsD
 mgC:mg "State" =some (.ref C)
 st:Sta K C
/---/abbrev Txt.c{P:Program}{w:World}{K:W.Frag}{mg:Str->Option Value}{C bw:Addr}(_:Txt P w K mg C bw)(a:Heap)(n:Nat)(x:Str)(S:SpW):Prop:=Cal P w K mg a n x [] (liftSp K S)
/---/abbrev _root_.L2.Fun.k{P:Program}{w:World}{K:W.Frag}{mg:Str->Option Value}{C bw f:Addr}{x q:Str}{s:Stmt}{fd:FuncData}{N b:List Str}(_:Fun K x q s f fd)(_:Txt P w K mg C bw)(a:Heap)(n:Nat)(_:FnScope N b (defScope s))(S:SpW):Prop:=FnOk P w K mg a CX0 n f fd b (liftSp K S)
/---/abbrev _root_.L2.Fun.j{K:W.Frag}{f:Addr}{x q:Str}{s:Stmt}{fd:FuncData}{N b:List Str}(_:Fun K x q s f fd)(P:Program)(w:World)(mg:Str->Option Value)(a:Heap)(n:Nat)(_:FnScope N b (defScope s))(S:SpW):Prop:=FnOk P w K mg a CX0 n f fd b (liftSp K S)
section
variable {base:Heap}
def U5(F:Fun K "at_least_one" "at_least_one" (top 31) f fd)(T:Txt P w K mg C bw):F.k T base 1 j7 qx:=by
 apply F.okG j7 f!"l" (λb=>(za (zj (yA (zl V7 (pv 0) xh) zb (zH (Z6 rfl) (by rfl) T.n_max (by rfl) (QA.pa (qc zb (qc (pv 0) qn))))))))
 .walk_at "ref"
 rintro _ gQ _ O R ⟨n,rfl,a,h⟩;apply gQ;rcases a.cs with rfl|⟨i,rfl,h0,h1⟩
 .walk_at "wd";exact .inl h
 .walk_at "wd";exact .inl h
def zfs(F:Fun K "counted" "counted" (top 36) f fd)(T:Txt P w K mg C bw)(g:T.c base 1 "at_least_one" qx):F.k T base 2 UZ jj:=by
 apply F.okG UZ f!"l" (λe=>(za (zj (zH (jS rfl) (by rfl) T.n_min (by rfl) (QA.pa (qc (zf yi (zf zw (pv 1) (zg g e (qc (pv 0) qn))) zb) (qc (pv 2) qn)))))))
 .walk_at "ref"
 rintro _ gQ _ O R ⟨n,a,b,rfl,d,h⟩;apply gQ;walk_at "wd";exact⟨d,.inl h⟩
def Q9(F:Fun K "_law_cell_at" "_law_cell_at" (top 108) f fd)(T:Txt P w K mg C bw):F.k T base 1 ke k7:=by
 apply F.okG ke f!"l" (λb=>(zc (zn (zl Y8 (pv 1) (zH (xI (K:=K) rfl) (by rfl) T.n_len (by rfl) (QA.pa (qc (pv 0) qn)))) (za (zj (zp (xx (K:=K) rfl) (pv 0) (pv 1)))) zr) (za (zj zb))))
 .walk_at "ref"
 rintro _ gQ _ O R ⟨ns,k,rfl,h⟩;apply gQ;walk_at "wd";simp[lenW,zU,seqL];split
 .rename_i a;refine⟨_,uK (by rw[lw,lp a];rfl),.inl ?_⟩;rw[lZ,lp a]at h;exact h
 .rename_i a;rw[lZ,mh ⋯]at h;exact .inl h
def zcD(F:Fun K "is_whole" "is_whole" (top 8) f fd)(T:Txt P w K mg C bw):F.k T base 1 XO Up:=by
 apply F.okG XO f!"l" (λc=>(za (zj (V2 (zH (Yp (K:=K) rfl) (by rfl) T.n_isinstance (by rfl) (QA.pa (qc (pv 0) (qc (Qe (v:=.ty "int") (u:=.type "int") rfl T.n_int rfl rfl) qn)))) (V2 (zl0 (zH (Yp (K:=K) rfl) (by rfl) T.n_isinstance (by rfl) (QA.pa (qc (pv 0) (qc (Qe (v:=.ty "bool") (u:=.type "bool") rfl T.n_bool rfl rfl) qn))))) (V1 (uH yF yF (pv 1) (pv 0) (pv 2))))))))
 .walk_at "ref"
 rintro _ gQ _ O R ⟨n,lo,b,rfl,h⟩;apply gQ;walk_at "wd";split
 .rename_i a;simp[a]at h;exact .inl h
 .rename_i a;simp[a]at h;exact .inl h
def zft(F:Fun K "is_size" "is_size" (top 22) f fd)(T:Txt P w K mg C bw)(d:T.c base 1 "is_whole" Up):F.k T base 2 UY zjP:=by
 apply F.okG UY f!"l" (λe=>(za (zj (V2 (zg d e (qc (pv 0) (qc zb (qc (jU rfl T.g_WIDEST) qn)))) (V1 (zg d e (qc (pv 1) (qc zb (qc (jU rfl T.g_HIGHEST) qn)))))))))
 .walk_at "ref"
 rintro _ gQ _ O R ⟨a,b,rfl,j,l,m,n,h⟩;apply gQ;walk_at "wd";have g:(1:Int)<=a/\(a:Int)<=24:=⋯
 have i:(1:Int)<=b/\(b:Int)<=12:=⋯
 simp[g,i];exact .inl h
def zlw(F:Fun K "span" "span" (top 67) f fd)(T:Txt P w K mg C bw)(o:T.c base 1 "at_least_one" qx):F.k T base 2 Q7 Xo:=by
 have g:=Q7.nd;apply F.okG Q7 f!"l" (λl=>(zc (zo 3 g (zg o l (qc (pv 0) qn))) (zc (zo 4 g (yA (qm (K:=K) rfl (pv 1) (λ_=>rfl)) (zH (jS rfl) (by rfl) T.n_min (by rfl) (QA.pa (qc (pv 1) (qc (pv 2) qn)))) (pv 2))) (za (zj (yA (zl Kq (pv 3) (pv 4)) xh (zC (qc (zf yi (pv 3) zb) (qc (zf yi (pv 4) zb) qn)))))))))
 .walk_at "ref"
 rintro _ gQ _ O R ⟨n,m,s,rfl,b,j,h⟩;apply gQ;simp only[ue]at h;have a:∀E:Int,xV m s=E->if E<oneD n then Clo R (.d .none) O else Clo R (.d (.tuple [.int (oneD n-1),.int (E-1)])) O:=by
  rintro E rfl;split
  .rename_i e;rw[l9 e]at h;exact .inl h
  .rename_i e;rw[l7 e]at h;exact .inl h
 rcases j.cs with rfl|⟨i,rfl,h0,h1⟩
 .walk_at "wd";exact⟨b,a s rfl⟩
 .walk_at "wd";refine⟨b,?_⟩;by_cases hi:i= 0
  .first|exact .inl ⟨hi,a s (by simp[xV,hi])⟩|(rw[l9 hi];exact a s (by simp[xV,hi]))
  .first|exact .inr ⟨hi,a _ (by simp[xV,hi])⟩|(rw[l7 hi];exact a _ (by simp[xV,hi]))
def zfu(F:Fun K "fore_of" "fore_of" (top 9) f fd)(T:Txt P w K mg C bw):F.k T base 1 UW (sI1 (λ_=>True) λi=>Builtin.bitAnd i 7):=by
 apply F.okG UW f!"l" (λa=>(za (zj (zf V5 (pv 0) zb))))
 .walk_at "ref"
 rintro _ gQ _ O R ⟨n,rfl,_,h⟩;apply gQ;walk_at "wd";exact .inl h
def zfv(F:Fun K "back_of" "back_of" (top 10) f fd)(T:Txt P w K mg C bw):F.k T base 1 UX (sI1 (λ_=>True) λi=>Builtin.bitAnd (i / 8) 7):=by
 apply F.okG UX f!"l" (λa=>(za (zj (zf V5 (zf zfS (pv 0) zb) zb))))
 .walk_at "ref"
 rintro _ gQ _ O R ⟨n,rfl,_,h⟩;apply gQ;walk_at "wd";exact .inl h
def zcE(F:Fun K "marks_of" "marks_of" (top 11) f fd)(T:Txt P w K mg C bw):F.k T base 1 XQ (sI1 (λ_=>True) λi=>Builtin.bitAnd (i / 64) 7):=by
 apply F.okG XQ f!"l" (λa=>(za (zj (zf V5 (zf zfS (pv 0) zb) zb))))
 .walk_at "ref"
 rintro _ gQ _ O R ⟨n,rfl,_,h⟩;apply gQ;walk_at "wd";exact .inl h
def JX{d:Value}(F:FunD K "ink_of" "ink_of" (top 12) [d] f fd)(T:Txt P w K mg C bw):FnOk P w K mg base CX0 1 f fd ["fore","back","marks"] (liftSp K jk):=by
 apply F.okG zhk f!"l" (λk=>(za (zj (zf zw (zf zw (pv 0) (zf vT zb (pv 1))) (zf vT zb (pv 2))))))
 .walk_at "ref"
 rintro _ gQ _ O R ⟨a,b,c,rfl,⟨e,g,i,j⟩,h⟩;apply gQ;walk_at "wd";exact⟨mulL ⋯ ⋯,mulL ⋯ ⋯,.inl h⟩
def U6(F:Fun K "turned_marks" "turned_marks" (top 17) f fd)(T:Txt P w K mg C bw):F.k T base 1 j6 (sI1 (λ_=>True) λi=>Builtin.bitXor i 448):=by
 apply F.okG j6 f!"l" (λa=>(za (zj (zf zmb (pv 0) (jU rfl T.g_ALL_MARKS)))))
 .walk_at "ref"
 rintro _ gQ _ O R ⟨n,rfl,_,h⟩;apply gQ;walk_at "wd";exact .inl h
def zbV(F:Fun K "with_mark" "with_mark" (top 15) f fd)(T:Txt P w K mg C bw):F.k T base 1 YI (sI2 (λ_ _=>True) λi m=>Builtin.bitOr i ((yV [(0,64),(1,128),(2,256)] m).getD 0)):=by
 obtain⟨a,c,b⟩:=T.g_BITS_BY_MARK;apply F.okG YI f!"l" (λd=>(za (zj (zf zoc (pv 0) (zaP (K:=K) rfl (Y5 (v:=.ref a) (u:=.ref a) rfl c rfl) (QA.pa (qc (pv 1) (qc zb qn))))))))
 .walk_at "ref"
 rintro _ gQ _ O R ⟨n,m,rfl,_,h⟩;apply gQ;walk_at "wd";exact⟨_,b,.inl h⟩
def U7(F:Fun K "without_mark" "without_mark" (top 16) f fd)(T:Txt P w K mg C bw):F.k T base 1 j5 (sI2 (λ_ _=>True) λi m=>Builtin.bitAnd i (Builtin.bitNot ((yV [(0,64),(1,128),(2,256)] m).getD 0))):=by
 obtain⟨a,c,b⟩:=T.g_BITS_BY_MARK;apply F.okG j5 f!"l" (λd=>(za (zj (zf V5 (pv 0) (zdU zmc (zaP (K:=K) rfl (Y5 (v:=.ref a) (u:=.ref a) rfl c rfl) (QA.pa (qc (pv 1) (qc zb qn)))))))))
 .walk_at "ref"
 rintro _ gQ _ O R ⟨n,m,rfl,_,h⟩;apply gQ;walk_at "wd";exact⟨_,b,.inl h⟩
def zbW(F:Fun K "with_fore" "with_fore" (top 13) f fd)(T:Txt P w K mg C bw)(b:T.c base 1 "ink_of" jk)(e:T.c base 1 "back_of" (sI1 (λ_=>True) λi=>Builtin.bitAnd (i / 8) 7))(g:T.c base 1 "marks_of" (sI1 (λ_=>True) λi=>Builtin.bitAnd (i / 64) 7)) :
  F.k T base 2 YG (sI2 (λi _=>Ink i) λi h=>h+8*Builtin.bitAnd (i / 8) 7+64*Builtin.bitAnd (i / 64) 7):=by
 apply F.okG YG f!"l" (λa=>(za (zj (zg b a (qc (pv 1) (qc (zg e a (qc (pv 0) qn)) (qc (zg g a (qc (pv 0) qn)) qn)))))))
 .walk_at "ref"
 rintro _ gQ _ O R ⟨n,m,rfl,d,h⟩;apply gQ;have j:=zig d;have l:=JF d;walk_at "go";exact⟨_,_,_,rfl,⟨⋯,⋯,⋯,⋯⟩,.inl h⟩
def zbX(F:Fun K "with_back" "with_back" (top 14) f fd)(T:Txt P w K mg C bw)(b:T.c base 1 "ink_of" jk)(e:T.c base 1 "fore_of" (sI1 (λ_=>True) λi=>Builtin.bitAnd i 7))(g:T.c base 1 "marks_of" (sI1 (λ_=>True) λi=>Builtin.bitAnd (i / 64) 7)) :
  F.k T base 2 YH (sI2 (λi h=>Ink i/\0<=h/\h<=10) λi h=>Builtin.bitAnd i 7+8*h+64*Builtin.bitAnd (i / 64) 7):=by
 apply F.okG YH f!"l" (λa=>(za (zj (zg b a (qc (zg e a (qc (pv 0) qn)) (qc (pv 1) (qc (zg g a (qc (pv 0) qn)) qn)))))))
 .walk_at "ref"
 rintro _ gQ _ O R ⟨n,m,rfl,⟨d,l,o⟩,h⟩;apply gQ;have j:=JF d;walk_at "go";exact⟨_,_,_,rfl,⟨⋯,⋯,⋯,⋯⟩,.inl h⟩
def zlx(F:Fun K "dyed" "dyed" (top 70) f fd)(T:Txt P w K mg C bw)(wf:T.c base 1 "with_mark" (sI2 (λ_ _=>True) λi m=>Builtin.bitOr i ((yV [(0,64),(1,128),(2,256)] m).getD 0)))
  (j:T.c base 1 "without_mark" (sI2 (λ_ _=>True) λi m=>Builtin.bitAnd i (Builtin.bitNot ((yV [(0,64),(1,128),(2,256)] m).getD 0))))(l:T.c base 1 "turned_marks" (sI1 (λ_=>True) λi=>Builtin.bitXor i 448))
  (o:T.c base 2 "with_fore" (sI2 (λi _=>Ink i) λi h=>h+8*Builtin.bitAnd (i / 8) 7+64*Builtin.bitAnd (i / 64) 7))(p:T.c base 2 "with_back" (sI2 (λi h=>Ink i/\0<=h/\h<=10) λi h=>Builtin.bitAnd i 7+8*h+64*Builtin.bitAnd (i / 64) 7)) :
  F.k T base 3 zdE KK:=by
 apply F.okG zdE f!"l" (λb=>(zc (zn (PW.pt (v0 (zl V7 (pv 1) xh) (vZ (zl zx (pv 1) zb)))) (za (zj zb)) zr) (zc (zn (vF yF yF zb (pv 1) zb) (za (zj (zg wf b (qc (pv 0) (qc (zf yi (pv 1) zb) qn))))) zr) (zc (zn (vF yF yF zb (pv 1) zb) (za (zj (zg j b (qc (pv 0) (qc (zf yi (pv 1) zb) qn))))) zr) (zc (zn (zl zx (pv 1) zb) (za (zj (zg l b (qc (pv 0) qn)))) zr) (zc (zn (vF yF yF zb (pv 1) zb) (za (zj (zg o b (qc (pv 0) (qc (zf yi (pv 1) zb) qn))))) zr) (zc (zn (vF yF yF zb (pv 1) zb) (za (zj (zg p b (qc (pv 0) (qc (zf yi (pv 1) zb) qn))))) zr) (za (zj (pv 0))))))))))
 .walk_at "ref"
 rintro _ gQ _ O R ⟨ink,n,rfl,g,q,h⟩;apply gQ;rcases q.cs with rfl|⟨i,rfl,h0,h1⟩
 .walk_at "wd";exact .inl h
 .have a:∀v,dyeI ink (.int i)=v->Clo R (.d (.int v)) O:=λv e=>by rw[e]at h;exact .inl h
  walk_at "wd"
  repeat' split
  all_goals first
   |exact a _ (by simp only[dyeI];repeat' (first|rw[l9 f!"i"]|rw[l7 f!"i"]))
   |exact⟨g,a _ (by simp only[dyeI];repeat' (first|rw[l9 f!"i"]|rw[l7 f!"i"]))⟩
   |exact⟨g,f!"i",f!"i",a _ (by simp only[dyeI];repeat' (first|rw[l9 f!"i"]|rw[l7 f!"i"]))⟩
def zjh(F:Fun K "edges" "edges" (top 30) f fd)(T:Txt P w K mg C bw):F.k T base 1 VO (sEdges C):=by
 have a:=VO.nd;apply F.okG VO f!"l" (λc=>(zc (zo 1 a (yA (zl zjC (fl K (pv 0)) (fl K (pv 0))) (fl K (pv 0)) zb)) (zc (zo 2 a (yA (zl yF (fl K (pv 0)) (fl K (pv 0))) (fl K (pv 0)) (zf yi (fl K (pv 0)) zb))) (zc (zo 3 a (yA (zl zjC (fl K (pv 0)) (fl K (pv 0))) (fl K (pv 0)) zb)) (zc (zo 4 a (yA (zl yF (fl K (pv 0)) (fl K (pv 0))) (fl K (pv 0)) (zf yi (fl K (pv 0)) zb))) (za (zj (zC (qc (pv 1) (qc (pv 2) (qc (pv 3) (qc (pv 4) qn))))))))))))
 .walk_at "ref"
 rintro _ gQ _ O R ⟨x,dx,p,st,d,S,rfl,b,h⟩;apply gQ;have hx:=b.x;walk_at "go";exact .inl h
def zcF(F:Fun K "blank_of" "blank_of" (top 32) f fd)(T:Txt P w K mg C bw):F.k T base 1 XR (sBlankOf C):=by
 apply F.okG XR f!"l" (λb=>(za (zj (zC (qc zh (qc (fl K (pv 0)) qn))))))
 .walk_at "ref"
 rintro _ gQ _ O R ⟨x,dx,p,st,c,S,rfl,a,h⟩;apply gQ;have hx:=a.x;walk_at "go";exact .inl h
def zcG(F:Fun K "to_place" "to_place" (top 37) f fd)(T:Txt P w K mg C bw)(b:T.c base 2 "counted" jj):F.k T base 3 XS (sPlace C):=by
 apply F.okG XS f!"l" (λa=>(zc (zn (xy (fl K (pv 0))) (zc (fs K (pv 0) (zg b a (qc (pv 1) (qc (fl K (pv 0)) (qc (fl K (pv 0)) qn))))) (za (fs K (pv 0) (zg b a (qc (pv 2) (qc (fl K (pv 0)) (qc (fl K (pv 0)) qn))))))) (zc (fs K (pv 0) (zg b a (qc (pv 1) (qc zb (qc (zf yi (fl K (pv 0)) zb) qn))))) (za (fs K (pv 0) (zg b a (qc (pv 2) (qc zb (qc (zf yi (fl K (pv 0)) zb) qn)))))))) (za (fs K (pv 0) zT))))
 .walk_at "ref"
 rintro _ gQ _ O R ⟨r,c,a,g,x,dx,p,st,i,S,rfl,d,_,h⟩;apply gQ;have hx:=d.x;walk_at "go";refine UQ (λe=>?_) (λe=>?_)
 .walk_at "go";exact .inl (h _ (by rw[plS,l9 e];exact d.fld rfl rfl rfl) But.ux)
 .walk_at "go";exact .inl (h _ (by rw[plS,l7 (by rw[e];decide)];exact d.fld rfl rfl rfl) But.ux)
def zfw(F:Fun K "to_home" "to_home" (top 38) f fd)(T:Txt P w K mg C bw)(i:T.c base 3 "to_place" (sPlace C)):F.k T base 4 U0 (sHome C):=by
 apply F.okG U0 f!"l" (λd=>(za (zm (zg i d (qc (pv 0) (qc xh (qc xh qn)))))))
 .walk_at "ref"
 rintro _ gQ _ O R ⟨x,dx,p,st,g,S,rfl,e,_,h⟩;apply gQ;walk_at "go";exact⟨.none,.none,trivial,trivial,x,dx,p,st,g,S,rfl,e,trivial,λO' a b=>.inl (h O' a b)⟩
def zcH(F:Fun K "set_rows" "set_rows" (top 68) f fd)(T:Txt P w K mg C bw)(q:T.c base 2 "span" Xo)(o:T.c base 4 "to_home" (sHome C)):F.k T base 5 kJ (sRows C):=by
 have n:=kJ.nd;apply F.okG kJ f!"l" (λi=>(zc (zo 3 n (zg q i (qc (pv 1) (qc (pv 2) (qc (fl K (pv 0)) qn))))) (za (zn (zl zcU (pv 3) xh) (zc (fs K (pv 0) (zp (zt (K:=K) rfl) (pv 3) zb)) (zc (fs K (pv 0) (zp (zt (K:=K) rfl) (pv 3) zb)) (za (zm (zg o i (qc (pv 0) qn)))))) zr))))
 .walk_at "ref"
 rintro _ gQ _ O R ⟨a,b,r,s,x,dx,p,st,m,S,rfl,d,_,h⟩;apply gQ;have hx:=d.x;by_cases e:xV b S.h<oneD a
 .have g:ue a b S.h=.none:=by unfold ue;rw[l9 e]
  walk_at "go";exact Xw (by rw[g];rfl) (.inl (h _ (by rw[rowsS,l9 e];exact d) But.refl))
 .have g:ue a b S.h=.tuple [.int (oneD a-1),.int (xV b S.h-1)]:=by unfold ue;rw[l7 e]
  walk_at "go";rw[g];refine zfk rfl ?_;walk_at "go";exact⟨x,dx,p,st,m,_,rfl,d.fld rfl rfl rfl,trivial,λO' j l=>.inl (h O' (by rw[rowsS,l7 e];exact j) (But.ux.trans l))⟩
def Ja(F:Fun K "set_columns" "set_columns" (top 69) f fd)(T:Txt P w K mg C bw)(q:T.c base 2 "span" Xo)(o:T.c base 4 "to_home" (sHome C)):F.k T base 5 uV (sCols C):=by
 have n:=uV.nd;apply F.okG uV f!"l" (λi=>(zc (zo 3 n (zg q i (qc (pv 1) (qc (pv 2) (qc (fl K (pv 0)) qn))))) (za (zn (zl zcU (pv 3) xh) (zc (fs K (pv 0) (zp (zt (K:=K) rfl) (pv 3) zb)) (zc (fs K (pv 0) (zp (zt (K:=K) rfl) (pv 3) zb)) (za (zm (zg o i (qc (pv 0) qn)))))) zr))))
 .walk_at "ref"
 rintro _ gQ _ O R ⟨a,b,r,s,x,dx,p,st,m,S,rfl,d,_,h⟩;apply gQ;have hx:=d.x;by_cases e:xV b S.w<oneD a
 .have g:ue a b S.w=.none:=by unfold ue;rw[l9 e]
  walk_at "go";exact Xw (by rw[g];rfl) (.inl (h _ (by rw[colsS,l9 e];exact d) But.refl))
 .have g:ue a b S.w=.tuple [.int (oneD a-1),.int (xV b S.w-1)]:=by unfold ue;rw[l7 e]
  walk_at "go";rw[g];refine zfk rfl ?_;walk_at "go";exact⟨x,dx,p,st,m,_,rfl,d.fld rfl rfl rfl,trivial,λO' j l=>.inl (h O' (by rw[colsS,l7 e];exact j) (But.ux.trans l))⟩
def U8(F:Fun K "to_left_edge" "to_left_edge" (top 35) f fd)(T:Txt P w K mg C bw)(e:T.c base 1 "edges" (sEdges C)):F.k T base 2 j8 (sLeft C):=by
 apply F.okG j8 f!"l" (λb=>(zc (fs K (pv 0) (zp (zt (K:=K) rfl) (zg e b (qc (pv 0) qn)) zb)) (za (fs K (pv 0) zT))))
 .walk_at "ref"
 rintro _ gQ _ O R ⟨x,dx,p,st,d,S,rfl,a,_,h⟩;apply gQ;have hx:=a.x;walk_at "go";refine⟨x,dx,p,st,d,S,rfl,a,?_⟩;walk_at "go";exact .inl (h _ (a.fld rfl rfl rfl) But.ux)
def znX(F:Fun K "dye" "dye" (top 71) f fd)(T:Txt P w K mg C bw)(q:T.c base 3 "dyed" KK):F.k T base 4 zbT (sDye C):=by
 have A:=zbT.nd;apply F.okG zbT f!"l" (λt=>(za (yD m6 rfl (QH (K:=K) rfl (pv 1)) (zy (i:=2) A rfl (Or.inl rfl)) (za (fs K (pv 0) (zg q t (qc (fl K (pv 0)) (qc (pv 2) qn))))))))
 .walk_at "ref"
 rintro _ gQ _ O R ⟨ns,l,x,dx,p,st,z,S,rfl,u,r,h⟩;apply gQ;walk_at "go";refine zS.byG (λi ρ O'=>Ex1 λv=>An4 (ρ=[some (.own x),some (.d (.tuple ns)),v]) (StAt O' C x dx p st z (dyeS (ns.take i) S)) (Ink (dyeS (ns.take i) S).ink) (But O O' x p)) ⟨_,rfl,u,r,But.refl⟩ (λ_ _ _ _=>trivial) ?_ ?_
 .rintro i D _ gQ _ o g ⟨v,rfl,a,e,b⟩;refine gQ _ _ λB j=>?_;rw[lw]at g;cases hni:ns[i]? with
  |none=>rw[hni]at g;cases g
  |some n=>
   rw[hni]at g;cases g;have y:=a.x;have s:=l n (lE hni);walk_at "go";refine⟨_,_,rfl,e,s,?_⟩;walk_at "go";have m:ns.take (i+1)=ns.take i++[n]:=by rw[nv,hni];rfl
   refine j _ _ ⟨_,rfl,?_,?_,b.trans But.ux⟩
   .have:=a.fld (S':={ dyeS (ns.take i) S with ink:=dyeI (dyeS (ns.take i) S).ink n }) rfl rfl rfl;rw[m];simpa[dyeS,mT]using this
   .rw[m];simp only[dyeS,mT,mU,List.foldl_nil];exact zaS e
 .rintro ρ o ⟨v,rfl,a,_,b⟩;simp at a;exact .inl (h _ a b)
end
def zpf{ρ:WS}{R:WK}{g:Int->List Int->Int}{j:Nat}{ns:List Int}{d:Int}(e:ρ[i]? =some (some (.d (.list (ns.map .int)))))(f:ρ[j]? =some (some (.d (.int d))))(h:R (.d (.int (g d ns))) O):ze5 (wDf g) (vA (zO i) je) (vA (zO j) je) ρ O R:=zfj e (zfj f ⟨_,ns,d,rfl,rfl,ziK ns,h⟩)
def zke:∀{ns:List PyData},(∀n∈ns,NumD n)->inV (V.int 3) (ns.map vOf)=ns.any is3
 |[],_=>rfl
 |n::ns,h=>by
  have q:=h n (lh ..);have a:=zke (ns:=ns) λm b=>h m (lg _ b);cases n with
  |none=>simpa[inV,eqV,is3,vOf]using a
  |int k=>simp only[mY,is3,<-a];rfl
  |_=>exact q.elim
section
variable {base:Heap}
seal PE PS PSs PT PA in
def Kd(F:Fun K "turn_modes" "turn_modes" (top 72) f fd)(T:Txt P w K mg C bw)(M:T.c base 4 "to_home" (sHome C)):F.k T base 5 qH (sModesN C):=by
 have u:=qH.nd;apply F.okG qH f!"l" (λJ=>(zc (zo 3 u (UG zmv (pv 2) zT)) (zc (yD m6 rfl (QH (K:=K) rfl (pv 1)) (zy (i:=4) u rfl (Or.inl rfl)) (za (zn (zl zx (pv 4) zb) (za (fs K (pv 0) (pv 3))) (za (zn (zl zx (pv 4) zb) (za (fs K (pv 0) (pv 3))) (za (zn (zl zx (pv 4) zb) (za (fs K (pv 0) (pv 3))) zr))))))) (za (zn (Y9 (zeq (K:=K) rfl) zb (pv 1) (by with_unfolding_all rfl)) (za (zm (zg M J (qc (pv 0) qn)))) zr)))))
 .walk_at "ref"
 rintro _ gQ _ O R ⟨ns,on,m,x,dx,p,st,t,S,rfl,L,_,h⟩;apply gQ;have D:Yc true (.d (.bool on))=on:=by cases on<;>rfl
 walk_at "go";rw[D];refine zS.byG (λi ρ O'=>Ex1 λv=>An3 (ρ=[some (.own x),some (.d (.tuple ns)),some (.d (.bool on)),some (.d (.bool on)),v]) (But O O' x p) (StAt O' C x dx p st t ((ns.take i).foldl (modeP on) S))) ⟨_,rfl,But.refl,L⟩ (λ_ _ _ _=>trivial) ?_ ?_
 .rintro i N _ gQ _ y s ⟨v,rfl,b,a⟩;refine gQ _ _ λR2 l=>?_;rw[lw]at s;obtain⟨n,j,rfl⟩:=mW.mp s;have E:ns.take (i+1)=ns.take i++[n]:=by rw[nv,j];rfl
  have g:=λρ O'=>l ρ O';rw[E,mT]at g;have r:=a.x;generalize(ns.take i).foldl (modeP on) S=S1 at a r g;have o:=m n (lE j);cases n with
  |none=>walk_at "go";refine Xw rfl ?_;walk_at "go";refine Xw rfl ?_;walk_at "go";exact Xw rfl (g _ _ ⟨_,rfl,b,a⟩)
  |int k=>
   walk_at "go";refine j4 (λe=>?_) (λz=>?_)
   .subst e;walk_at "go";exact g _ _ ⟨_,rfl,b.trans But.ux,a.fld rfl rfl rfl⟩
   walk_at "go";refine j4 (λe=>?_) (λA=>?_)
   .subst e;walk_at "go";exact g _ _ ⟨_,rfl,b.trans But.ux,a.fld rfl rfl rfl⟩
   walk_at "go";refine j4 (λe=>?_) (λB=>?_)
   .subst e;walk_at "go";exact g _ _ ⟨_,rfl,b.trans But.ux,a.fld rfl rfl rfl⟩
   .exact g _ _ ⟨_,rfl,b,by simpa[modeP,z,A,B]using a⟩
  |_=>exact o.elim
 rintro ρ y ⟨v,rfl,b,a⟩;rw[l8,my]at a;walk_at "go";refine⟨.int 3,ns,rfl,rfl,rfl,?_,?_⟩
 .rw[mZ];intro n I;have q:=m n I;cases n<;>first|rfl|exact q.elim
 show zfg _ (.d (.bool (inV (V.int 3) (ns.map vOf)))) _;rw[zke m];unfold modesS at h;walk_at "go";refine UQ (λe=>?_) (λe=>?_)
 .rw[l9 e]at h;walk_at "go";exact⟨x,dx,p,st,t,_,rfl,a,trivial,λO' G H=>.inl (h O' G (b.trans H))⟩
 .rw[l7 (by rw[e];decide)]at h;exact .inl (h _ a b)
seal PE PS PSs PT PA in
def Ke(F:Fun K "take_stops" "take_stops" (top 43) f fd)(T:Txt P w K mg C bw):F.k T base 1 Z0 (sStop C clrS):=by
 apply F.okG Z0 f!"l" (λb=>(za (zm (zc7 (K:=K) rfl oF PySem.F.slot_dict_clear PySem.F.type_dict_clear zgg (fl K (pv 0))))))
 .walk_at "ref"
 rintro _ gQ _ O R ⟨x,dx,p,st,c,S,rfl,a,h⟩;apply gQ;have hx:=a.x;have hst:=a.st;walk_at "rd"
 try walk_at "wd"
 try walk_at "!hx hst ZA"
 exact⟨.inr (.inr ⟨rfl,st,_,rfl,hst⟩),.inl (h _ ⟨by rw[ze a.xs];exact a.x,by rw[ze a.ps];exact a.p,by rw[zd];rfl,by rw[ze (neW a.kp a.st (by intro h;cases h))];exact a.kp⟩ (ButO.upd m!""))⟩
seal PE PS PSs PT PA in
def zhm(F:Fun K "on_tab" "on_tab" (top 39) f fd)(T:Txt P w K mg C bw)(L:T.c base 1 "edges" (sEdges C))(J:T.c base 1 "at_least_one" qx):F.k T base 2 YM (ziM C tabS):=by
 have A:=YM.nd;apply F.okG YM f!"l" (λD=>(zc (zo 2 A (zp (zt (K:=K) rfl) (zg L D (qc (pv 0) qn)) zb)) (zc (yD m6 rfl (yl rfl T.n_range (QA.pa (qc (zg J D (qc (pv 1) qn)) qn))) (zy (i:=3) A rfl (Or.inl rfl)) (zc (zm8 (X3 (i:=4) A rfl rfl (xM (N:=["column","right","state"]) (n:=1) (js:=[2,0])) rfl (zk8 (fl K (pv 0))) (λ_ _ _ _=>(zy (i:=0) (show List.Nodup (["column","right","state"]:List Str)by decide +kernel) rfl (Or.inl rfl))) (λ_ _ _ _=>(Xf (vF Y8 Y8 (fl K (pv 2)) (pv 0) (pv 1)))) (λ_ _ _ _=>(pv 0)))) (za (fs K (pv 0) (zgk (ks:=["default"]) (ziH (K:=K) rfl rfl) (by rfl) T.n_min (by rfl) (QA.pa (qc (pv 4) qn)) (zkt (pv 2) zmh)))))) (za (fs K (pv 0) zT)))))
 .walk_at "ref"
 rintro _ gQ _ O R ⟨n,B,x,dx,p,st,t,S,rfl,E,⟨Q,H⟩,h⟩;apply gQ;have V:=vV (n:=n);have W:=Xn B;generalize hee:eR S=ee at *;refine KS [some (.own x),some (.d n),some (.d (.int ee)),none,none] (λG l=>?_) ?_
 .walk_at "wd";exact⟨x,dx,p,st,t,S,rfl,E,_,rfl,_,rfl,by rw[hee];exact l⟩
 refine yO (λe O'=>Ex2 λg j=>An3 (e=[some (.own x),some (.d n),some (.d (.int ee)),g,j]) (But O O' x p) (StAt O' C x dx p st t (ziL S (itF (fwd S.stops ee) (oneD n).toNat S.col)))) (λG l=>?_) ?_
 .walk_at "wd";refine⟨B,⋯,⋯,?_⟩;refine zS.rngG (f:=λi=>(i:Int)) (λi ρ O'=>Ex2 λg j=>An3 (ρ=[some (.own x),some (.d n),some (.d (.int ee)),g,j]) (But O O' x p) (StAt O' C x dx p st t (ziL S (itF (fwd S.stops ee) i S.col)))) ⟨_,_,rfl,But.refl,E⟩ ?_ ?_
  .rintro i _ gQ _ s U ⟨g,j,rfl,q,a⟩;refine gQ _ _ λR2 v=>?_;have r:∀e O',(Ex2 λg j=>An3 (e=[some (.own x),some (.d n),some (.d (.int ee)),g,j]) (But O O' x p) (StAt O' C x dx p st t (ziL S (fwd S.stops ee (itF (fwd S.stops ee) i S.col)))))->R2 e O':=v;generalize itF (fwd S.stops ee) i S.col=c at a r;have m:=a.x;have b:s st=some (.dK (stK S.stops)):=a.st;refine KS [some (.own x),some (.d n),some (.d (.int ee)),some (.d (.int i)),some (.d (.list ((ziJ c ee S.stops).map .int)))] (λM y=>?_) ?_
   .walk_at "wd";refine⟨st,S.stops,b,C,dx,_,m,T.st.cl,T.st.n_stops,_,yr,st,rfl,S.stops,b,λo=>⟨H,VH c ee,λz hz us I=>?_,?_⟩⟩
    .match us,I with
     |[u],_=>have hx3:updO s st (.raw (zbk S.stops o)) x=_:=(ze a.xs).trans m;walk_at "!hx3";exact zle
    .rw[JN,yW,<-QT b];exact⟨⟨o,zd⟩,y⟩
   walk_at "go";refine zpf rfl rfl ?_;walk_at "go";exact r _ _ ⟨_,_,rfl,q.trans But.ux,a.fld rfl rfl rfl⟩
  .rintro _ s ⟨g,j,rfl,q,a⟩;exact l _ _ ⟨_,_,rfl,q,a⟩
 rintro _ gQ _ s ⟨g,j,rfl,q,a⟩;apply gQ;have m:=a.x;walk_at "go";subst hee;exact .inl (h _ (a.fld rfl rfl rfl) (q.trans But.ux))
end
def _root_.L2.StAt.keptTo{x st a:Addr}(s:StAt O C x dx p st a S)(ks:List KP):StAt (updO O a (.lst ((ks.map kpT).map .d))) C x dx p st a { S with kept:=ks }:=
 ⟨by rw[ze s.xk];exact s.x,by rw[ze s.pk];exact s.p,by rw[ze (neW s.st s.kp (by intro h;cases h))];exact s.st,zd⟩
def zqb{c:Nat}:((⟨#[c]⟩:Str)=s!"u")=(c= 117):=by rw[show s!"u" =⟨#[117]⟩by decide +kernel];simp
def zqc{c:Nat}:((⟨#[c]⟩:Str)=s!"d")=(c= 100):=by rw[show s!"d" =⟨#[100]⟩by decide +kernel];simp
inductive sGoP (C:Addr) (ws:List W) (O:OM) (R:WK):Prop
 |mk:∀c n,c= 100->NumD n->sSt C [.d (.str ⟨#[c]⟩),.d n] (λ_=>True) (λS=>offS (goS c (oneD n) S)) ws O R->sGoP C ws O R
section
variable {base:Heap}
def zpg(F:Fun K "go" "go" (top 34) f fd)(T:Txt P w K mg C bw)(i:T.c base 1 "at_least_one" qx)(j:T.c base 1 "edges" (sEdges C)):F.k T base 2 zfo (sGoP C):=by
 have d:=zfo.nd;apply F.okG zfo f!"l" (λb=>(zc (zo 3 d (zg i b (qc (pv 2) qn))) (zc (zo 4 d (zg j b (qc (pv 0) qn))) (zc (zn (zl zx (pv 1) zh) (za (fs K (pv 0) (zH (Z6 rfl) (by rfl) T.n_max (by rfl) (QA.pa (qc (zf yi (fl K (pv 0)) (pv 3)) (qc (zp (zt (K:=K) rfl) (pv 4) zb) qn)))))) (za (zn (zl zx (pv 1) zh) (za (fs K (pv 0) (zH (jS rfl) (by rfl) T.n_min (by rfl) (QA.pa (qc (zf zw (fl K (pv 0)) (pv 3)) (qc (zp (zt (K:=K) rfl) (pv 4) zb) qn)))))) (za (zn (zl zx (pv 1) zh) (za (fs K (pv 0) (zH (Z6 rfl) (by rfl) T.n_max (by rfl) (QA.pa (qc (zf yi (fl K (pv 0)) (pv 3)) (qc (zp (zt (K:=K) rfl) (pv 4) zb) qn)))))) (za (zn (zl zx (pv 1) zh) (za (fs K (pv 0) (zH (jS rfl) (by rfl) T.n_min (by rfl) (QA.pa (qc (zf zw (fl K (pv 0)) (pv 3)) (qc (zp (zt (K:=K) rfl) (pv 4) zb) qn)))))) zr))))))) (za (fs K (pv 0) zT))))))
 .walk_at "ref"
 rintro _ gQ _ O R ⟨c,n,e,l,x,dx,p,st,g,S,rfl,a,_,h⟩;apply gQ;subst e;have hx:=a.x;walk_at "go";refine⟨x,dx,p,st,g,S,rfl,a,?_⟩;walk_at "go";refine Xw (lR (by rw[zqb];decide)) ?_;walk_at "go";refine zfk (lM (by rw[zqc])) ?_;walk_at "go";exact .inl (h _ (a.fld rfl rfl rfl) But.ux)
def znY{ks:List KP}:(ks.map kpT).map W.d++[W.d (.tuple [.int S.row,.int S.col,.bool S.late,.int S.ink,.bool S.wrap,.bool S.putting,.bool S.home])]=((ks++[ZF S]).map kpT).map W.d:=by simp[ZF,kpT]
def zly(F:Fun K "keep" "keep" (top 53) f fd)(T:Txt P w K mg C bw):F.k T base 1 zdD (sKeep C keepS):=by
 apply F.okG zdD f!"l" (λy=>(zc (zm (yz (K:=K) rfl m5 mo mr xF (fl K (pv 0)) (QA.pa (qc (zC (qc (fl K (pv 0)) (qc (fl K (pv 0)) (qc (fl K (pv 0)) (qc (fl K (pv 0)) (qc (fl K (pv 0)) (qc (fl K (pv 0)) (qc (fl K (pv 0)) qn)))))))) qn)))) (za (zn (zl Kq (zH (xI (K:=K) rfl) (by rfl) T.n_len (by rfl) (QA.pa (qc (fl K (pv 0)) qn))) (jU rfl T.g_MOST_KEPT)) (za (zm (yz (K:=K) rfl m5 PySem.F.slot_list_pop PySem.F.type_list_pop zhW (fl K (pv 0)) (QA.pa (qc zb qn))))) zr))))
 .walk_at "ref"
 rintro _ gQ _ O R ⟨x,dx,p,st,t,S,rfl,c,v,h⟩;apply gQ;have hx:=c.x;have r:=c.kp;refine yO (λo O'=>o=yy ["state"] [.own x]/\updO O t (.lst (((S.kept++[ZF S]).map kpT).map .d))=O') (λu i=>?_) ?_
 .walk_at "go"
  .rw[znY];exact i _ _ ⟨rfl,rfl⟩
  .simp;lia
 rintro _ gQ _ _ ⟨rfl,rfl⟩;apply gQ;have m:=c.keptTo (S.kept++[ZF S]);have s:=m.x;have j:=m.kp;walk_at "go";refine j4 (λg=>?_) (λg=>?_)
 .have b:¬S.kept.length<8:=by simp at g;lia
  have q:(((S.kept++[ZF S]).map kpT).map W.d).eraseIdx 0 =(((S.kept.drop 1)++[ZF S]).map kpT).map W.d:=by
   cases hkk:S.kept with
   |nil=>rw[hkk]at b;exact absurd ∅ b
   |cons a l=>rfl
  have e:keepS S= { S with kept:=S.kept.drop 1++[ZF S] }:=by unfold keepS;rw[l7 b]
  walk_at "go";refine zlt (n:=0) j (.inl ?_) (lp m!"") ∅;rw[yW,q];exact h _ (e▸c.keptTo _) (ButO.upd m!"")
 .have b:S.kept.length<8:=by simp at g;lia
  have e:keepS S= { S with kept:=S.kept++[ZF S] }:=by unfold keepS;rw[l9 b]
  exact .inl (h _ (e▸m) (ButO.upd m!""))
def zbY(F:Fun K "take_back" "take_back" (top 54) f fd)(T:Txt P w K mg C bw):F.k T base 1 jw (sKeep C backS):=by
 have m:=jw.nd;apply F.okG jw f!"l" (λo=>(za (zn (qm (K:=K) rfl (fl K (pv 0)) (λ_=>rfl)) (zc (zo 1 m (zc7 (K:=K) rfl m5 PySem.F.slot_list_pop PySem.F.type_list_pop zmp (fl K (pv 0)))) (zc (fs K (pv 0) (zp (zt (K:=K) rfl) (pv 1) zb)) (zc (fs K (pv 0) (zp (zt (K:=K) rfl) (pv 1) zb)) (zc (fs K (pv 0) (zp (zt (K:=K) rfl) (pv 1) zb)) (zc (fs K (pv 0) (zp (zt (K:=K) rfl) (pv 1) zb)) (zc (fs K (pv 0) (zp (zt (K:=K) rfl) (pv 1) zb)) (zc (fs K (pv 0) (zp (zt (K:=K) rfl) (pv 1) zb)) (za (fs K (pv 0) (zp (zt (K:=K) rfl) (pv 1) zb)))))))))) zr)))
 .walk_at "ref"
 rintro _ gQ _ O R ⟨x,dx,p,st,q,S,rfl,b,n,h⟩;apply gQ;have hx:=b.x;have g:=b.kp;walk_at "go";refine UQ (λe=>?_) (λe=>?_)
 .cases hl:S.kept[S.kept.length-1]? with
  |none=>
   cases hkk:S.kept with
   |nil=>rw[hkk]at e;cases e
   |cons a l=>rw[hkk]at hl;simp at hl
  |some k=>
   have c:backS S= { S with row:=k.row,col:=k.col,late:=k.late,ink:=k.ink,wrap:=k.wrap,putting:=k.putting,home:=k.home,kept:=S.kept.dropLast }:=by unfold backS;rw[hl]
   have i:=b.keptTo S.kept.dropLast;have j:=i.x;walk_at "go";refine zpb (w:=.d (.tuple [.int k.row,.int k.col,.bool k.late,.int k.ink,.bool k.wrap,.bool k.putting,.bool k.home])) g ?_ (by simp[hl,kpT]);rw[<-List.map_dropLast,<-List.map_dropLast];walk_at "go";exact .inl (h _ (c▸i.fld rfl rfl rfl) ((ButO.upd m!"").trans (ButO.upd m!"")))
 .have c:backS S=S:=by
   cases hkk:S.kept with
   |nil=>unfold backS;rw[hkk];rfl
   |cons a l=>rw[hkk]at e;cases e
  exact .inl (h _ (by rw[c];exact b) ButO.refl)
end
/---/abbrev ls30:List Nat:=[109,77,111,102,99,103,107,105,100,118,122,116,85,121]
abbrev sNo:SpW:=λ_ _ _=>False
def uE{a:Heap}{b:List Str}:FnOk P w K mg a CX0 1 f fd b (liftSp K sNo):=⟨λ_ _ _ _ ⟨_,_,_,_,_,_,h,_⟩=>h.elim,λ_ _ _ _ _ _ _ _ _ _ _ _ _ ⟨_,_,_,_,_,_,h,_⟩=>h.elim⟩
inductive sDo (C:Addr) (L:List Nat) (g:PyData->PyData->List PyData->List W) (ws:List W) (O:OM) (R:WK):Prop
 |mk:∀n c a b ns x dx p st h S,ws=.own x :: .d (.str ⟨#[c]⟩)::g a b ns->n<=90->c∈ls30->NumD a->NumD b->(∀m∈ns,NumD m)->StAt O C x dx p st h S->Good n S->(∀f e O',Nxt O O' C x dx p st h f e (opt L c (actS c a b ns) S)->R (.d .none) O')->sDo C L g ws O R
section
variable {R:WK}{x st kp:Addr}{a b:PyData}{ns:List PyData}(hn:n<=90)(ha:NumD a)(hb:NumD b)(hns:∀m∈ns,NumD m)(hs:StAt O C x dx p st kp S)(hG:Good n S)
include hn ha hb hns hs hG
def zqd(h':∀b a O',Nxt O O' C x dx p st kp b a (stopS S)->R (.d .none) O'):sSetStop C [.own x] O (λ_ c=>Clo R (.d .none) c):=⟨x,dx,p,st,kp,S,rfl,hs,by have:=hG.s;omega,λO' e f=>.inl (h' _ _ O' (.of e f m!""))⟩
def zqe(h':∀b a O',Nxt O O' C x dx p st kp b a (clrS S)->R (.d .none) O'):sStop C clrS [.own x] O (λ_ c=>Clo R (.d .none) c):=⟨x,dx,p,st,kp,S,rfl,hs,λO' e f=>.inl (h' _ _ O' (.of e f m!""))⟩
def zqf(h':∀b a O',Nxt O O' C x dx p st kp b a (keepS S)->R (.d .none) O'):sKeep C keepS [.own x] O (λ_ c=>Clo R (.d .none) c):=⟨x,dx,p,st,kp,S,rfl,hs,hG.k.1,λO' e f=>.inl (h' _ _ O' (.of e f m!""))⟩
def zqg(h':∀b a O',Nxt O O' C x dx p st kp b a (backS S)->R (.d .none) O'):sKeep C backS [.own x] O (λ_ c=>Clo R (.d .none) c):=⟨x,dx,p,st,kp,S,rfl,hs,hG.k.1,λO' e f=>.inl (h' _ _ O' (.of e f m!""))⟩
def zqh(h':∀e c O',Nxt O O' C x dx p st kp e c (tabS (oneD a).toNat S)->R (.d .none) O'):ziM C tabS [.own x,.d a] O (λ_ f=>Clo R (.d .none) f):=⟨a,ha,x,dx,p,st,kp,S,rfl,hs,⟨hG.b,by have:=hG.s;lia⟩,λO' g h=>.inl (h' _ _ O' (.xp g h))⟩
def zqi(h':∀e c O',Nxt O O' C x dx p st kp e c (lineS (-(oneD a)) S)->R (.d .none) O'):sPutL C [.own x,.d a] O (λ_ f=>Clo R (.d .none) f):=⟨a,ha,x,dx,p,st,kp,S,rfl,hs,hG.b,λO' g h=>.inl (h' _ _ O' (.xp g h))⟩
def zqj(h':∀e c O',Nxt O O' C x dx p st kp e c (lineS (oneD a) S)->R (.d .none) O'):sCutL C [.own x,.d a] O (λ_ f=>Clo R (.d .none) f):=⟨a,ha,x,dx,p,st,kp,S,rfl,hs,hG.b,λO' g h=>.inl (h' _ _ O' (.xp g h))⟩
def zqk(h':∀e c O',Nxt O O' C x dx p st kp e c (plS a b S)->R (.d .none) O'):sPlace C [.own x,.d a,.d b] O (λ_ f=>Clo R (.d .none) f):=⟨a,b,ha,hb,x,dx,p,st,kp,S,rfl,hs,trivial,λO' g h=>.inl (h' _ _ O' (.xp g h))⟩
def zql(h':∀e c O',Nxt O O' C x dx p st kp e c (rowsS a b S)->R (.d .none) O'):sRows C [.own x,.d a,.d b] O (λ_ f=>Clo R (.d .none) f):=⟨a,b,ha,hb,x,dx,p,st,kp,S,rfl,hs,trivial,λO' g h=>.inl (h' _ _ O' (.xp g h))⟩
def zqm(h':∀e c O',Nxt O O' C x dx p st kp e c (colsS a b S)->R (.d .none) O'):sCols C [.own x,.d a,.d b] O (λ_ f=>Clo R (.d .none) f):=⟨a,b,ha,hb,x,dx,p,st,kp,S,rfl,hs,trivial,λO' g h=>.inl (h' _ _ O' (.xp g h))⟩
def zqn(h':∀c a O',Nxt O O' C x dx p st kp c a (dyeS ns S)->R (.d .none) O'):sDye C [.own x,.d (.tuple ns)] O (λ_ e=>Clo R (.d .none) e):=⟨ns,hns,x,dx,p,st,kp,S,rfl,hs,⟨hG.b.i0,hG.b.i1⟩,λO' f g=>.inl (h' _ _ O' (.xp f g))⟩
def zqo(h':∀b a O',Nxt O O' C x dx p st kp b a (modesS ns true S)->R (.d .none) O'):sModesN C [.own x,.d (.tuple ns),.d (.bool true)] O (λ_ c=>Clo R (.d .none) c):=⟨ns,true,hns,x,dx,p,st,kp,S,rfl,hs,trivial,λO' e f=>.inl (h' _ _ O' (.xp e f))⟩
def zqp(h':∀b a O',Nxt O O' C x dx p st kp b a (modesS ns false S)->R (.d .none) O'):sModesN C [.own x,.d (.tuple ns),.d (.bool false)] O (λ_ c=>Clo R (.d .none) c):=⟨ns,false,hns,x,dx,p,st,kp,S,rfl,hs,trivial,λO' e f=>.inl (h' _ _ O' (.xp e f))⟩
end
section
variable {base:Heap}
seal PE PS PSs PT PA in
def zbZ(F:Fun K "take_stop" "take_stop" (top 42) f fd)(T:Txt P w K mg C bw):F.k T base 1 zbM sNo:=by
 exact uE
seal PE PS PSs PT PA in
def Kf(F:Fun K "begin_anew" "begin_anew" (top 55) f fd)(T:Txt P w K mg C bw):F.k T base 1 Kc sNo:=by
 exact uE
seal PE PS PSs PT PA in
def zcI(F:Fun K "back_tab" "back_tab" (top 40) f fd)(T:Txt P w K mg C bw):F.k T base 1 zcC sNo:=by
 exact uE
seal PE PS PSs PT PA in
def zji(F:Fun K "again" "again" (top 76) f fd)(T:Txt P w K mg C bw):F.k T base 1 zjg sNo:=by
 exact uE
seal PE PS PSs PT PA in
def zlz(F:Fun K "roll" "roll" (top 63) f fd)(T:Txt P w K mg C bw):F.k T base 1 zlv sNo:=by
 exact uE
seal PE PS PSs PT PA in
def zb0(F:Fun K "cut_cells" "cut_cells" (top 47) f fd)(T:Txt P w K mg C bw):F.k T base 1 zbN sNo:=by
 exact uE
seal PE PS PSs PT PA in
def Kg(F:Fun K "wipe_cells" "wipe_cells" (top 49) f fd)(T:Txt P w K mg C bw):F.k T base 1 Kb sNo:=by
 exact uE
seal PE PS PSs PT PA in
def zlA(F:Fun K "wipe" "wipe" (top 50) f fd)(T:Txt P w K mg C bw):F.k T base 1 zlu sNo:=by
 exact uE
seal PE PS PSs PT PA in
def zjj(F:Fun K "asked" "asked" (top 58) f fd)(T:Txt P w K mg C bw):F.k T base 1 zjf sNo:=by
 exact uE
seal PE PS PSs PT PA in
def ZX(F:Fun K "do_without_number" "do_without_number" (top 79) f fd)(T:Txt P w K mg C bw)(J:T.c base 2 "to_left_edge" (sLeft C))(B:T.c base 1 "set_stop" (sSetStop C))(D:T.c base 1 "take_stop" sNo)(E:T.c base 1 "take_stops" (sStop C clrS))(G:T.c base 1 "keep" (sKeep C keepS))(H:T.c base 1 "take_back" (sKeep C backS))(I:T.c base 1 "begin_anew" sNo):F.k T base 5 ut (sDo C lsA λa b ns=>[]):=by
 apply F.okG ut f!"l" (λg=>(za (zn (zl zx (pv 1) zh) (za (zm (zg J g (qc (pv 0) qn)))) (za (zn (zl zx (pv 1) zh) (za (zm (zg B g (qc (pv 0) qn)))) (za (zn (zl zx (pv 1) zh) (za (zm (zg D g (qc (pv 0) qn)))) (za (zn (zl zx (pv 1) zh) (za (zm (zg E g (qc (pv 0) qn)))) (za (zn (zl zx (pv 1) zh) (za (zm (zg G g (qc (pv 0) qn)))) (za (zn (zl zx (pv 1) zh) (za (zm (zg H g (qc (pv 0) qn)))) (za (zn (zl zx (pv 1) zh) (za (zm (zg I g (qc (pv 0) qn)))) zr)))))))))))))))
 .walk_at "ref"
 rintro _ gQ _ O R ⟨n,c,a,b,ns,x,dx,p,st,L,S,rfl,u,v,s,t,d,i,r,h⟩;apply gQ;refine yw (k:=104) f!"" rfl (λe=>?_) (λj=>?_)
 .subst e;exact absurd v ∅
 refine yw (k:=116) f!"" rfl (λe=>?_) (λl=>?_)
 .subst e;exact zqd u s t d i r h
 refine yw (k:=84) f!"" rfl (λe=>?_) (λy=>?_)
 .subst e;exact absurd v ∅
 refine yw (k:=85) f!"" rfl (λe=>?_) (λz=>?_)
 .subst e;exact zqe u s t d i r h
 refine yw (k:=118) f!"" rfl (λe=>?_) (λm=>?_)
 .subst e;exact zqf u s t d i r h
 refine yw (k:=122) f!"" rfl (λe=>?_) (λo=>?_)
 .subst e;exact zqg u s t d i r h
 refine yw (k:=90) f!"" rfl (λe=>?_) (λA=>?_)
 .subst e;exact absurd v ∅
 have q:=@List.not_mem_cons_of_ne_of_not_mem Nat;have e:opt lsA c (actS c a b ns) S=S:=l7 (q j (q l (q y (q z (q m (q o (q A lF)))))));rw[e]at h;exact .inl (h _ _ O (.refl i))
seal PE PS PSs PT PA in
def Jb(F:Fun K "do_with_one" "do_with_one" (top 80) f fd)(T:Txt P w K mg C bw)(U:T.c base 2 "go" (sGoP C))(V:T.c base 2 "on_tab" (ziM C tabS))(W:T.c base 1 "back_tab" sNo)(X:T.c base 1 "again" sNo)(Y:T.c base 1 "roll" sNo)(Z:T.c base 4 "put_lines" (sPutL C))(bi:T.c base 4 "cut_lines" (sCutL C))(wu:T.c base 3 "put_cells" (sPutC C))(bj:T.c base 1 "cut_cells" sNo)(bm:T.c base 1 "wipe_cells" sNo)(bn:T.c base 1 "wipe" sNo):F.k T base 7 Zh (sDo C lsB λa b ns=>[.d a]):=by
 apply F.okG Zh f!"l" (λi=>(za (zn (Y9 (zeq (K:=K) rfl) (pv 1) (zC (qc zh (qc zh (qc zh (qc zh qn))))) (by with_unfolding_all rfl)) (za (zm (zg U i (qc (pv 0) (qc (pv 1) (qc (pv 2) qn)))))) (za (zn (zl zx (pv 1) zh) (za (zm (zg V i (qc (pv 0) (qc (pv 2) qn))))) (za (zn (zl zx (pv 1) zh) (za (zm (zg W i (qc (pv 0) (qc (pv 2) qn))))) (za (zn (zl zx (pv 1) zh) (za (zm (zg X i (qc (pv 0) (qc (pv 2) qn))))) (za (zn (Y9 (zeq (K:=K) rfl) (pv 1) (zC (qc zh (qc zh qn))) (by with_unfolding_all rfl)) (za (zm (zg Y i (qc (pv 0) (qc (pv 1) (qc (pv 2) qn)))))) (za (zn (zl zx (pv 1) zh) (za (zm (zg Z i (qc (pv 0) (qc (pv 2) qn))))) (za (zn (zl zx (pv 1) zh) (za (zm (zg bi i (qc (pv 0) (qc (pv 2) qn))))) (za (zn (zl zx (pv 1) zh) (za (zm (zg wu i (qc (pv 0) (qc (pv 2) qn))))) (za (zn (zl zx (pv 1) zh) (za (zm (zg bj i (qc (pv 0) (qc (pv 2) qn))))) (za (zn (zl zx (pv 1) zh) (za (zm (zg bm i (qc (pv 0) (qc (pv 2) qn))))) (za (zn (zl zx (pv 1) zh) (za (zm (zg bn i (qc (pv 0) (qc (pv 2) qn))))) zr)))))))))))))))))))))))
 .walk_at "ref"
 rintro _ gQ _ O R ⟨n,c,a,b,ns,x,dx,p,st,N,S,rfl,J,l,G,I,o,t,H,h⟩;apply gQ;refine Zb (c= 117\/c= 100\/c= 108\/c= 114) (λQ m=>?_) (λe=>?_) (λg=>?_)
 .walk_at "wd";exact zg2 [117,100,108,114] (by rfl) m!"" m
 .have M:c= 100:=by rcases e with rfl|rfl|rfl|rfl<;>first|rfl|exact absurd l ∅
  have h':∀s r O',Nxt O O' C x dx p st N s r (offS (goS c (oneD a) S))->R (.d .none) O':=λs r O' q=>h s r O' (by subst M;exact q);show sGoP C [.own x,.d (.str ⟨#[c]⟩),.d a] O _;exact⟨c,a,M,G,x,dx,p,st,N,S,rfl,t,trivial,λO' q1 q2=>.inl (h' _ _ O' (.xp q1 q2))⟩
 refine yw (k:=121) f!"" rfl (λe=>?_) (λE=>?_)
 .subst e;exact zqh J G I o t H h
 refine yw (k:=89) f!"" rfl (λe=>?_) (λL=>?_)
 .subst e;exact absurd l ∅
 refine yw (k:=112) f!"" rfl (λe=>?_) (λz=>?_)
 .subst e;exact absurd l ∅
 refine Zb (c= 82\/c= 68) (λQ m=>?_) (λe=>?_) (λj=>?_)
 .walk_at "wd";exact zg2 [82,68] (by rfl) m!"" m
 .rcases e with rfl|rfl<;>exact absurd l ∅
 refine yw (k:=105) f!"" rfl (λe=>?_) (λv=>?_)
 .subst e;exact zqi J G I o t H h
 refine yw (k:=107) f!"" rfl (λe=>?_) (λy=>?_)
 .subst e;exact zqj J G I o t H h
 refine yw (k:=115) f!"" rfl (λe=>?_) (λA=>?_)
 .subst e;exact absurd l ∅
 refine yw (k:=120) f!"" rfl (λe=>?_) (λD=>?_)
 .subst e;exact absurd l ∅
 refine yw (k:=101) f!"" rfl (λe=>?_) (λu=>?_)
 .subst e;exact absurd l ∅
 refine yw (k:=119) f!"" rfl (λe=>?_) (λB=>?_)
 .subst e;exact absurd l ∅
 rw[np,np,np]at g;rw[np]at j;have q:=@List.not_mem_cons_of_ne_of_not_mem Nat;have e:opt lsB c (actS c a b ns) S=S:=l7 (q g.1 (q g.2.1 (q g.2.2.1 (q g.2.2.2 (q E (q L (q z (q j.1 (q j.2 (q v (q y (q A (q D (q u (q B lF)))))))))))))));rw[e]at h;exact .inl (h _ _ O (.refl t))
seal PE PS PSs PT PA in
def Jc(F:Fun K "do_with_two" "do_with_two" (top 81) f fd)(T:Txt P w K mg C bw)(z:T.c base 3 "to_place" (sPlace C))(v:T.c base 5 "set_rows" (sRows C))(y:T.c base 5 "set_columns" (sCols C)):F.k T base 6 Zi (sDo C lsC λa b ns=>[.d a,.d b]):=by
 apply F.okG Zi f!"l" (λt=>(za (zn (zl zx (pv 1) zh) (za (zm (zg z t (qc (pv 0) (qc (pv 2) (qc (pv 3) qn)))))) (za (zn (zl zx (pv 1) zh) (za (zm (zg v t (qc (pv 0) (qc (pv 2) (qc (pv 3) qn)))))) (za (zn (zl zx (pv 1) zh) (za (zm (zg y t (qc (pv 0) (qc (pv 2) (qc (pv 3) qn)))))) zr)))))))
 .walk_at "ref"
 rintro _ gQ _ O R ⟨n,c,a,b,ns,x,dx,p,st,B,S,rfl,s,A,o,r,g,l,m,h⟩;apply gQ;refine yw (k:=103) f!"" rfl (λe=>?_) (λi=>?_)
 .subst e;exact zqk s o r g l m h
 refine yw (k:=109) f!"" rfl (λe=>?_) (λj=>?_)
 .subst e;exact zql s o r g l m h
 refine yw (k:=77) f!"" rfl (λe=>?_) (λu=>?_)
 .subst e;exact zqm s o r g l m h
 have q:=@List.not_mem_cons_of_ne_of_not_mem Nat;have e:opt lsC c (actS c a b ns) S=S:=l7 (q i (q j (q u lF)));rw[e]at h;exact .inl (h _ _ O (.refl l))
seal PE PS PSs PT PA in
def Jd(F:Fun K "do_with_all" "do_with_all" (top 82) f fd)(T:Txt P w K mg C bw)(y:T.c base 4 "dye" (sDye C))(v:T.c base 5 "turn_modes" (sModesN C)):F.k T base 6 Zj (sDo C lsD λa b ns=>[.d (.tuple ns)]):=by
 apply F.okG Zj f!"l" (λt=>(za (zn (zl zx (pv 1) zh) (za (zm (zg y t (qc (pv 0) (qc (pv 2) qn))))) (za (zn (zl zx (pv 1) zh) (za (zm (zg v t (qc (pv 0) (qc (pv 2) (qc zT qn)))))) (za (zn (zl zx (pv 1) zh) (za (zm (zg v t (qc (pv 0) (qc (pv 2) (qc zT qn)))))) zr)))))))
 .walk_at "ref"
 rintro _ gQ _ O R ⟨n,c,a,b,ns,x,dx,p,st,A,S,rfl,s,z,o,r,g,l,m,h⟩;apply gQ;refine yw (k:=99) f!"" rfl (λe=>?_) (λu=>?_)
 .subst e;exact zqn s o r g l m h
 refine yw (k:=111) f!"" rfl (λe=>?_) (λj=>?_)
 .subst e;exact zqo s o r g l m h
 refine yw (k:=102) f!"" rfl (λe=>?_) (λi=>?_)
 .subst e;exact zqp s o r g l m h
 have q:=@List.not_mem_cons_of_ne_of_not_mem Nat;have e:opt lsD c (actS c a b ns) S=S:=l7 (q u (q j (q i lF)));rw[e]at h;exact .inl (h _ _ O (.refl l))
end
abbrev ltB:Rea->Bool
 |.sign _=>true
 |.row c _=>decide (c∈ls30)
 |_=>false
abbrev LtR(r:Rea):Prop:=ltB r=true
abbrev aR3(a:Addr)(O:OM)(d:Addr)(r:Rea):Prop:=∃c ns dx,r=.row c ns/\c∈ls30/\O d=some (.ins a dx [("letter",.d (.str ⟨#[c]⟩)),("numbers",.d (.tuple ns))])
inductive sNumAt (ws:List W) (O:OM) (R:WK):Prop
 |mk:∀ns:List PyData,∀k:Nat,ws=[.d (.tuple ns),.d (.int k)]->R (.d (nmA ns k)) O->sNumAt ws O R
inductive sInitS (a:Addr) (ws:List W) (O:OM) (R:WK):Prop
 |mk:∀x dx z,ws=[.own x,.d (.str z)]->O x=some (.ins a dx [])->R (.d .none) (updO O x (.ins a dx [("sign",.d (.str z))]))->sInitS a ws O R
inductive sInitR (a:Addr) (ws:List W) (O:OM) (R:WK):Prop
 |mk:∀x dx z ns,ws=[.own x,.d (.str z),.d (.tuple ns)]->O x=some (.ins a dx [])->R (.d .none) (updO O x (.ins a dx [("letter",.d (.str z)),("numbers",.d (.tuple ns))]))->sInitR a ws O R
section
variable {base:Heap}{cD cS cL cT cR:Addr}
seal PE PS PSs PT PA in
def zb1(F:Fun K "number_at" "number_at" (top 78) f fd)(T:Txt P w K mg C bw):F.k T base 1 YT sNumAt:=by
 apply F.okG YT f!"l" (λb=>(za (zj (yA (zl Y8 (pv 1) (zH (xI (K:=K) rfl) (by rfl) T.n_len (by rfl) (QA.pa (qc (pv 0) qn)))) (zp (zt (K:=K) rfl) (pv 0) (pv 1)) xh))))
 .walk_at "ref"
 rintro _ gQ _ O R ⟨ns,k,rfl,h⟩;apply gQ;walk_at "wd";refine⟨ns.length,rfl,?_⟩;unfold nmA at h;rw[lZ]at h;split
 .rename_i a;rw[lp a]at h;exact⟨_,uK (lp a),.inl h⟩
 .rename_i a;rw[mh ⋯]at h;exact .inl h
seal PE PS PSs PT PA in
def zb2(F:Fun K "__init__" "Sign.__init__" uu f fd)(T:Txt P w K mg C bw)(D:Dds K mg cD cS cL cT cR):F.k T base 1 jA (sInitS cS):=by
 apply F.okG jA f!"l" (λa=>(za (fs K (pv 0) (pv 1))))
 .walk_at "ref"
 rintro _ gQ _ O R ⟨x,dx,z,rfl,hx,h⟩;apply gQ;walk_at "wd";exact⟨cS,dx,[],hx,D.k_S.cl,D.n_sign,∅,.inl h⟩
seal PE PS PSs PT PA in
def zcJ(F:Fun K "__init__" "Row.__init__" uW f fd)(T:Txt P w K mg C bw)(D:Dds K mg cD cS cL cT cR):F.k T base 1 j9 (sInitR cR):=by
 apply F.okG j9 f!"l" (λa=>(zc (fs K (pv 0) (pv 1)) (za (fs K (pv 0) (pv 2)))))
 .walk_at "ref"
 rintro _ gQ _ O R ⟨x,dx,z,ns,rfl,hx,h⟩;apply gQ;walk_at "wd";refine⟨cR,dx,[],hx,D.k_R.cl,D.n_letter,∅,D.k_R.cl,D.n_numbers,?_,.inl h⟩;exact(by decide:1<1000)
seal PE PS PSs PT PA in
def zfx(F:Fun K "do" "Sign.do" YU f fd)(T:Txt P w K mg C bw)(D:Dds K mg cD cS cL cT cR)(g:T.c base 5 "put_sign" (sPutSign C)):F.k T base 6 U2 (sDeedDo C (aS cS)):=by
 apply F.okG U2 f!"l" (λs=>(zc (zm (zg g s (qc (pv 1) (qc (fl K (pv 0)) qn)))) (za (zj (yg qn)))))
 .walk_at "ref"
 rintro _ gQ _ O R ⟨r,n,d,x,dx,p,st,a,S,rfl,⟨c,i,rfl,l⟩,o,y,m,t,j,h⟩;apply gQ;walk_at "wd";refine⟨cS,i,_,l,D.k_S.cl,D.n_sign,_,rfl,⟨#[c]⟩,x,dx,p,st,a,S,rfl,t,j.b,λO' u v q e=>?_⟩;have N:Nxt O O' C x dx p st a st a _:=.xp u v;exact .inl (h q st a _ (N.nn e) zd (N.nk e) (N.old (Old.up e)))
seal PE PS PSs PT PA in
def zfy(F:Fun K "do" "Line.do" YV f fd)(T:Txt P w K mg C bw):F.k T base 1 zfq sNo:=by
 exact uE
seal PE PS PSs PT PA in
def zhn(F:Fun K "do" "Tab.do" VQ f fd)(T:Txt P w K mg C bw):F.k T base 1 zhl sNo:=by
 exact uE
seal PE PS PSs PT PA in
def zho(F:Fun K "do" "Row.do" VR f fd)(T:Txt P w K mg C bw)(D:Dds K mg cD cS cL cT cR)(bu:T.c base 1 "asked" sNo)(ah:T.c base 1 "number_at" sNumAt)(bx:T.c base 5 "do_without_number" (sDo C lsA λa b ns=>[]))(bz:T.c base 7 "do_with_one" (sDo C lsB λa b ns=>[.d a]))(c8:T.c base 6 "do_with_two" (sDo C lsC λa b ns=>[.d a,.d b]))(cb:T.c base 6 "do_with_all" (sDo C lsD λa b ns=>[.d (.tuple ns)])):F.k T base 8 YW (sDeedDo C (aR3 cR)):=by
 have nd:=YW.nd;apply F.okG YW f!"l" (λH=>(zc (zn (zl zx (fl K (pv 0)) zh) (za (zj (zg bu H (qc (pv 1) (qc (fl K (pv 0)) qn))))) zr) (zc (zo 2 nd (zg ah H (qc (fl K (pv 0)) (qc zb qn)))) (zc (zm (zg bx H (qc (pv 1) (qc (fl K (pv 0)) qn)))) (zc (zm (zg bz H (qc (pv 1) (qc (fl K (pv 0)) (qc (pv 2) qn))))) (zc (zm (zg c8 H (qc (pv 1) (qc (fl K (pv 0)) (qc (pv 2) (qc (zg ah H (qc (fl K (pv 0)) (qc zb qn))) qn)))))) (zc (zm (zg cb H (qc (pv 1) (qc (fl K (pv 0)) (qc (fl K (pv 0)) qn))))) (za (zj (yg qn))))))))))
 .walk_at "ref"
 rintro _ gQ _ O R ⟨r,n,d,x,dx,p,st,kp,S,rfl,⟨c,ns,dd,rfl,M,Q⟩,⟨_,l⟩,hn,xe,hs,hG,h⟩;apply gQ;have B:NumD (nmA ns 0):=zbs l.n;have hb:NumD (nmA ns 1):=zbs l.n;have G:d≠x:=ze8 Q hs m!"";refine zlj (y:=⟨#[c]⟩) rfl Q D.k_R.cl D.n_letter rfl (λe=>?_) (λne=>?_)
 .have e':c= 113:=by rw[show s!"q" =⟨#[113]⟩by decide +kernel,zov]at e;exact e
  subst e';exact absurd M ∅
 have Z:c≠113:=λz=>ne (by rw[z];decide +kernel);rw[show rdA (.row c ns) S=[]from l7 Z,show rdS' (.row c ns) S=_ from l7 Z,<-zli]at h;refine KS [some (.own d),some (.own x),some (.d (nmA ns 0))] (λt j=>?_) ?_
 .show yS K (zO 0) "numbers" [some (.own d),some (.own x),none] O (λy A=>sNumAt [y,.d (.int 0)] A (λv o=>t [some (.own d),some (.own x),some v] o));refine qZ (v:=.d (.tuple ns)) rfl Q D.k_R.cl D.n_numbers rfl ?_;exact⟨ns,0,rfl,j⟩
 refine yO (λm O'=>m=[some (.own d),some (.own x),some (.d (nmA ns 0))]/\∃i g,Nxt O O' C x dx p st kp i g (opt lsA c (actS c (nmA ns 0) (nmA ns 1) ns) S)) (λt j=>?_) ?_
 .show yS K (zO 0) "letter" [some (.own d),some (.own x),some (.d (nmA ns 0))] O (λy A=>sDo C lsA (λa b ns=>[]) [.own x,y] A (λ_ o=>t [some (.own d),some (.own x),some (.d (nmA ns 0))] o));refine qZ (v:=.d (.str ⟨#[c]⟩)) rfl Q D.k_R.cl D.n_letter rfl ?_;exact⟨n,c,nmA ns 0,nmA ns 1,ns,x,dx,p,st,kp,S,rfl,⋯,M,B,hb,l.n,hs,hG,λi g O' N=>j _ _ ⟨rfl,i,g,N⟩⟩
 rintro _ gQ _ O1 ⟨rfl,zs,W,N1⟩;apply gQ;have U:=N1.ins hs Q G;have I:Good (n+1) _:=hG.opt (L:=lsA) (c:=c) (b:=nmA ns 1) (ns:=ns) xe B;refine yO (λm O'=>m=[some (.own d),some (.own x),some (.d (nmA ns 0))]/\∃i g,Nxt O1 O' C x dx p zs W i g (opt lsB c (actS c (nmA ns 0) (nmA ns 1) ns) (opt lsA c (actS c (nmA ns 0) (nmA ns 1) ns) S))) (λt j=>?_) ?_
 .show yS K (zO 0) "letter" [some (.own d),some (.own x),some (.d (nmA ns 0))] O1 (λy A=>sDo C lsB (λa b ns=>[.d a]) [.own x,y,.d (nmA ns 0)] A (λ_ o=>t [some (.own d),some (.own x),some (.d (nmA ns 0))] o));refine qZ (v:=.d (.str ⟨#[c]⟩)) rfl U D.k_R.cl D.n_letter rfl ?_;exact⟨n+1,c,nmA ns 0,nmA ns 1,ns,x,dx,p,zs,W,_,rfl,⋯,M,B,hb,l.n,N1.s,I,λi g O' N=>j _ _ ⟨rfl,i,g,N⟩⟩
 rintro _ gQ _ A ⟨rfl,ys,X,N2⟩;apply gQ;have E:=N2.ins N1.s U G;have J:Good (n+1+1) _:=I.opt (L:=lsB) (c:=c) (b:=nmA ns 1) (ns:=ns) ⋯ B;refine yO (λm O'=>m=[some (.own d),some (.own x),some (.d (nmA ns 0))]/\∃i g,Nxt A O' C x dx p ys X i g (opt lsC c (actS c (nmA ns 0) (nmA ns 1) ns) (opt lsB c (actS c (nmA ns 0) (nmA ns 1) ns) (opt lsA c (actS c (nmA ns 0) (nmA ns 1) ns) S)))) (λt j=>?_) ?_
 .show yS K (zO 0) "letter" [some (.own d),some (.own x),some (.d (nmA ns 0))] A (λy o=>yS K (zO 0) "numbers" [some (.own d),some (.own x),some (.d (nmA ns 0))] o (λu O4=>sNumAt [u,.d (.int 1)] O4 (λb O5=>sDo C lsC (λa b ns=>[.d a,.d b]) [.own x,y,.d (nmA ns 0),b] O5 (λ_ O6=>t [some (.own d),some (.own x),some (.d (nmA ns 0))] O6))));refine qZ (v:=.d (.str ⟨#[c]⟩)) rfl E D.k_R.cl D.n_letter rfl ?_;refine qZ (v:=.d (.tuple ns)) rfl E D.k_R.cl D.n_numbers rfl ?_;exact⟨ns,1,rfl,n+1+1,c,nmA ns 0,nmA ns 1,ns,x,dx,p,ys,X,_,rfl,⋯,M,B,hb,l.n,N2.s,J,λi g O' N=>j _ _ ⟨rfl,i,g,N⟩⟩
 rintro _ gQ _ o ⟨rfl,xb,Y,N3⟩;apply gQ;have V:=N3.ins N2.s E G;have xd:Good (n+1+1+1) _:=J.opt (L:=lsC) (c:=c) (b:=nmA ns 1) (ns:=ns) ⋯ B;refine yO (λm O'=>Ex2 λi g=>Nxt o O' C x dx p xb Y i g (opt lsD c (actS c (nmA ns 0) (nmA ns 1) ns) (opt lsC c (actS c (nmA ns 0) (nmA ns 1) ns) (opt lsB c (actS c (nmA ns 0) (nmA ns 1) ns) (opt lsA c (actS c (nmA ns 0) (nmA ns 1) ns) S))))) (λt j=>?_) ?_
 .show yS K (zO 0) "letter" [some (.own d),some (.own x),some (.d (nmA ns 0))] o (λy O4=>yS K (zO 0) "numbers" [some (.own d),some (.own x),some (.d (nmA ns 0))] O4 (λu O5=>sDo C lsD (λa b ns=>[.d (.tuple ns)]) [.own x,y,u] O5 (λ_ O6=>t [some (.own d),some (.own x),some (.d (nmA ns 0))] O6)));refine qZ (v:=.d (.str ⟨#[c]⟩)) rfl V D.k_R.cl D.n_letter rfl ?_;refine qZ (v:=.d (.tuple ns)) rfl V D.k_R.cl D.n_numbers rfl ?_;exact⟨n+1+1+1,c,nmA ns 0,nmA ns 1,ns,x,dx,p,xb,Y,_,rfl,⋯,M,B,hb,l.n,N3.s,xd,λi g O' N=>j _ _ ⟨i,g,N⟩⟩
 rintro _ gQ xo O4 ⟨xl,xk,N4⟩;apply gQ;have N:=(N1.trans N2).trans (N3.trans N4);refine⟨∅,λq hq=>.inl (h q xl xk _ (N.nn hq) zd (N.nk hq) (N.old (Old.up hq)))⟩
seal PE PS PSs PT PA in
def zb3(F:Fun K "signs" "Row.signs" kL f fd)(T:Txt P w K mg C bw)(D:Dds K mg cD cS cL cT cR):F.k T base 1 jB (sSigns (aR cR)):=by
 have s:=jB.nd;apply F.okG jB f!"l" (λx=>(zc (zo 1 s (yz (K:=K) rfl mX nG nH (k8 (K:=K) rfl) zh (QA.pa (qc (v1 (xM (N:=["number"]) (n:=1) (js:=[])) rfl (QH (K:=K) rfl (fl K (pv 0))) (λ_ _ _ _=>(zy (i:=0) (show List.Nodup (["number"]:List Str)by decide +kernel) rfl (Or.inl rfl))) (λ_ _ _ _=>yG) (λ_ _ _ _=>(yA (zl V7 (pv 0) xh) zh (zE yp (by rfl) T.n_str rfl (QA.pa (qc (pv 0) qn)))))) qn)))) (za (zj (zf zq (zf zq zh (pv 1)) (fl K (pv 0)))))))
 .walk_at "ref"
 rintro _ gQ _ O R ⟨r,d,rfl,⟨c,ns,b,rfl,e⟩,⟨t,a⟩,h⟩;apply gQ;have v:=a.l;have g:=ZI a.n;walk_at "wd";refine⟨.inr (.inl ⟨rfl,_,rfl⟩),cR,b,_,e,D.k_R.cl,D.n_numbers,_,rfl,ns,rfl,⋯,znl,λm j us o=>?_,?_⟩
 .obtain⟨u,rfl⟩:=lU.1 o;have q:=a.n m j;cases m with
  |none=>exact⟨rfl,rfl,rfl⟩
  |int i=>exact⟨rfl,rfl,i,rfl,by have:=q.1;lia,by have:=q.2;lia,rfl⟩
  |_=>exact q.elim
 rw[JP a.n];have y:=zg5 a;have z:s!"~".length= 1:=f!""
 refine⟨ns.map numT,VI _,f!"",by rw[l8];lia,by rw[lI];lia,cR,b,_,e,D.k_R.cl,D.n_letter,_,rfl,_,rfl,?_,.inl (h O Old.refl)⟩;have p:(s!"~" ++ Txt.join s!";" (ns.map numT)).length=s!"~".length+(Txt.join s!";" (ns.map numT)).length:=by rw[yN,zJ,lx];rfl
 rw[p,lI];have A:(⟨#[c]⟩:Str).length= 1:=rfl
 lia
seal PE PS PSs PT PA in
def zfz(F:Fun K "deed_of" "deed_of" (top 88) f fd)(T:Txt P w K mg C bw)(D:Dds K mg cD cS cL cT cR)(l:CalM P w K mg base 1 "Sign" cS (liftSp K (sInitS cS)))(m:CalN K mg "Line" cL)(n:CalN K mg "Tab" cT)(p:CalM P w K mg base 1 "Row" cR (liftSp K (sInitR cR))):F.k T base 3 U3 (sDeedOf cS cL cT cR):=by
 apply F.okG U3 f!"l" (λi=>(zc (zn (zl zx (zp (zt (K:=K) rfl) (pv 0) zb) zh) (za (zj (ql l (i.mono ∅) rfl (QA.pa (qc (zp (zt (K:=K) rfl) (pv 0) zb) qn))))) zr) (zc (zn (zl zx (zp (zt (K:=K) rfl) (pv 0) zb) zh) (za (zj (zdj m rfl))) zr) (zc (zn (zl zx (zp (zt (K:=K) rfl) (pv 0) zb) zh) (za (zj (zdj n rfl))) zr) (za (zj (ql p (i.mono ∅) rfl (QA.pa (qc (zp (zt (K:=K) rfl) (pv 0) zb) (qc (zp (zt (K:=K) rfl) (pv 0) zb) qn))))))))))
 .walk_at "ref"
 rintro _ gQ _ O R ⟨r,rfl,o,h⟩;apply gQ;cases r with
 |sign c=>refine uo (y:=s!"sign") (ds:=[.str "sign",.str ⟨#[c]⟩]) rfl rfl (λ_=>?_) (λe=>absurd rfl e);show wOp ub (zO 0) (wC (.int 1)) [some (.d (.tuple [.str "sign",.str ⟨#[c]⟩]))] O (λv b=>∀x dx,b x=none->sInitS cS [.own x,v] (updO b x (.ins cS dx [])) λw g=>w=.d .none/\Clo R (.own x) g);refine ziR (e:=.str ⟨#[c]⟩) rfl rfl (λd dx a=>?_);exact⟨d,dx,⟨#[c]⟩,rfl,zd,rfl,.inl (h d _ a ⟨dx,zd⟩ (by rw[yW];exact Old.up a))⟩
 |line=>refine uo (y:=s!"line") (ds:=[.str "line"]) rfl rfl (λe=>absurd e f!"") (λ_=>?_);refine uo (y:=s!"line") (ds:=[.str "line"]) rfl rfl (λ_=>?_) (λe=>absurd rfl e);exact λd dx a=>.inl (h d _ a ⟨dx,zd⟩ (Old.up a))
 |tab=>refine uo (y:=s!"tab") (ds:=[.str "tab"]) rfl rfl (λe=>absurd e f!"") (λ_=>?_);refine uo (y:=s!"tab") (ds:=[.str "tab"]) rfl rfl (λe=>absurd e f!"") (λ_=>?_);refine uo (y:=s!"tab") (ds:=[.str "tab"]) rfl rfl (λ_=>?_) (λe=>absurd rfl e);exact λd dx a=>.inl (h d _ a ⟨dx,zd⟩ (Old.up a))
 |row c ns=>refine uo (y:=s!"row") (ds:=[.str "row",.str ⟨#[c]⟩,.tuple ns]) rfl rfl (λe=>absurd e f!"") (λ_=>?_);refine uo (y:=s!"row") (ds:=[.str "row",.str ⟨#[c]⟩,.tuple ns]) rfl rfl (λe=>absurd e f!"") (λ_=>?_);refine uo (y:=s!"row") (ds:=[.str "row",.str ⟨#[c]⟩,.tuple ns]) rfl rfl (λe=>absurd e f!"") (λ_=>?_);show wOp ub (zO 0) (wC (.int 1)) [some (.d (.tuple [.str "row",.str ⟨#[c]⟩,.tuple ns]))] O (λv b=>wOp ub (zO 0) (wC (.int 2)) [some (.d (.tuple [.str "row",.str ⟨#[c]⟩,.tuple ns]))] b (λu g=>∀x dx,g x=none->sInitR cR [.own x,v,u] (updO g x (.ins cR dx [])) λw j=>w=.d .none/\Clo R (.own x) j));refine ziR (e:=.str ⟨#[c]⟩) rfl rfl ?_;refine ziR (e:=.tuple ns) rfl rfl (λd dx a=>?_);exact⟨d,dx,⟨#[c]⟩,ns,rfl,zd,rfl,.inl (h d _ a ⟨dx,zd⟩ (by rw[yW];exact Old.up a))⟩
end
structure TxtR (K:W.Frag) (mg:Str->Option Value) (C:Addr):Prop where
 n_len:mg "len" =none
 n_int:mg "int" =none
 n_any:mg "any" =none
 n_tuple:mg "tuple" =none
 g_MOST_NUMBERS:∃t,mg "MOST_NUMBERS" =some (.int 6 t)
 g_MOST_FIGURES:∃t,mg "MOST_FIGURES" =some (.int 3 t)
 g_OPENING:∃t,mg "OPENING" =some (.str "~" t)
 mgC:mg "Reader" =some (.ref C)
 st:Rdr K C
section
variable {base:Heap}
def zhp(F:Fun K "parted" "parted" (top 102) f fd)(T:TxtR K mg C):F.j P w mg base 1 YY zgB:=by
  have H:=YY.nd;apply F.okG YY f!"l" (λL=>(zc (zo 1 H (yz (K:=K) rfl mX o5 PySem.F.type_str_split zim (pv 0) (QA.pa (qc zh qn)))) (zc (zn (PW.pt (v0 (zl Kq (zH (xI (K:=K) rfl) (by rfl) T.n_len (by rfl) (QA.pa (qc (pv 1) qn))) (jU rfl T.g_MOST_NUMBERS)) (vZ (xy (zH (zmT (K:=K) rfl rfl) (by rfl) T.n_any (by rfl) (QA.pa (qc (v1 (xM (N:=["part"]) (n:=1) (js:=[])) rfl (xu (K:=K) rfl (pv 1)) (λ_ _ _ _=>(zy (i:=0) (show List.Nodup (["part"]:List Str)by decide +kernel) rfl (Or.inl rfl))) (λ_ _ _ _=>yG) (λ_ _ _ _=>(UG Kq (zH zae (by rfl) T.n_len (by rfl) (QA.pa (qc (pv 0) qn))) (jU rfl T.g_MOST_FIGURES)))) qn))))))) (za (zj xh)) zr) (za (zj (zE (zgr (K:=K) rfl) (by rfl) T.n_tuple rfl (QA.pa (qc (v1 (xM (N:=["part"]) (n:=1) (js:=[])) rfl (xu (K:=K) rfl (pv 1)) (λ_ _ _ _=>(zy (i:=0) (show List.Nodup (["part"]:List Str)by decide +kernel) rfl (Or.inl rfl))) (λ_ _ _ _=>yG) (λ_ _ _ _=>(yA (qm (K:=K) rfl (pv 0) (λ_=>rfl)) (zE zgw (by rfl) T.n_int rfl (QA.pa (qc (pv 0) qn))) xh))) qn))))))))
  · walk_at "ref"
  rintro _ gQ _ O R ⟨z,rfl,hz,h⟩;apply gQ;have E:=PyProof.Rows.split_le z vk;have es:s!";" =vk:=rfl;have G:=hz.1;refine KS [some (.d (.str z)),some (.d (.list ((Txt.split z vk).map .str)))] (λI o=>?_) ?_
  · walk_at "wd"
    refine⟨.inr (.inl ⟨rfl,_,rfl⟩),?_⟩;rw[es];exact⟨∅,⋯,o⟩
  have c:=zcx z;have k:∀p∈Txt.split z vk,okD p/\p.length<=100000:=λp a=>ziu hz a;have q:xS z=qY ((Txt.split z vk).map (·.cps.toList)):=by unfold xS;rw[c]
  rw[q]at h;generalize Txt.split z vk=ps at *;have m:(ps.map PyData.str).map W.d=ps.map λp=>W.d (.str p):=by rw[lT];rfl
  have l:∀{w:W},w∈(ps.map PyData.str).map W.d->∃p∈ps,w=.d (.str p):=λ{w} c=>by rw[m]at c;obtain⟨p,a,rfl⟩:=lH.1 c;exact⟨p,a,rfl⟩
  walk_at "wd";refine⟨ps.length,by simp[lenW,zU,seqL],?_⟩;by_cases h6:6<ps.length
  · rw[l9 ⋯]
    have b:=h;unfold qY at b;rw[l9 (.inl (by simpa using h6))]at b;exact .inl b
  rw[l7 ⋯];refine⟨_,rfl,by simp;lia,λv=>match v with|.d (.str p)=>some (.bool (decide (3<(p.length:Int))))|_=>none,?_,ps.map (λp=>decide (3<(p.length:Int))),?_,?_⟩
  · intro w c us s
    obtain⟨u,rfl⟩:=lU.1 s;obtain⟨p,a,rfl⟩:=l c;exact⟨rfl,rfl,p,rfl,by have:=(k p a).2;rw[lI];lia,rfl⟩
  · rw[m,zgy ps _ _ (λp=>.bool (decide (3<(p.length:Int)))) (λ_=>rfl)]
    show some (List.map W.d _)=_;rw[lT,lT];rfl
  split
  · rename_i r
    obtain⟨p,a,e⟩:=lH.1 r;have b:=h;unfold qY at b;rw[l9 (.inr (om.mpr ⟨p.cps.toList,lH.2 ⟨p,a,rfl⟩,by have:=mC e;rw[<-yN];exact lM ⋯⟩))]at b;exact .inl b
  · rename_i r
    have y:∀p∈ps,p.length<=3:=λp a=>by
      rcases Nat.lt_or_ge 3 p.length with z|z
      · exact absurd (lH.2 ⟨p,a,lM ⋯⟩) r
      · exact z
    have b:=h;unfold qY at b;rw [l7 (by
      rintro(z|z)
      · exact h6 (by simpa using z)
      · obtain⟨w,c,e⟩:=om.mp z
        obtain⟨p,a,rfl⟩:=lH.1 c;have:=y p a;have:=mC e;rw[<-yN]at this
        lia)]at b
    refine⟨_,rfl,by simp;lia,λv=>match v with|.d (.str p)=>some (uO p.cps.toList)|_=>none,?_,?_⟩
    · intro w c us s
      obtain⟨u,rfl⟩:=lU.1 s;obtain⟨p,a,rfl⟩:=l c;obtain⟨A,J⟩:=k p a;have g:p.length<=sizeLine:=by rw[lI];lia
      have D:=y p a;refine⟨rfl,rfl,?_⟩;by_cases hp0:p.cps.toList=[]
      · have t:p.length= 0:=by rw[yN,hp0];rfl
        refine .inl ⟨?_,g,?_⟩
        · show some (p.length != 0)=some false
          rw[t];rfl
        · show some (W.d PyData.none)=some (W.d (uO p.cps.toList))
          unfold uO;rw[l9 hp0]
      · have t:p.length≠0:=λe=>hp0 (mG.mp (by rw[<-yN];exact e))
        have B:=PySem.intText_digits (x:=p) A hp0 ⋯;refine .inr ⟨?_,g,?_⟩
        · show some (p.length != 0)=some true
          simp[t]
        · refine⟨p,rfl,_,B,⋯,?_⟩
          show some (W.d (PyData.int _))=some (W.d (uO p.cps.toList));unfold uO;rw[l7 hp0]
    · refine⟨ps.map λp=>uO p.cps.toList,?_,?_⟩
      · rw[m,zgy ps _ _ (λp=>uO p.cps.toList) (λ_=>rfl)]
        simp only[seqD,zU,seqL,nS,zV]
      · rw[lT]at b
        exact .inl b
seal PE PS PSs PT PA in
def zb4(F:Fun K "is_figure" "is_figure" (top 100) f fd)(T:TxtR K mg C):F.j P w mg base 1 jE zjW:=by
 have e:=jE.nd;apply F.okG jE f!"l" (λd=>(za (zj (uH vX vX zh (pv 0) zh))))
 .walk_at "ref"
 rintro _ gQ _ O R ⟨c,rfl,h⟩;apply gQ;have a:s!"0".cps= #[48]:=f!""
 have b:s!"9".cps= #[57]:=f!""
 walk_at "wd";rw[a,b];simp only[leA,ltA];by_cases q:48<=c
 .rw[l9 q,show(!decide (57<c))=decide (vc c)by unfold vc;by_cases z:57<c<;>simp[z,q]<;>lia];exact .inl h
 .rw[l7 q,show false=decide (vc c)from(lR λz=>by have:=z.1;lia).symm];exact .inl h
seal PE PS PSs PT PA in
def zb5(F:Fun K "is_letter" "is_letter" (top 101) f fd)(T:TxtR K mg C):F.j P w mg base 1 jF zjV:=by
 have o:=jF.nd;apply F.okG jF f!"l" (λn=>(za (zj (zob (uH vX vX zh (pv 0) zh) (V1 (uH vX vX zh (pv 0) zh))))))
 .walk_at "ref"
 rintro _ gQ _ O R ⟨c,rfl,h⟩;apply gQ;have l:s!"a".cps= #[97]:=f!""
 have m:s!"z".cps= #[122]:=f!""
 have g:s!"A".cps= #[65]:=f!""
 have i:s!"Z".cps= #[90]:=f!""
 walk_at "wd";rw[l,m,g,i];simp only[leA,ltA];have b:∀k:Bool,k=decide (isLet c)->Clo R (.d (.bool k)) O:=λk e=>.inl (by rw[e];exact h);by_cases q:97<=c
 .rw[l9 q];by_cases q2:122<c
  .refine .inl ⟨q2,?_⟩;rw[l9 ⋯];exact b _ (by rw[lM (show 90<c by lia)];exact(lR λz=>by rcases z with z|z<;>lia).symm)
  .exact .inr ⟨⋯,b _ (lM (Or.inl ⟨q,⋯⟩)).symm⟩
 .rw[l7 q];by_cases q2:65<=c
  .rw[l9 q2];by_cases z:90<c
   .exact b _ (by rw[lM z];exact(lR λz=>by rcases z with z|z<;>lia).symm)
   .exact b _ (by rw[lR z];exact(lM (Or.inr ⟨q2,⋯⟩)).symm)
  .rw[l7 q2];exact b _ (lR λz=>by rcases z with z|z<;>lia).symm
seal PE PS PSs PT PA in
def Kh(F:Fun K "sign_alone" "sign_alone" (top 103) f fd)(T:TxtR K mg C):F.j P w mg base 1 qM QR:=by
 have e:=qM.nd;apply F.okG qM f!"l" (λd=>(zc (zn (zl zx (pv 0) zh) (za (zj (zC (qc zh qn)))) zr) (zc (zn (zl zx (pv 0) zh) (za (zj (zC (qc zh qn)))) zr) (za (zj (zC (qc zh (qc (pv 0) qn))))))))
 .walk_at "ref"
 rintro _ gQ _ O R ⟨c,rfl,h⟩;apply gQ;have a:Str.ofString "\n" =⟨#[10]⟩:=f!""
 have b:Str.ofString "\t" =⟨#[9]⟩:=f!""
 walk_at "wd";unfold xW at h;rw[a,b];simp only[zbd];by_cases q:c= 10
 .rw[l9 q]at h ⊢;exact .inl h
 .rw[l7 q]at h ⊢;by_cases q2:c= 9
  .rw[l9 q2]at h ⊢;exact .inl h
  .rw[l7 q2]at h ⊢;exact .inl h
seal PE PS PSs PT PA in
def Je(F:Fun K "__init__" "Reader.__init__" vn f fd)(T:TxtR K mg C):F.j P w mg base 1 xY (zgC C):=by
 have k:=xY.nd;apply F.okG xY f!"l" (λi=>(za (fs K (pv 0) (yg qn))))
 .walk_at "ref"
 rintro _ gQ _ O R ⟨x,dx,rfl,hx,h⟩;apply gQ;walk_at "wd";intro p b;have d:p≠x:=λe=>by rw[e,hx]at b;cases b
 refine⟨C,dx,[],by rw[ze (Ne.symm d)];exact hx,T.st.cl,T.st.n_begun,∅,.inl (h p _ b ⟨zd,by rw[ze d,zd];rfl⟩ λa g c=>by rw[ze g,ze c])⟩
seal PE PS PSs PT PA in
def YZ(F:Fun K "open_row" "Reader.open_row" vp f fd)(T:TxtR K mg C):F.j P w mg base 1 xZ (Uz C):=by
 have g:=xZ.nd;apply F.okG xZ f!"l" (λd=>(za (zj (yz (K:=K) rfl mX nG nH (k8 (K:=K) rfl) zh (QA.pa (qc (fl K (pv 0)) qn))))))
 .walk_at "ref"
 rintro _ gQ _ O R ⟨x,dx,p,b,rfl,hx,a,h⟩;apply gQ;walk_at "wd";refine⟨.inr (.inl ⟨rfl,_,rfl⟩),C,dx,_,hx.x,T.st.cl,T.st.n_begun,_,xX,b.map sgS,?_,∅,?_,?_⟩
 .simp only[seqL,hx.p,lT];rfl
 .rw[k9 λx hx=>by obtain⟨c,_,rfl⟩:=lH.1 hx;rfl,l8]
  lia
 .have e:Txt.join s!"" (b.map sgS)=⟨b.toArray⟩:=ziv b;rw[e];exact .inl h
seal PE PS PSs PT PA in
def XB(F:Fun K "end_row" "Reader.end_row" vN f fd)(T:TxtR K mg C)(E:Cal P w K mg base 1 "parted" [] (liftSp K zgB))(v:CalT P w K mg base 1 "open_row" C (liftSp K (Uz C))):F.j P w mg base 2 vq (zeO C):=by
 have M:=vq.nd;apply F.okG vq f!"l" (λy=>(zc (zo 2 M (zg E y (qc (vH zkV (zQ v (y.mono ∅) (pv 0)) (uJ zb) uI) qn))) (zc (fs K (pv 0) (yg qn)) (za (zj (yA (zl V7 (pv 2) xh) (yg qn) (yg (qc (zC (qc zh (qc (pv 1) (qc (pv 2) qn)))) qn))))))))
 .walk_at "ref"
 rintro _ gQ _ O R ⟨x,dx,p,b,c,rfl,hx,H,I,J,h⟩;apply gQ;have hz:zit ⟨(b.drop 1).toArray⟩:=⟨by show(b.drop 1).toArray.size<=100000;rw[lC,m9];omega,I⟩;have k:(⟨b.toArray⟩:Str).length<=sizeLine:=by show b.toArray.size<=sizeLine;rw[lC,lI];omega
 have n:=zeQ H;walk_at "wd";refine⟨dx,_,hx.x,by simp;decide,x,dx,p,b,rfl,hx,J,_,rfl,k,?_⟩;rw[n];refine⟨_,rfl,hz,λl a=>?_⟩;have G:l≠x:=λe=>by rw[e,hx.x]at a;cases a
 refine⟨C,dx,_,by rw[ze (Ne.symm G)];exact hx.x,T.st.cl,T.st.n_begun,m!"",?_⟩;have ep:zM s!"begun" (W.own l) [(s!"begun",W.own p)]=[(s!"begun",.own l)]:=by simp[zM]
 rw[ep];obtain⟨A,B,D⟩:=zgD hx a [] rfl;have i:rwD b c=if zm0 (xS ⟨(b.drop 1).toArray⟩)=true then[]else[.tuple [.str s!"row",.str (sgS c),xS ⟨(b.drop 1).toArray⟩]]:=rfl
 rcases za6 ⟨(b.drop 1).toArray⟩with e|⟨ds,e,_,_⟩
 .rw[e]at i ⊢;have g:rwD b c=[]:=i;rw[l9 rfl];intro q m;obtain⟨o,r,s,t,u⟩:=Yu (L:=[]) A B D m;exact .inl (h q l _ o r a s t (by rw[g];exact u))
 .rw[e]at i ⊢;have g:rwD b c=[.tuple [.str s!"row",.str (sgS c),.tuple ds]]:=i;rw[l7 (by intro z;cases z)];refine⟨_,⟨_,rfl,rfl⟩,by show 3<=1000;omega,λq m=>?_⟩;obtain⟨o,r,s,t,u⟩:=Yu (L:=[.d (.tuple [.str s!"row",.str (sgS c),.tuple ds])]) A B D m;exact .inl (h q l _ o r a s t (by rw[g];exact u))
seal PE PS PSs PT PA in
def Z2(F:Fun K "read_sign" "Reader.read_sign" x0 f fd)(T:TxtR K mg C)(V:Cal P w K mg base 1 "is_letter" [] (liftSp K zjV))(J:CalT P w K mg base 2 "end_row" C (liftSp K (zeO C)))(X:Cal P w K mg base 1 "is_figure" [] (liftSp K zjW))(Y:Cal P w K mg base 1 "sign_alone" [] (liftSp K QR)):F.j P w mg base 3 xP (zbb C):=by
 have nd:=xP.nd;apply F.okG xP f!"l" (λH=>(zc (zn (PW.pt (V0 (qm (K:=K) rfl (fl K (pv 0)) (λ_=>rfl)) (Y6 (xy (zg V H (qc (pv 1) qn)))))) (za (zj (vD J H (pv 0) (qc (pv 1) qn)))) zr) (zc (zn (PW.pt (V0 (qm (K:=K) rfl (fl K (pv 0)) (λ_=>rfl)) (Y6 (PW.pt (v0 (xy (zg X H (qc (pv 1) qn))) (vZ (zl zx (pv 1) zh))))))) (zc (zm (yz (K:=K) rfl m5 mo mr zdm (fl K (pv 0)) (QA.pa (qc (pv 1) qn)))) (za (zj (yg qn)))) zr) (zc (zo 2 nd (UG zx (zH (xI (K:=K) rfl) (by rfl) T.n_len (by rfl) (QA.pa (qc (fl K (pv 0)) qn))) zb)) (zc (fs K (pv 0) (yg qn)) (zc (zn (PW.pt (v0 (zl V6 (pv 1) (zjU rfl T.g_OPENING)) (vZ (xy (pv 2))))) (za (zj (yg (qc (zg Y H (qc (pv 1) qn)) qn)))) zr) (zc (zm (yz (K:=K) rfl m5 mo mr zdm (fl K (pv 0)) (QA.pa (qc (pv 1) qn)))) (za (zj (yg qn))))))))))
 .walk_at "ref"
 rintro _ gQ _ O R ⟨x,dx,p,b,c,rfl,hx,hg,hl,h⟩;apply gQ;have hT:∀{a:W}{k:Bool},a=.own p->(!decide (b=[]))=k->kj O a=some k:=λy Z=>by subst y Z;simp only[kj,hx.p];cases b<;>rfl
 refine yO (λm O'=>An3 (¬(b≠[]/\isLet c)) (m=[some (.own x),some (sgW c),none]) (O=O')) (λM l=>?_) ?_
 .by_cases hb:b=[]
  .walk_at "wd";exact⟨C,dx,_,hx.x,T.st.cl,T.st.n_begun,_,xX,.inl ⟨by simp[hx.p,hb],trivial,l _ _ ⟨λz=>z.1 hb,rfl,rfl⟩⟩⟩
  .walk_at "wd";refine⟨C,dx,_,hx.x,T.st.cl,T.st.n_begun,_,xX,.inr ⟨by simp[hx.p,hb],trivial,c,rfl,?_⟩⟩;show if decide (isLet c)=true then _ else _
   by_cases hlc:isLet c
   .have A:rdS b c=([],rwD b c):=l9 ⟨hb,hlc⟩;rw[A]at h;rw[l9 (lM hlc)];exact⟨dx,_,hx.x,by simp;decide,x,dx,p,b,c,rfl,hx,hb,hg,⋯,λq i O' r s t u v r6=>.inl (h q i O' r s (.inr t) u v r6)⟩
   .rw[l7 (by simpa using hlc)];exact l _ _ ⟨λz=>hlc z.2,rfl,rfl⟩
 rintro _ gQ _ _ ⟨U,rfl,rfl⟩;apply gQ;have es:s!";" =⟨#[59]⟩:=f!""
 have eo:s!"~" =⟨#[126]⟩:=f!""
 refine yO (λm O'=>An3 (¬(b≠[]/\(vc c\/c= 59))) (m=[some (.own x),some (sgW c),none]) (O=O')) (λM l=>?_) ?_
 .by_cases hb:b=[]
  .walk_at "wd";exact⟨C,dx,_,hx.x,T.st.cl,T.st.n_begun,_,xX,.inl ⟨by simp[hx.p,hb],trivial,l _ _ ⟨λz=>z.1 hb,rfl,rfl⟩⟩⟩
  .walk_at "wd";refine⟨C,dx,_,hx.x,T.st.cl,T.st.n_begun,_,xX,.inr ⟨by simp[hx.p,hb],trivial,c,rfl,?_⟩⟩;have o:=zgE hx (b++[c]);have I:VD O (.own p) (sgW c)=some (updO O p (.lst ((b++[c]).map sgW))):=by
    simp only[VD,hx.p];rw[l9 (by rw[l8];lia),lS];rfl
   have E:(vc c\/c= 59)->∃C dx fs,O x=some (.ins C dx fs)/\Cls K C/\NoAttr K C s!"begun"/\∃w,List.lookup s!"begun" fs=some w/\tyW "list" O w/\∃x,VD O w (sgW c)=some x/\∀(p:Addr),x p=none->Clo R (.own p) (updO x p (.lst [])):=λz=>by
    have A:rdS b c=(b++[c],[]):=by unfold rdS;rw[l7 U,l9 ⟨hb,z⟩]
    rw[A]at h;refine⟨C,dx,_,hx.x,T.st.cl,T.st.n_begun,_,xX,.inl ⟨rfl,by simp[seqL,hx.p]⟩,_,I,λq B=>?_⟩;obtain⟨r,s,t,u,v⟩:=Yu (L:=[]) o.1 o.2.1 o.2.2 B;exact .inl (h q p _ r s (.inl rfl) t u v)
   show if decide (vc c)=true then _ else _
   by_cases hf:vc c
   .rw[l9 (lM hf)];exact E (.inl hf)
   .rw[l7 (by simpa using hf),es];simp only[zbd];by_cases h59:c= 59
    .rw[l9 h59];exact E (.inr h59)
    .rw[l7 h59];refine l _ _ ⟨λz=>?_,rfl,rfl⟩;rcases z.2 with z|z
     .exact hf z
     .exact h59 z
 rintro _ gQ _ _ ⟨q2,rfl,rfl⟩;apply gQ;have A:rdS b c=if c≠126\/b.length= 1 then([],[xW c])else([126],[]):=by unfold rdS;rw[l7 U,l7 q2]
 rw[A]at h;refine Yw (λm O'=>m=[some (.own x),some (sgW c),some (.d (.bool (decide (b.length= 1))))]/\∃i,O i=none/\O'=updO (updO O i (.lst [])) x (.ins C dx [(s!"begun",.own i)])) (λM l=>?_) ?_
 .walk_at "wd";refine⟨C,dx,_,hx.x,T.st.cl,T.st.n_begun,_,xX,b.length,by simp[lenW,zU,seqL,hx.p],λi g=>?_⟩;have y:i≠x:=λe=>by rw[e,hx.x]at g;cases g
  refine⟨C,dx,_,by rw[ze (Ne.symm y)];exact hx.x,T.st.cl,T.st.n_begun,m!"",?_⟩;have ep:zM s!"begun" (W.own i) [(s!"begun",W.own p)]=[(s!"begun",.own i)]:=by simp[zM]
  rw[ep];exact l _ _ ⟨by rw[show decide ((b.length:Int)= 1)=decide (b.length= 1)from decide_eq_decide.mpr ⋯],i,g,rfl⟩
 rintro _ gQ _ n ⟨rfl,i,g,y⟩;apply gQ;obtain⟨D,Q,S⟩:=zgD hx g [] y;walk_at "wd";have N:(c≠126\/b.length= 1)->QR [sgW c] n λx n=>∀(p:Addr),n p=none->Clo R (.own p) (updO n p (.lst [x])):=λz=>by rw[l9 z]at h;refine⟨c,rfl,λq B=>?_⟩;obtain⟨r,s,t,u,v⟩:=Yu (L:=[.d (xW c)]) D Q S B;exact .inl (h q i _ r s (.inr g) t u v)
 rw[eo];simp only[zbd];by_cases hc:c= 126
 .rw[l9 hc];by_cases hl1:b.length= 1
  .rw[l9 hl1];exact N (.inr hl1)
  .rw[l7 hl1];rw[l7 (by rintro(z|z);exact z hc;exact hl1 z)]at h;have I:VD n (.own i) (sgW c)=some (updO n i (.lst ([126].map sgW))):=by
    simp only[VD,D.p];rw[l9 m!"",hc];rfl
   obtain⟨m1,m2,m3⟩:=zgE D [126];refine⟨C,dx,_,D.x,T.st.cl,T.st.n_begun,_,xX,.inl ⟨rfl,by simp[seqL,D.p]⟩,_,I,λq B=>?_⟩;have m4:Ho O (updO n i (.lst ([126].map sgW))) x p:=λa G h1 h2=>by rw[ze (λe=>G (by rw[e];exact g))];exact Q a G h1 h2
   obtain⟨r,s,t,u,v⟩:=Yu (L:=[]) m1 m4 (λa G=>S a (m3 a G)) B;exact .inl (h q i _ r s (.inr g) t u v)
 .rw[l7 hc];exact N (.inl hc)
seal PE PS PSs PT PA in
def Jf(F:Fun K "read" "Reader.read" qN f fd)(T:TxtR K mg C)(Q:CalT P w K mg base 3 "read_sign" C (liftSp K (zbb C))):F.j P w mg base 4 uX (zbc C):=by
 have X:=uX.nd;apply F.okG uX f!"l" (λhr=>(zc (zo 2 X (yg qn)) (zc (yD m6 rfl (zmS (pv 1)) (zy (i:=3) X rfl (Or.inl rfl)) (za (zm (yz (K:=K) rfl m5 PySem.F.slot_list_extend PySem.F.type_list_extend Jy (pv 2) (QA.pa (qc (vD Q hr (pv 0) (qc (pv 3) qn)) qn)))))) (za (zj (pv 2))))))
 .walk_at "ref"
 rintro _ gQ _ O R ⟨x,dx,p,b,z,rfl,hx,hg,hz,hl,h⟩;apply gQ;have J:∀i w,(ZD z)[i]? =some w->∃c,z.cps.toList[i]? =some c/\w=sgW c:=λi w e=>by unfold ZD at e;rw[lw]at e;obtain⟨c,A,rfl⟩:=mW.mp e;exact⟨c,A,rfl⟩
 have L:(ZD z).length=z.cps.toList.length:=by unfold ZD;rw[l8]
 have zs:z.length=z.cps.toList.length:=rfl;have M:=hz;walk_at "wd";refine λfo k=>⟨by simpa using M,?_⟩;have v:fo≠x:=λe=>by rw[e,hx.x]at k;cases k
 have A:fo≠p:=λe=>by rw[e,hx.p]at k;cases k
 refine zS.byG (λi ρ O'=>An4 ((∃N,ρ=[some (.own x),some (.d (.str z)),some (.own fo),N])) (O' fo=some (.lst ((rdF b (z.cps.toList.take i)).2.map .d))) (Ho O O' x p) (Ex1 λE=>An3 (RdAt C O' x dx E (rdF b (z.cps.toList.take i)).1) ((E=p\/O E=none)) (fo≠E))) ⟨⟨_,rfl⟩,zd,λa m _ _=>by rw[ze (λe=>m (by rw[e];exact k))],p,⟨by rw[ze (Ne.symm v)];exact hx.x,by rw[ze (Ne.symm A)];exact hx.p⟩,.inl rfl,A⟩ (λi ρ O' h=>trivial) ?_ ?_
 .rintro i w _ gQ _ u e ⟨⟨N,rfl⟩,g,r,p2,l,s,o⟩;refine gQ _ _ λR2 H=>?_;obtain⟨c,V,rfl⟩:=J i w e;have hi:=(lv.mp V).1;have et:z.cps.toList.take (i+1)=z.cps.toList.take i++[c]:=by rw[List.take_succ,V];rfl
  obtain⟨U,g2,g3⟩:=Uy (z.cps.toList.take i) hg;rw[lX]at g2 g3;have t:=za9 b (z.cps.toList.take i) c;rw[<-et]at t;obtain⟨g4,g5,g6⟩:=zba U c;simp only[xH];walk_at "wd";refine⟨.inl ⟨rfl,by simp[seqL,g]⟩,dx,_,l.x,by simp;decide,x,dx,p2,_,c,rfl,l,U,⋯,λq p3 O3 Y Z r3 r4 r5 r6=>?_⟩;have I:O3 fo=_:=(Z fo (by rw[g];simp) v o).trans g;have S:fo≠p3:=λe=>by
   rcases r3 with z|z
   .exact o (e.trans z)
   .rw[<-e,g]at z;cases z
  refine⟨q,rfl,_,I,_,r6,by rw[l8,l8];lia,H _ _ ⟨⟨_,rfl⟩,?_,λa m B D=>?_,p3,⟨?_,?_⟩,?_,S⟩⟩
  .rw[zd,t,lS]
  .have n1:a≠fo:=λe=>m (by rw[e];exact k);have W:u a=O a:=r a m B D;have n3:a≠p2:=λe=>by
    rcases s with z|z
    .exact D (e.trans z)
    .exact m (by rw[e];exact z)
   rw[ze n1,Z a (by rw[W];exact m) B n3,W]
  .rw[ze (Ne.symm v)];exact Y.x
  .rw[ze (Ne.symm S),t];exact Y.p
  .rcases r3 with z|z
   .rw[z];exact s
   .by_cases y:p3=p
    .exact .inl y
    .refine .inr (nL λn=>?_);have nx:p3≠x:=λe=>by rw[e,l.x]at z;cases z
     rw[r p3 n nx y]at z;exact n z
 .rintro _ u ⟨⟨N,rfl⟩,g,r,p2,l,s,o⟩;rw[L,my]at g l;walk_at "wd";have G:∀a,a≠fo->del u fo a=u a:=λa m=>by unfold del;rw[l7 m]
  exact .inr ⟨_,_,rfl,g,h p2 _ ⟨by rw[G _ (Ne.symm v)];exact l.x,by rw[G _ (Ne.symm o)];exact l.p⟩ (λa m B D=>by rw[G a (λe=>m (by rw[e];exact k))];exact r a m B D) s⟩
end
section
variable {base:Heap}
def zcK(F:Fun K "set_stop" "set_stop" (top 41) f fd)(T:Txt P w K mg C bw):F.k T base 1 XT (sSetStop C):=by
 apply F.okG XT f!"l" (λb=>(za (zia (zd9 b) (fl K (pv 0)) (fl K (pv 0)) zT rfl)))
 .walk_at "ref"
 rintro _ gQ _ O R ⟨x,dx,p,st,e,S,rfl,a,d,h⟩;apply gQ;have hx:=a.x;have c:=a.st;walk_at "go"
 .exact .inl (h _ ⟨by rw[ze a.xs];exact a.x,by rw[ze a.ps];exact a.p,by rw[zd,zgK];rfl,by rw[ze (neW a.kp a.st (by intro h;cases h))];exact a.kp⟩ (ButO.upd m!""))
 .simp[stK];lia
end
inductive sFeed (e C f:Addr) (ws:List W) (O:OM) (R:WK):Prop
 |mk:∀N S b z,ws=[.own N.x,.d (.str z)]->ScAt O e C f N S b->Fit S->okG b->(∀c∈z.cps.toList,okF c)->(∀r∈rsF b z.cps.toList,LtR r)->b.length+z.length<=80000->(∀q a O',a.x=N.x->O q=none->O' q=some (.lst (((runA (rsF b z.cps.toList) S).map .str).map .d))->q∉a.l->ScAt O' e C f a (runS (rsF b z.cps.toList) S) (rdF b z.cps.toList).1->Fr O O' N.l a.l->R (.own q) O')->sFeed e C f ws O R
def zdF{r:Rea}(h:LtR r):rdA r S=[]:=by
 cases r with
 |row c ns=>exact l7 λe=>by subst e;exact absurd (mC (p:=113∈ls30) h) ∅
 |_=>rfl
def zlB{m k:Str}{v:W}{fs:List (Str×W)}(e:fs=[(k,v)])(h:(m==k)=false):fs.lookup m=none:=by
 rw[e];simp[List.lookup,h]
def zjk{m k j:Str}{v u:W}{fs:List (Str×W)}(e:fs=[(k,v),(j,u)])(h:(m==k)=false)(h':(m==j)=false):fs.lookup m=none:=by
 rw[e];simp[List.lookup,h,h']
section
variable {base:Heap}{cD cS cL cT cR cQ cN:Addr}
seal PE PS PSs PT PA in
def Jg(F:Fun K "__init__" "Screen.__init__" vt f fd)(T:Txt P w K mg C bw)(N:TxtS K mg cN)(M:CalM P w K mg base 4 "State" C (liftSp K (sInit C)))(Q:CalM P w K mg base 1 "Reader" cQ (liftSp K (zgC cQ))):F.k T base 6 qq (sInitN cN C cQ):=by
 apply F.okG qq f!"l" (λd=>(zc (fs K (pv 0) (ql M (d.mono ∅) rfl (QA.pa (qc (pv 1) (qc (pv 2) qn))))) (za (fs K (pv 0) (zkX Q (d.mono ∅) rfl)))))
 .walk_at "ref"
 rintro _ gQ _ O R ⟨x,dx,w,h,rfl,hx,w1,w2,U,V,W⟩;apply gQ;walk_at "wd";refine λy g Z=>⟨y,g,w,h,rfl,zd,w1,w2,U,V,λp st kp s n1 n2 n3 Y X=>⟨rfl,?_⟩⟩;obtain⟨n,H⟩:=ziS (dx:=g) Z n1 n2 n3 X;have u:At s C ⟨y,g,p,st,kp⟩ (st0 w h λ_ _=>blank 0):=Y;have B:s x=some (.ins cN dx []):=by rw[n x (by rw[hx];simp)];exact hx
 refine⟨cN,dx,[],B,N.st.cl,N.st.n_state,∅,λr G d=>⟨r,G,rfl,zd,λq L m1 I m3=>⟨rfl,?_⟩⟩⟩;obtain⟨E,m,j3⟩:=zkZ d m1 m3;have J:x∉Sd.l ⟨y,g,p,st,kp⟩:=λz=>by rw[H x z]at hx;cases hx
 have j:=u.upd (o:=.ins cN dx (zM "state" (.own y) [])) J;have v:=j.old E;have D:L x=some (.ins cN dx (zM "state" (.own y) [])):=by rw[E x (by rw[zd];simp),zd]
 have xr:x≠r:=λe=>by rw[<-e,zd]at d;cases d
 have xq:x≠q:=λe=>by rw[<-e,zd]at m;cases m
 have c:∀a,updO s x (.ins cN dx (zM "state" (.own y) [])) a=none->O a=none:=λa i=>by
  by_cases e:a=x
  .rw[e,zd]at i;cases i
  .rw[ze e]at i;exact n.new i
 refine⟨cN,dx,_,D,N.st.cl,N.st.n_reader,(by decide:1<1000),.inl (W ⟨x,dx,⟨y,g,p,st,kp⟩,r,G,q⟩ _ rfl (λa i=>?_) ⟨zd,v.upd J,⟨by rw[ze (Ne.symm xr)];exact I.x,by rw[ze (Ne.symm xq)];exact I.p⟩,λe=>?_⟩ λb A t=>?_)⟩
 .rcases lu.mp (show a∈x::(Sd.l ⟨y,g,p,st,kp⟩++[r,q])from i)with z|z
  .exact .inl z
  .rcases ls.mp z with z|z
   .exact .inr (H a z)
   .simp only[lu,lF,ma]at z;rcases z with rfl|rfl
    .exact .inr (c _ d)
    .exact .inr (c _ m)
 .have S:q=kp:=e;have:=j.kp;rw[<-S,m]at this;cases this
 .rw[ze A,E b (by rw[ze A,n b t];exact t),ze A,n b t]
seal PE PS PSs PT PA in
def Jh(F:Fun K "feed" "Screen.feed" qO f fd)(T:Txt P w K mg C bw)(N:TxtS K mg cN)(D:Dds K mg cD cS cL cT cR)(wk:CalT P w K mg base 4 "read" cQ (liftSp K (zbc cQ)))(wx:T.c base 3 "deed_of" (sDeedOf cS cL cT cR))(wm:CalT P w K mg base 6 "do" cS (liftSp K (sDeedDo C (aS cS))))(wj:CalT P w K mg base 1 "do" cL (liftSp K sNo))(wn:CalT P w K mg base 1 "do" cT (liftSp K sNo))(wl:CalT P w K mg base 8 "do" cR (liftSp K (sDeedDo C (aR3 cR)))):F.k T base 9 uY (sFeed cN C cQ):=by
  have nd:=uY.nd;apply F.okG uY f!"l" (λt=>(zc (zo 2 nd (yg qn)) (zc (yD m6 rfl (xu (K:=K) rfl (vD wk t (fl K (pv 0)) (qc (pv 1) qn))) (zy (i:=3) nd rfl (Or.inl rfl)) (za (zm (yz (K:=K) rfl m5 PySem.F.slot_list_extend PySem.F.type_list_extend Jy (pv 2) (QA.pa (qc (zbp (vD wm t (zg wx t (qc (pv 3) qn)) (qc (fl K (pv 0)) qn)) (zbp (vD wj t (zg wx t (qc (pv 3) qn)) (qc (fl K (pv 0)) qn)) (zbp (vD wn t (zg wx t (qc (pv 3) qn)) (qc (fl K (pv 0)) qn)) (vD wl t (zg wx t (qc (pv 3) qn)) (qc (fl K (pv 0)) qn))))) qn)))))) (za (zj (pv 2))))))
  · walk_at "ref"
  rintro _ gQ _ O R ⟨M,S,b,z,rfl,hM,hF,hb,hz,U,hl,h⟩;apply gQ;refine yO (λwo O'=>Ex1 λan=>An3 (O an=none) (wo=[some (.own M.x),some (.d (.str z)),some (.own an),none]) (O'=updO O an (.lst []))) (λR1 we=>?_) ?_
  · walk_at "wd"
    exact λan m=>we _ _ ⟨an,m,rfl,rfl⟩
  rintro _ gQ _ _ ⟨an,m,rfl,rfl⟩;apply gQ;have oU:Old O (updO O an (.lst [])):=Old.up m;have J:=hM.old oU;obtain⟨xd,xe,wb⟩:=hM.dj;have wq:okG (rdF b z.cps.toList).1:=(Uy z.cps.toList hb).1;have xp:=UO hb hz;have wu:=zlk (cs:=z.cps.toList) hb;have wv:z.length=z.cps.toList.length:=rfl;have xr:z.cps.all (· < 128)=true:=by rw[oW];intro c hc;have:=hz c (pp.mpr hc);unfold okF at this;exact lM ⋯
  have r6:∀r∈rsF b z.cps.toList,∀S,(rdA r S).length<=6:=λr t S=>by rw[zdF (U r t)];exact lY _
  walk_at "wd";refine⟨cN,M.dx,_,J.x,N.st.cl,N.st.n_reader,_,JQ,M.rx,rfl,M.rdx,_,J.r.x,λa b wg=>by cases lf.mp wg;decide +kernel,M.rx,M.rdx,M.rp,b,z,rfl,J.r,hb,xr,⋯,λy O2 g1 g2 g3=>?_⟩;rw[UN];generalize hrs:rsF b z.cps.toList=rs at *;have f2:=zox g2 g3;refine⟨_,rfl,?_⟩;have ys:O2 an=some (.lst [])/\an ∉ [M.rx,y]:=f2 an _ zd (fun w=>by
    simp only[lu,lF,ma]at w;rcases w with rfl|rfl
    · rw[hM.r.x]at m;cases m
    · rw[hM.r.p]at m;cases m)
  obtain⟨wc,wa⟩:=f2.at J.a xe.symm;have xq:=f2 M.x _ J.x wb;have xO:an∉M.A.l:=λw=>by obtain⟨o,e⟩:=hM.a.nn an w;rw[m]at e;cases e
  refine zS.byG (λi ρ O'=>Ex2 λj v3=>An6 (j.x=M.A.x) (ρ=[some (.own M.x),some (.d (.str z)),some (.own an),v3]) (At O' C j (runS (rs.take i) S)) (O' an=some (.lst (((runA (rs.take i) S).map .str).map .d))) (an∉j.l) (∀a o,O2 a=some o->a∉M.A.l->a≠an->O' a=some o/\a∉j.l)) ⟨M.A,_,rfl,rfl,wc,ys.1,xO,λa o e ha _=>⟨e,ha⟩⟩ (λ_ _ _ _=>rfl) ?_ ?_
  · rintro i u _ gQ _ O3 hu ⟨j,v3,ex,rfl,I,v,H,E⟩
    refine gQ _ _ λR2 wf=>?_;obtain⟨r,t,rfl⟩:∃r,rs[i]? =some r/\u=.d (rdD r):=by
      rw[lw,lw]at hu;cases e:rs[i]? with
      |none=>rw[e]at hu;cases hu
      |some r=>rw[e]at hu;cases hu;exact⟨r,rfl,rfl⟩
    have wr:i<rs.length:=(lv.mp t).1;have V:=xp r (lE t);have et:rs.take (i+1)=rs.take i++[r]:=by rw[nv,t];rfl
    have xl:Fit (runS (rs.take i) S):=hF.run λx hx=>xp x (md hx);have X:=E M.x _ xq.1 xd (λe=>by rw[<-e,hM.x]at m;cases m);simp only[xH];have lA:((runA (rs.take i) S).map PyData.str).length<=500000:=by
      have q:=zbz (rs:=rs.take i) (S:=S) λx hx=>r6 x (md hx);have q2:=List.length_take_le i rs;rw[l8]
      lia
    have lB:=r6 r (lE t) (runS (rs.take i) S);have wp:O3 M.A.x=some (.ins C j.dx (fldW j.p j.st j.kp (runS (rs.take i) S))):=by rw[<-ex];exact I.x
    have step:∀d B,O3 d=none->Old O3 B->∀q Z L O5,B q=none->O5 q=some (.lst (((rdA r (runS (rs.take i) S)).map .str).map .d))->q≠L->Nxt B O5 C j.x j.dx j.p j.st j.kp Z L (rdS' r (runS (rs.take i) S))->
        ∃l b ws us,W.own an=.own l/\[W.own q]=[.own b]/\O5 l=some (.lst ws)/\O5 b=some (.lst us)/\ws.length+us.length<=10000000/\R2 [some (.own M.x),some (.d (.str z)),some (.own an),some (.d (rdD r))] (updO O5 l (.lst (ws++us))):=λd B Y G q Z L O5 wt wh nk N5=>by
      have xs:B an=_:=(G an (by rw[v];simp)).trans v;have f5:=N5.fr;obtain⟨xA,zs⟩:=f5 an _ xs H;refine⟨an,q,_,_,rfl,rfl,xA,wh,by simp only[l8]at lA ⊢;lia,wf _ _ ⟨⟨j.x,j.dx,j.p,Z,L⟩,_,ex,rfl,?_,?_,zs,λa o e ha hn=>?_⟩⟩
      · rw[et,ziV]
        exact At.upd (A:=⟨j.x,j.dx,j.p,Z,L⟩) N5.s zs
      · rw[zd,et,ziW,lS,lS]
      · obtain⟨e3,a3⟩:=E a o e ha hn
        obtain⟨e5,a5⟩:=f5 a o ((G a (by rw[e3];simp)).trans e3) a3;exact⟨by rw[ze hn];exact e5,a5⟩
    have ty:tyW "list" O3 (.own an):=.inl ⟨rfl,by simp[seqL,v]⟩;have xk:∀B,Old O3 B->B M.x=some (.ins cN M.dx (scF j.x M.rx)):=λB G=>by rw[G M.x (by rw[X.1];simp),X.1,ex]
    unfold qe wBM;show zO 2 _ O3 _;unfold zO;refine⟨ty,?_⟩;cases r with
    |sign c=>refine .inl ⟨_,rfl,V,λd B Y n G=>?_⟩;obtain⟨dd,n⟩:=n;exact⟨d,dd,_,rfl,n,zlB rfl f!"",cN,M.dx,_,xk B G,N.st.cl,N.st.n_state,_,uQ,_,24,d,j.x,j.dx,j.p,j.st,j.kp,_,rfl,⟨c,dd,rfl,n⟩,V,∅,∅,I.old G,xl.g,step d B Y G⟩
    |line=>exact absurd (U _ (lE t)) lN
    |tab=>exact absurd (U _ (lE t)) lN
    |row c ns=>refine .inr (.inr (.inr ⟨_,rfl,V,λd B Y n G=>?_⟩));obtain⟨dd,n⟩:=n;exact⟨d,dd,_,rfl,n,zjk rfl f!"" f!"",cN,M.dx,_,xk B G,N.st.cl,N.st.n_state,_,uQ,_,24,d,j.x,j.dx,j.p,j.st,j.kp,_,rfl,⟨c,ns,dd,rfl,mC (U _ (lE t)),n⟩,V,∅,∅,I.old G,xl.g,step d B Y G⟩
  · rintro _ O3 ⟨j,v3,ex,rfl,I,v,H,E⟩
    rw[l8,l8,my]at *;have nx:M.x≠an:=λe=>by rw[<-e,hM.x]at m;cases m
    have xb:=ys.2;simp only[lu,lF,ma,np]at xb;have rA:M.rx∉M.A.l:=xe M.rx m!"";have pA:y∉M.A.l:=λw=>wa y w m!"";have X:=E M.x _ xq.1 xd nx;have wi:=E M.rx _ g1.x rA (Ne.symm xb.1);have xo:=E y _ g1.p pA (Ne.symm xb.2);refine .inl (h an ⟨M.x,M.dx,j,M.rx,M.rdx,y⟩ O3 rfl m v ?_ ⟨by rw[X.1,ex],I,⟨wi.1,xo.1⟩,λe=>xo.2 (by rw[show y=j.kp from e];simp[Sd.l])⟩ λa o e ha=>?_)
    · show an∉M.x::(j.l++[M.rx,y])
      rw[lu,ls,np,np];exact⟨Ne.symm nx,H,ys.2⟩
    · have Q:a∉M.x::(M.A.l++[M.rx,M.rp]):=ha
      rw[lu,ls,np,np]at Q;have na:a≠an:=λw=>by rw[w,m]at e;cases e
      obtain⟨e2,a2⟩:=f2 a o (by rw[ze na];exact e) Q.2.2;obtain⟨e3,a3⟩:=E a o e2 Q.2.1 na;refine⟨e3,?_⟩;show a∉M.x::(j.l++[M.rx,y]);rw[lu,ls,np,np];exact⟨Q.1,a3,a2⟩
seal PE PS PSs PT PA in
def kU(F:Fun K "told_picture" "Screen.told_picture" xE f fd)(T:Txt P w K mg C bw)(N:TxtS K mg cN)(j:T.c base 1 "copied" sCopied):F.k T base 2 vz (sTellN cN C cQ tPic):=by
 apply F.okG vz f!"l" (λi=>(za (zj (zg j i (qc (fl K (fl K (pv 0))) qn)))))
 .walk_at "ref"
 rintro _ gQ _ O R ⟨M,S,b,rfl,d,e,l,h⟩;apply gQ;walk_at "wd";exact⟨cN,M.dx,_,d.x,N.st.cl,N.st.n_state,_,uQ,C,M.A.dx,_,d.a.x,T.st.cl,T.st.n_picture,_,ya,M.A.p,_,_,_,rfl,d.a.p,e.g.b.h2,.inl h⟩
seal PE PS PSs PT PA in
def VT(F:Fun K "cursor" "Screen.cursor" uw f fd)(T:Txt P w K mg C bw)(N:TxtS K mg cN):F.k T base 1 jH (sTellN cN C cQ tCur):=by
 apply F.okG jH f!"l" (λe=>(za (zj (zC (qc (fl K (fl K (pv 0))) (qc (fl K (fl K (pv 0))) qn))))))
 .walk_at "ref"
 rintro _ gQ _ O R ⟨M,S,b,rfl,a,c,d,h⟩;apply gQ;refine UM ?_;unfold Ye;refine vd rfl a N.st T.st.cl T.st.n_row xz ?_;refine vd rfl a N.st T.st.cl T.st.n_column yn ?_;exact⟨_,rfl,(by decide:2<=1000),.inl h⟩
seal PE PS PSs PT PA in
def XC(F:Fun K "is_late" "Screen.is_late" vO f fd)(T:Txt P w K mg C bw)(N:TxtS K mg cN):F.k T base 1 qV (sTellN cN C cQ tLate):=by
 apply F.okG qV f!"l" (λe=>(za (zj (fl K (fl K (pv 0))))))
 .walk_at "ref"
 rintro _ gQ _ O R ⟨M,S,b,rfl,a,c,d,h⟩;apply gQ;exact UM (ziX rfl a N.st T.st.cl T.st.n_late yX (.inl h))
seal PE PS PSs PT PA in
def Y0(F:Fun K "told_ink" "Screen.told_ink" vv f fd)(T:Txt P w K mg C bw)(N:TxtS K mg cN):F.k T base 1 qr (sTellN cN C cQ tInk):=by
 apply F.okG qr f!"l" (λe=>(za (zj (fl K (fl K (pv 0))))))
 .walk_at "ref"
 rintro _ gQ _ O R ⟨M,S,b,rfl,a,c,d,h⟩;apply gQ;exact UM (ziX rfl a N.st T.st.cl T.st.n_ink xB (.inl h))
seal PE PS PSs PT PA in
def U9(F:Fun K "modes" "Screen.modes" uZ f fd)(T:Txt P w K mg C bw)(N:TxtS K mg cN):F.k T base 1 kd (sTellN cN C cQ tMod):=by
 apply F.okG kd f!"l" (λe=>(za (zj (zC (qc (fl K (fl K (pv 0))) (qc (fl K (fl K (pv 0))) (qc (fl K (fl K (pv 0))) qn)))))))
 .walk_at "ref"
 rintro _ gQ _ O R ⟨M,S,b,rfl,a,c,d,h⟩;apply gQ;refine UM ?_;unfold Ye;refine vd rfl a N.st T.st.cl T.st.n_wrap yY ?_;refine vd rfl a N.st T.st.cl T.st.n_putting yb ?_;refine vd rfl a N.st T.st.cl T.st.n_home yZ ?_;exact⟨_,rfl,(by decide:3<=1000),.inl h⟩
seal PE PS PSs PT PA in
def VU(F:Fun K "window" "Screen.window" uy f fd)(T:Txt P w K mg C bw)(N:TxtS K mg cN):F.k T base 1 jI (sTellN cN C cQ tWin):=by
 apply F.okG jI f!"l" (λe=>(za (zj (zC (qc (fl K (fl K (pv 0))) (qc (fl K (fl K (pv 0))) (qc (fl K (fl K (pv 0))) (qc (fl K (fl K (pv 0))) qn))))))))
 .walk_at "ref"
 rintro _ gQ _ O R ⟨M,S,b,rfl,a,c,d,h⟩;apply gQ;refine UM ?_;unfold Ye;refine vd rfl a N.st T.st.cl T.st.n_top xC ?_;refine vd rfl a N.st T.st.cl T.st.n_bottom yo ?_;refine vd rfl a N.st T.st.cl T.st.n_left y0 ?_;refine vd rfl a N.st T.st.cl T.st.n_right yC ?_;exact⟨_,rfl,(by decide:4<=1000),.inl h⟩
seal PE PS PSs PT PA in
def ZY(F:Fun K "told_stops" "Screen.told_stops" xQ f fd)(T:Txt P w K mg C bw)(N:TxtS K mg cN):F.k T base 1 uz (sTellN cN C cQ tStp):=by
 apply F.okG uz f!"l" (λi=>(za (zj (zH (zk5 rfl) (by rfl) T.n_sorted (by rfl) (QA.pa (qc (fl K (fl K (pv 0))) qn))))))
 .walk_at "ref"
 rintro _ gQ _ O R ⟨M,S,b,rfl,c,d,e,h⟩;apply gQ;walk_at "wd";have l:=d.g.s;exact⟨cN,M.dx,_,c.x,N.st.cl,N.st.n_state,_,uQ,C,M.A.dx,_,c.a.x,T.st.cl,T.st.n_stops,_,yr,M.A.st,rfl,_,c.a.st,S.stops,by unfold stK;rw[lT];rfl,⋯,.inl h⟩
seal PE PS PSs PT PA in
def Z3(F:Fun K "many_kept" "Screen.many_kept" x6 f fd)(T:Txt P w K mg C bw)(N:TxtS K mg cN):F.k T base 1 uF (sTellN cN C cQ tKep):=by
 apply F.okG uF f!"l" (λi=>(za (zj (zH (xI (K:=K) rfl) (by rfl) T.n_len (by rfl) (QA.pa (qc (fl K (fl K (pv 0))) qn))))))
 .walk_at "ref"
 rintro _ gQ _ O R ⟨M,S,b,rfl,c,d,g,h⟩;apply gQ;walk_at "wd";have e:lenW O (.own M.A.kp)=some S.kept.length:=by simp[lenW,zU,seqL,c.a.kp]
 exact⟨cN,M.dx,_,c.x,N.st.cl,N.st.n_state,_,uQ,C,M.A.dx,_,c.a.x,T.st.cl,T.st.n_kept,_,y6,_,e,.inl h⟩
seal PE PS PSs PT PA in
def Y1(F:Fun K "open_row" "Screen.open_row" vw f fd)(T:Txt P w K mg C bw)(N:TxtS K mg cN)(e:CalT P w K mg base 1 "open_row" cQ (liftSp K (Uz cQ))):F.k T base 2 qt (sTellN cN C cQ tOpn):=by
 apply F.okG qt f!"l" (λg=>(za (zj (zQ e (g.mono ∅) (fl K (pv 0))))))
 .walk_at "ref"
 rintro _ gQ _ O R ⟨M,S,b,rfl,c,i,j,h⟩;apply gQ;walk_at "wd";exact⟨cN,M.dx,_,c.x,N.st.cl,N.st.n_reader,_,JQ,M.rx,rfl,M.rdx,_,c.r.x,λa b d=>by cases lf.mp d;decide +kernel,M.rx,M.rdx,M.rp,b,rfl,c.r,⋯,.inl h⟩
end
abbrev okRi(r:Rw6):Prop:=∀c∈r,zio c/\0<=c.2/\c.2<512
def zfA(w:Nat):okRi (yE w):=λc a=>⟨JV w c a,by rw[nR a];exact⟨∅,∅⟩⟩
inductive sRow30 (ws:List W) (O:OM) (R:WK):Prop
 |mk:∀n w:Int,ws=[.d (.int n),.d (.int w)]->0<=n->n<1000000000000->1<=w->w<=24->(∀r:Rw6,∀O',r.length=w.toNat->okRi r->Old O O'->R (.d (rowC r)) O')->sRow30 ws O R
inductive sPic30 (ws:List W) (O:OM) (R:WK):Prop
 |mk:∀ns:List Int,∀first w h:Nat,ws=[.d (.list (ns.map .int)),.d (.int first),.d (.int w),.d (.int h)]->first<=10->1<=w->w<=24->1<=h->h<=12->(∀p O',p.length=h->(∀r∈p,r.length=w/\okRi r)->Old O O'->R (.d (rowsC p)) O')->sPic30 ws O R
section
variable {base:Heap}
seal PE PS PSs PT PA in
def zb6(F:Fun K "_law_mixed" "_law_mixed" (top 109) f fd)(T:Txt P w K mg C bw)(e:T.c base 1 "_law_cell_at" k7):F.k T base 2 qP sMix6:=by
 have i:=qP.nd;apply F.okG qP f!"l" (λg=>(zc (zo 2 i (zf zA (zf zw (zf zw (zf vT (zg e g (qc (pv 0) (qc (pv 1) qn))) zb) (zf vT zb (pv 1))) zb) zb)) (za (zj (zf zA (zf vT (pv 2) (zf zw (pv 2) (zf vT zb (pv 1)))) zb)))))
 .walk_at "rf7"
 rintro _ gQ _ O R ⟨ns,k,rfl,l,h⟩;apply gQ;refine yO (λb O'=>Ex1 λ(n:Int)=>An4 (0<=n) (n<2147483647) (b=[some (.d (.list (ns.map .int))),some (.d (.int k)),some (.d (.int n))]) (O=O')) (λj a=>?_) ?_
 .walk_at "wd7";exact⟨ns,rfl,k,rfl,mulR ∅ ∅,mulL ∅ ∅,a _ _ ⟨_,mw _ ∅,m8 _ ∅,rfl,rfl⟩⟩
 rintro _ gQ _ _ ⟨n,m,o,rfl,rfl⟩;apply gQ;walk_at "wd7";exact⟨mulL ∅ ∅,mulL ⋯ ⋯,.inl (h _ (mw _ ∅) (m8 _ ∅))⟩
seal PE PS PSs PT PA in
def zfB(F:Fun K "_law_ink" "_law_ink" (top 110) f fd)(T:Txt P w K mg C bw):F.k T base 1 XX sInk6:=by
 apply F.okG XX f!"l" (λa=>(zc (zn (zl zx (zf zA (pv 0) zb) zb) (za (zj (zf zA (zf zB (pv 0) zb) zb))) zr) (za (zj (zp (xx (K:=K) rfl) (yB (qc zb (qc zb (qc zb (qc zb (qc zb (qc zb qn))))))) (zf zA (zf zB (pv 0) zb) zb))))))
 .walk_at "rf7"
 rintro _ gQ _ O R ⟨n,rfl,b,h⟩;apply gQ;walk_at "go";refine j4 (λe=>?_) (λe=>?_)
 .walk_at "go";exact .inl (h _ ⋯ ⋯)
 .walk_at "go";have e:n / 5%6=0\/n / 5%6=1\/n / 5%6=2\/n / 5%6=3\/n / 5%6=4\/n / 5%6=5:=⋯
  rcases e with e|e|e|e|e|e<;>rw[e]<;>exact zfl rfl rfl (.inl (h _ ∅ ∅))
seal PE PS PSs PT PA in
def zcL(F:Fun K "_law_sign" "_law_sign" (top 111) f fd)(T:Txt P w K mg C bw):F.k T base 1 jK sSign6:=by
 have j:=jK.nd;apply F.okG jK f!"l" (λm=>(zc (zo 1 j zh) (zc (zo 1 j (zf zq (pv 1) zh)) (za (zj (zp (xx (K:=K) rfl) (yB (qc zh (qc (zp zf3 zh (zf zA (zf zB (pv 0) zb) zb)) (qc (zp zf3 (pv 1) (zf zA (zf zB (pv 0) zb) zb)) (qc zh qn))))) (zf zA (pv 0) zb)))))))
 .walk_at "rf7"
 rintro _ gQ _ O R ⟨n,rfl,o,h⟩;apply gQ;walk_at "wd7";have e:=znp (n / 4);obtain⟨x,a,b,hx⟩:∃x,32<=x/\x<=126/\atI s!"ab~ ".cps.toList (n / 4%4)=some x:=by
  rcases e with e|e|e|e<;>rw[e]
  .exact⟨97,∅,∅,f!""⟩
  .exact⟨98,∅,∅,f!""⟩
  .exact⟨126,∅,∅,f!""⟩
  .exact⟨32,∅,∅,f!""⟩
 obtain⟨y,c,d,i⟩:=zmW ⟨(n / 4%94).toNat,⋯⟩;rw[show(((⟨(n / 4%94).toNat,⋯⟩:_root_.Fin 94).val:Nat):Int)=n / 4%94 from pL ⋯]at i;have g:∀k,k<=1000->k<=sizeLine:=λk l=>by rw[lI];lia
 refine⟨g _ f!"",⟨⋯,⋯⟩,g _ f!"",x,hx,⟨⋯,⋯⟩,g _ f!"",y,i,_,rfl,?_⟩;have e:=znp n;rcases e with e|e|e|e<;>rw[e]
 .exact⟨_,rfl,.inl (h 32 ∅ ∅)⟩
 .exact⟨_,rfl,.inl (h x a b)⟩
 .exact⟨_,rfl,.inl (h y c d)⟩
 .exact⟨_,rfl,.inl (h 97 ∅ ∅)⟩
seal PE PS PSs PT PA in
def zfC(F:Fun K "_law_row" "_law_row" (top 112) f fd)(T:Txt P w K mg C bw)(L:T.c base 1 "_law_ink" sInk6)(S:T.c base 1 "_law_sign" sSign6):F.k T base 2 kP sRow30:=by
 have t:=kP.nd;apply F.okG kP f!"l" (λE=>(zc (zo 2 t (yg qn)) (zc (zo 3 t (zg L E (qc (pv 0) qn))) (zc (yD m6 rfl (yl rfl T.n_range (QA.pa (qc (pv 1) qn))) (zy (i:=4) t rfl (Or.inl rfl)) (zc (zo 0 t (zf zw (zf zA (zf vT (pv 0) zb) zb) (pv 4))) (zc (zn (zl zx (zf zA (pv 0) zb) zb) (za (zo 3 t (zg L E (qc (zf zB (pv 0) zb) qn)))) zr) (za (zm (yz (K:=K) rfl m5 mo mr xF (pv 2) (QA.pa (qc (zC (qc (zg S E (qc (zf zB (pv 0) zb) qn)) (qc (pv 3) qn))) qn)))))))) (za (zj (pv 2)))))))
 .walk_at "rf7"
 rintro _ gQ _ O R ⟨n,m,rfl,s,A,V,W,h⟩;apply gQ;walk_at "wd7";intro p D;refine⟨n,rfl,s,λi N Q=>⟨⋯,⋯,?_⟩⟩;refine zS.rngG (f:=λi=>(i:Int)) (λi ρ O'=>Old O O'/\∃G,∃n k:Int,∃r:Rw6,ρ=[some (.d (.int n)),some (.d (.int m)),some (.own p),some (.d (.int k)),G]/\O' p=some (.lst ((r.map celD).map .d))/\r.length=i/\okRi r/\0<=n/\n<1000000000000/\0<=k/\k<512) ⟨Old.refl.upd D,_,_,_,[],rfl,zd,rfl,(show okRi []from λz hz=>by cases hz),s,A,N,Q⟩ ?_ ?_
 .rintro i _ gQ _ y U ⟨e,G,n,k,r,rfl,a,b,g,s,A,j,l⟩;refine gQ _ _ λR2 B=>?_;have M:i<24:=⋯
  have J:∀w,jh y (.own p) w=some (updO y p (.lst ((r.map celD).map .d++[w]))):=λw=>by simp only[jh,a];rw[l9 (by rw[l8,l8];lia)]
  walk_at "wd7";refine⟨mulL ⋯ ⋯,?_⟩;have H:0<=n*16807%998244353+(i:Int):=⋯
  have I:n*16807%998244353+(i:Int)<1000000000000:=⋯
  generalize n*16807%998244353+(i:Int)=n2 at H I ⊢;clear s A;have o:∀(q:Nat) (k:Int),32<=q->q<=126->0<=k->k<512->R2 [some (.d (.int n2)),some (.d (.int m)),some (.own p),some (.d (.int k)),some (.d (.int i))] (updO y p (.lst ((r.map celD).map .d++[.d (.tuple [.str ⟨#[q]⟩,.int k])]))):=λq k u v j l=>
   B _ _ ⟨e.upd D,_,_,_,r ++ [(⟨#[q]⟩,k)],rfl,by rw [zd,lS,lS];rfl,by simp [b],fun x hx=>by
     rcases ls.mp hx with hx|hx
     .exact g x hx
     .cases lf.mp hx;exact⟨⟨q,u,v,rfl⟩,j,l⟩,H,I,j,l⟩
  split
  .exact⟨⟨⋯,⋯⟩,_,rfl,⋯,λk j l=>⟨.inl ⟨rfl,by simp[seqL,a]⟩,⟨⋯,⋯⟩,_,rfl,⋯,λq u v=>⟨_,rfl,by show 2<=1000;lia,_,J _,o q k u v j l⟩⟩⟩
  .exact⟨.inl ⟨rfl,by simp[seqL,a]⟩,⟨⋯,⋯⟩,_,rfl,⋯,λq u v=>⟨_,rfl,by show 2<=1000;lia,_,J _,o q k u v j l⟩⟩
 .rintro _ y ⟨e,G,n,k,r,rfl,a,b,g,s,A,j,l⟩;walk_at "wd7";exact .inr ⟨_,_,rfl,a,h r _ b g (e.del D)⟩
end
def zb7:∀n:_root_.Fin 512,(n.val &&& 64=0↔¬n.val / 64%2=1)/\(n.val &&& 128=0↔¬n.val / 128%2=1)/\(n.val &&& 256=0↔¬n.val / 256%2=1)/\n.val &&& 7 =n.val%8/\(n.val / 8) &&& 7 =n.val / 8%8:=f!""
section
variable {base:Heap}
end
abbrev exS(s:SpW):SpW:=λws O R=>s ws O λw O'=>Old O O'/\R w O
abbrev natD(n:Nat):PyData:=.int (n:Int)
abbrev inkN(n:Nat):List PyData:=[natD 0]++((if n / 64%2=1 then[natD 1]else[])++(if n / 128%2=1 then[natD 2]else[])++(if n / 256%2=1 then[natD 3]else[]))++[natD (10+n%8),natD (20+n / 8%8)]
inductive sInkS (ws:List W) (O:OM) (R:WK):Prop
 |mk:∀n:Nat,ws=[.d (.int n)]->n<512->(∀O',Old O O'->R (.d (.str (rowT 99 (inkN n)))) O')->sInkS ws O R
inductive sPlaceS (ws:List W) (O:OM) (R:WK):Prop
 |mk:∀r c:Nat,ws=[.d (.int r),.d (.int c)]->r<=30->c<=30->(∀O',Old O O'->R (.d (.str (rowT 103 [natD (r+1),natD (c+1)]))) O')->sPlaceS ws O R
inductive sMovS (ws:List W) (O:OM) (R:WK):Prop
 |mk:∀l r m:Nat,ws=[.d (.str ⟨#[l]⟩),.d (.int r),.d (.int m)]->isLet l->r<=30->m<=30->(∀O',Old O O'->R (.d (.str (rowT 103 [natD (r+1)]++rowT l [natD m]))) O')->sMovS ws O R
def xg(h:n<=999):Num3 (natD n):=by
 unfold natD;exact⟨nX _,⋯⟩
abbrev xR(n:Nat):List PyData:=(if n / 64%2=1 then[natD 1]else[])++(if n / 128%2=1 then[natD 2]else[])++(if n / 256%2=1 then[natD 3]else[])
def Ji(n:Nat):(xR n).length<=3/\∀m∈xR n,Num3 m:=by
 have a:∀(c:Prop) [Decidable c] (k:Nat),k<=999->(if c then[natD k]else[]).length<=1/\∀m∈(if c then[natD k]else[]),Num3 m:=λc _ k f=>by
  split
  .exact⟨ll _,λm hm=>by cases lf.1 hm;exact xg f⟩
  .exact⟨lY _,λm hm=>(nomatch hm)⟩
 obtain⟨g,b⟩:=a (n / 64%2=1) 1 ∅;obtain⟨h,d⟩:=a (n / 128%2=1) 2 ∅;obtain⟨i,e⟩:=a (n / 256%2=1) 3 ∅;unfold xR;refine⟨by rw[lx,lx];lia,λm hm=>?_⟩;rcases ls.1 hm with hm|hm
 .rcases ls.1 hm with hm|hm
  .exact b m hm
  .exact d m hm
 .exact e m hm
def yu(n:Nat):Ok3 (inkN n):=by
 obtain⟨a,b⟩:=Ji n;have e:inkN n=[natD 0]++xR n++[natD (10+n%8),natD (20+n / 8%8)]:=rfl;refine⟨λm hm=>?_,by rw[e,lx,lx];show 1+(xR n).length+2<=6;lia,by rw[e,lx,lx];show 1<=1+(xR n).length+2;lia⟩;rw[e]at hm;rcases ls.1 hm with hm|hm
 .rcases ls.1 hm with hm|hm
  .cases lf.1 hm;exact xg ∅
  .exact b m hm
 .simp only[lu,lF,ma]at hm;rcases hm with rfl|rfl<;>exact xg ⋯
def zlC:∀n:_root_.Fin 512,(n.val |||64 =n.val↔n.val / 64%2=1)/\(n.val |||128 =n.val↔n.val / 128%2=1)/\(n.val |||256 =n.val↔n.val / 256%2=1):=f!""
abbrev mkF(n:Nat):W->Option PyData
 |.d (.int a)=>if Builtin.bitOr (n:Int) ((yV [(0,64),(1,128),(2,256)] a).getD 0)=(n:Int)then some (.int (a+1))else none
 |_=>none
def zlD(l:n<512):List.filterMap (mkF n∘λi:Nat=>W.d (.int (i:Int))) (List.range 3)=xR n:=by
 obtain⟨m,o,p⟩:=zlC ⟨n,l⟩;have b:∀k:Nat,(Builtin.bitOr (n:Int) (k:Int)=(n:Int))=(n |||k=n):=λk=>by rw[zk4];exact propext ⟨λe=>by exact_mod_cast e,λe=>by exact_mod_cast e⟩
 have a:(Builtin.bitOr (n:Int) 64 =(n:Int))=(n / 64%2=1):=(b 64).trans (propext m);have c:(Builtin.bitOr (n:Int) 128 =(n:Int))=(n / 128%2=1):=(b 128).trans (propext o);have f:(Builtin.bitOr (n:Int) 256 =(n:Int))=(n / 256%2=1):=(b 256).trans (propext p);have g:mkF n (.d (.int ((0:Nat):Int)))=if n / 64%2=1 then some (natD 1)else none:=by show(if Builtin.bitOr (n:Int) 64 =(n:Int)then some (PyData.int (0+1))else none)=_;simp only[a];rfl
 have h:mkF n (.d (.int ((1:Nat):Int)))=if n / 128%2=1 then some (natD 2)else none:=by show(if Builtin.bitOr (n:Int) 128 =(n:Int)then some (PyData.int (1+1))else none)=_;simp only[c];rfl
 have j:mkF n (.d (.int ((2:Nat):Int)))=if n / 256%2=1 then some (natD 3)else none:=by show(if Builtin.bitOr (n:Int) 256 =(n:Int)then some (PyData.int (2+1))else none)=_;simp only[f];rfl
 show List.filterMap _ [0,1,2]=_;unfold xR;simp only[mB,List.filterMap_nil,Function.comp,g,h,j];by_cases c1:n / 64%2=1<;>by_cases c2:n / 128%2=1<;>by_cases c3:n / 256%2=1<;>simp[c1,c2,c3]
def qu(a b c:Str):a++b++c=a++(b++c):=uP (by rw[zJ,zJ,zJ,zJ,mS])
def zv(a b:Str):(a++b).length=a.length+b.length:=by rw[yN,zJ,lx];rfl
def k9:s!"~".length= 1/\s!";".length= 1/\s!"g".length= 1/\s!"c".length= 1:=f!""
def zhq(r c:Nat):s!"~" ++ numT (natD (r+1))++s!";" ++ numT (natD (c+1))++s!"g" =rowT 103 [natD (r+1),natD (c+1)]:=by
 unfold rowT;rw[show Txt.join s!";" ([natD (r+1),natD (c+1)].map numT)=numT (natD (r+1))++s!";" ++ numT (natD (c+1))from rfl,show s!"g" =⟨#[103]⟩by decide +kernel];simp only[qu]
abbrev mkT(n:Nat):W->Option PyData
 |.d (.int a)=>if(n:Int) / ([64,128,256].getD a.toNat 1)%2=1 then some (.str (Str.ofString (a+1).repr))else none
 |_=>none
def zlE(n:Nat):List.filterMap (mkT n∘λi:Nat=>W.d (.int (i:Int))) (List.range 3)=((xR n).map numT).map PyData.str:=by
 have b:∀k:Nat,((n:Int) / (k:Int)%2=1)=(n / k%2=1):=λk=>propext ⟨λe=>by exact_mod_cast e,λe=>by exact_mod_cast e⟩;have a:mkT n (.d (.int ((0:Nat):Int)))=if n / 64%2=1 then some (.str (numT (natD 1)))else none:=by show(if(n:Int) / ((64:Nat):Int)%2=1 then some (PyData.str _)else none)=_;simp only[b 64];rfl
 have c:mkT n (.d (.int ((1:Nat):Int)))=if n / 128%2=1 then some (.str (numT (natD 2)))else none:=by show(if(n:Int) / ((128:Nat):Int)%2=1 then some (PyData.str _)else none)=_;simp only[b 128];rfl
 have f:mkT n (.d (.int ((2:Nat):Int)))=if n / 256%2=1 then some (.str (numT (natD 3)))else none:=by show(if(n:Int) / ((256:Nat):Int)%2=1 then some (PyData.str _)else none)=_;simp only[b 256];rfl
 show List.filterMap _ [0,1,2]=_;unfold xR;simp only[mB,List.filterMap_nil,Function.comp,a,c,f];by_cases c1:n / 64%2=1<;>by_cases c2:n / 128%2=1<;>by_cases c3:n / 256%2=1<;>simp[c1,c2,c3]
section
variable {base:Heap}{cD cS cL cT cR:Addr}{R:WK}
def ok1{c a:Nat}(d:isLet c)(b:a<=999):OkQ (.row c [natD a]):=⟨d,λm e=>by cases lf.1 e;exact xg b,by show 1<=6;decide,ll _⟩
def ok2 {c a b:Nat}(g:isLet c) (e:a<=999) (f:b<=999):OkQ (.row c [natD a,natD b]):=⟨g,fun m d=>by
 simp only[lu,lF,ma]at d;rcases d with rfl|rfl
 .exact xg e
 .exact xg f,by show 2<=6;decide,by show 1<=2;decide⟩
def Qa{x:Addr}{c:Nat}{ns:List PyData}(hx:O x=none)(l:OkQ (.row c ns))(h:∀O',Old O O'->R (.d (.str (rowT c ns))) O'):sInitR cR [.own x,.d (.str ⟨#[c]⟩),.d (.tuple ns)] (updO O x (.ins cR dx [])) λw j=>w=.d .none/\∃i g,j x=some (.ins cR i g)/\(∀(a:Str) (b:W),(a,b)∈g->¬s!"signs" =a)/\sSigns (aR cR) [.own x] j R:=by
 refine⟨x,dx,_,ns,rfl,zd,rfl,_,_,zd,?_,.row c ns,x,rfl,⟨c,ns,dx,rfl,zd⟩,l.r,λO' k=>h O' (((Old.refl.upd hx).upd hx).trans k)⟩;intro a b f e;subst e;simp only[lu,Prod.mk.injEq,lF,ma]at f;rcases f with⟨e,_⟩|⟨e,_⟩<;>exact absurd e f!""
seal PE PS PSs PT PA in
def Qb(F:Fun K "place_signs" "place_signs" (top 92) f fd)(T:Txt P w K mg C bw)(D:Dds K mg cD cS cL cT cR)(e:CalM P w K mg base 1 "Row" cR (liftSp K (sInitR cR)))(b:CalT P w K mg base 1 "signs" cR (liftSp K (sSigns (aR cR)))):FnOk P w K mg base CX0 3 f fd ["row","column"] (liftSp K sPlaceS):=by
 apply F.okG Zk f!"l" (λa=>(za (zj (zQ b (a.mono ∅) (ql e (a.mono ∅) rfl (QA.pa (qc zh (qc (zC (qc (zf zw (pv 0) zb) (qc (zf zw (pv 1) zb) qn))) qn))))))))
 .walk_at "ref"
 rintro _ gQ _ O R ⟨r,c,rfl,a,g,h⟩;apply gQ;walk_at "wd";intro x dx hx;exact Qa (c:=103) (ns:=[natD (r+1),natD (c+1)]) hx (ok2 ∅ ⋯ ⋯) λO' d=>.inl (h O' d)
seal PE PS PSs PT PA in
def Jj(F:Fun K "place_signs" "place_signs" (top 92) f fd)(T:Txt P w K mg C bw)(D:Dds K mg cD cS cL cT cR)(b:CalM P w K mg base 1 "Row" cR (liftSp K (sInitR cR)))(a:CalT P w K mg base 1 "signs" cR (liftSp K (sSigns (aR cR)))):F.k T base 3 Zk (exS sPlaceS):=by
 exact(Qb F T D b a).forget λ_ _ _ h=>h
seal PE PS PSs PT PA in
def VW(F:Fun K "moving_signs" "moving_signs" (top 93) f fd)(T:Txt P w K mg C bw)(D:Dds K mg cD cS cL cT cR)(k:CalM P w K mg base 1 "Row" cR (liftSp K (sInitR cR)))(b:CalT P w K mg base 1 "signs" cR (liftSp K (sSigns (aR cR)))):FnOk P w K mg base CX0 3 f fd ["letter","row","many"] (liftSp K sMovS):=by
 apply F.okG ka f!"l" (λa=>(za (zj (zf zq (zQ b (a.mono ∅) (ql k (a.mono ∅) rfl (QA.pa (qc zh (qc (zC (qc (zf zw (pv 1) zb) qn)) qn))))) (zQ b (a.mono ∅) (ql k (a.mono ∅) rfl (QA.pa (qc (pv 0) (qc (zC (qc (pv 2) qn)) qn)))))))))
 .walk_at "ref"
 rintro _ gQ _ O R ⟨l,r,m,rfl,p,a,s,h⟩;apply gQ;walk_at "wd";intro x dx hx;have i:OkQ (.row 103 [natD (r+1)]):=ok1 ∅ ⋯;have j:OkQ (.row l [natD m]):=ok1 p ⋯;have t:(rowT 103 [natD (r+1)]).length<=100:=(YB i).2;have u:(rowT l [natD m]).length<=100:=(YB j).2;exact Qa (c:=103) (ns:=[natD (r+1)]) hx i λq d v o g=>Qa (c:=l) (ns:=[natD m]) g j λn e=>⟨_,rfl,_,rfl,by rw[lI];lia,.inl (h n (d.trans e))⟩
seal PE PS PSs PT PA in
def Qc(F:Fun K "moving_signs" "moving_signs" (top 93) f fd)(T:Txt P w K mg C bw)(D:Dds K mg cD cS cL cT cR)(b:CalM P w K mg base 1 "Row" cR (liftSp K (sInitR cR)))(a:CalT P w K mg base 1 "signs" cR (liftSp K (sSigns (aR cR)))):F.k T base 3 ka (exS sMovS):=by
 exact(VW F T D b a).forget λ_ _ _ h=>h
seal PE PS PSs PT PA in
def Ki(F:Fun K "ink_signs" "ink_signs" (top 91) f fd)(T:Txt P w K mg C bw)(D:Dds K mg cD cS cL cT cR)(t:Cal P w K mg base 1 "fore_of" [] (liftSp K (sI1 (λ_=>True) λi=>Builtin.bitAnd i 7)))(s:Cal P w K mg base 1 "back_of" [] (liftSp K (sI1 (λ_=>True) λi=>Builtin.bitAnd (i / 8) 7)))(wf:Cal P w K mg base 1 "with_mark" [] (liftSp K (sI2 (λ_ _=>True) λi m=>Builtin.bitOr i ((yV [(0,64),(1,128),(2,256)] m).getD 0))))(r:CalM P w K mg base 1 "Row" cR (liftSp K (sInitR cR)))(g:CalT P w K mg base 1 "signs" cR (liftSp K (sSigns (aR cR)))):FnOk P w K mg base CX0 3 f fd ["ink"] (liftSp K sInkS):=by
 have q:=jC.nd;apply F.okG jC f!"l" (λb=>(zc (X3 (i:=1) q rfl rfl (xM (N:=["mark","ink"]) (n:=1) (js:=[0])) rfl (yl rfl T.n_range (QA.pa (qc zb qn))) (λ_ _ _ _=>(zy (i:=0) (show List.Nodup (["mark","ink"]:List Str)by decide +kernel) rfl (Or.inl rfl))) (λ_ _ _ _=>(Xf (zl zx (zg wf b (qc (pv 1) (qc (pv 0) qn))) (pv 1)))) (λ_ _ _ _=>(zf zw (pv 0) zb))) (za (zj (zQ g (b.mono ∅) (ql r (b.mono ∅) rfl (QA.pa (qc zh (qc (zE (zgr (K:=K) rfl) (by rfl) T.n_tuple rfl (QA.pa (qc (zf (jc (K:=K) rfl) (zf (jc (K:=K) rfl) (yB (qc zb qn)) (pv 1)) (yB (qc (zf zw zb (zg t b (qc (pv 0) qn))) (qc (zf zw zb (zg s b (qc (pv 0) qn))) qn)))) qn))) qn)))))))))
 .walk_at "ref"
 rintro _ gQ _ O R ⟨n,rfl,e,h⟩;apply gQ;walk_at "wd";refine⟨mkF n,λa v us p=>?_,?_⟩
 .obtain⟨u,rfl⟩:=lU.1 p;refine⟨rfl,rfl,_,rfl,?_⟩;show if Builtin.bitOr (n:Int) ((yV [(0,64),(1,128),(2,256)] (a:Int)).getD 0)=(n:Int)then _ else _
  have l:mkF n (.d (.int (a:Int)))=if Builtin.bitOr (n:Int) ((yV [(0,64),(1,128),(2,256)] (a:Int)).getD 0)=(n:Int)then some (.int (a+1))else none:=rfl
  rw[l];split<;>rfl
 .rw[zlD e];have j:Builtin.bitAnd (n:Int) 7 =((n%8:Nat):Int):=by rw[<-(zb7 ⟨n,e⟩).2.2.2.1];exact zbh n 7
  have k:Builtin.bitAnd ((n:Int) / 8) 7 =((n / 8%8:Nat):Int):=by rw[<-(zb7 ⟨n,e⟩).2.2.2.2];exact zbh (n / 8) 7
  rw[j,k];have y:=(Ji n).1;refine⟨_,rfl,_,rfl,_,rfl,xR n,zV _,by show 1+(xR n).length<=10000000;lia,_,rfl,_,rfl,[natD 0]++xR n,zV _,_,rfl,by rw[lx];show 1+(xR n).length+2<=10000000;lia,inkN n,by simp only[seqD,zU,seqL,nS,zV];rfl,λx dx hx=>?_⟩;exact Qa (c:=99) (ns:=inkN n) hx ⟨∅,yu n⟩ λO' o=>.inl (h O' o)
seal PE PS PSs PT PA in
def zb8(F:Fun K "ink_signs" "ink_signs" (top 91) f fd)(T:Txt P w K mg C bw)(D:Dds K mg cD cS cL cT cR)(e:T.c base 1 "fore_of" (sI1 (λ_=>True) λi=>Builtin.bitAnd i 7))(d:T.c base 1 "back_of" (sI1 (λ_=>True) λi=>Builtin.bitAnd (i / 8) 7))(wf:T.c base 1 "with_mark" (sI2 (λ_ _=>True) λi m=>Builtin.bitOr i ((yV [(0,64),(1,128),(2,256)] m).getD 0)))(b:CalM P w K mg base 1 "Row" cR (liftSp K (sInitR cR)))(a:CalT P w K mg base 1 "signs" cR (liftSp K (sSigns (aR cR)))):F.k T base 3 jC (exS sInkS):=by
 exact(Ki F T D e d wf b a).forget λ_ _ _ h=>h
seal PE PS PSs PT PA in
def zfD(F:Fun K "_law_at" "_law_at" (top 125) f fd)(T:Txt P w K mg C bw):FnOk P w K mg base CX0 1 f fd ["_law_row_here","_law_column"] (liftSp K sPlaceS):=by
 apply F.okG U4 f!"l" (λi=>(za (zj (zf zq (zf zq (zf zq (zf zq zh (zE yp (by rfl) T.n_str rfl (QA.pa (qc (zf zw (pv 0) zb) qn)))) zh) (zE yp (by rfl) T.n_str rfl (QA.pa (qc (zf zw (pv 1) zb) qn)))) zh))))
 .walk_at "ref"
 rintro _ gQ _ O R ⟨r,c,rfl,i,j,h⟩;apply gQ;walk_at "wd";have q:=(YB (ok2 (c:=103) (a:=r+1) (b:=c+1) ∅ ⋯ ⋯)).2;replace q:(rowT 103 [natD (r+1),natD (c+1)]).length<=100:=q;rw[<-zhq]at q h;obtain⟨d,e,g,_⟩:=k9;simp only[zv,d,e,g]at q;simp only[zv,d,e,g,lI];exact⟨⋯,⋯,by show 1+(numT (natD (r+1))).length<=16777216;lia,by show 1+(numT (natD (r+1))).length+1<=16777216;lia,⋯,⋯,by show 1+(numT (natD (r+1))).length+1+(numT (natD (c+1))).length<=16777216;lia,by show 1+(numT (natD (r+1))).length+1+(numT (natD (c+1))).length+1<=16777216;lia,.inl (h O Old.refl)⟩
seal PE PS PSs PT PA in
def zhr(F:Fun K "_law_at" "_law_at" (top 125) f fd)(T:Txt P w K mg C bw):F.k T base 1 U4 (exS sPlaceS):=by
 exact(zfD F T).forget λ_ _ _ h=>h
seal PE PS PSs PT PA in
def Kj(F:Fun K "_law_inked" "_law_inked" (top 124) f fd)(T:Txt P w K mg C bw):FnOk P w K mg base CX0 1 f fd ["_law_ink_here"] (liftSp K sInkS):=by
 have p:=qS.nd;apply F.okG qS f!"l" (λy=>(zc (zo 1 p (zf (jc (K:=K) rfl) (yB (qc zh qn)) (v1 (xM (N:=["_law_k","_law_ink_here"]) (n:=1) (js:=[0])) rfl (yl rfl T.n_range (QA.pa (qc zb qn))) (λ_ _ _ _=>(zy (i:=0) (show List.Nodup (["_law_k","_law_ink_here"]:List Str)by decide +kernel) rfl (Or.inl rfl))) (λ_ _ _ _=>(Xf (zl zx (zf zA (zf zB (pv 1) (zp (xx (K:=K) rfl) (yB (qc zb (qc zb (qc zb qn)))) (pv 0))) zb) zb))) (λ_ _ _ _=>(zE yp (by rfl) T.n_str rfl (QA.pa (qc (zf zw (pv 0) zb) qn))))))) (za (zj (zf zq (zf zq zh (yz (K:=K) rfl mX nG nH (k8 (K:=K) rfl) zh (QA.pa (qc (zf (jc (K:=K) rfl) (pv 1) (yB (qc (zE yp (by rfl) T.n_str rfl (QA.pa (qc (zf zw zb (zf zA (pv 0) zb)) qn))) (qc (zE yp (by rfl) T.n_str rfl (QA.pa (qc (zf zw zb (zf zA (zf zB (pv 0) zb) zb)) qn))) qn)))) qn)))) zh)))))
 .walk_at "ref"
 rintro _ gQ _ O R ⟨n,rfl,x,h⟩;apply gQ;walk_at "wd";refine⟨mkT n,λa s us o=>?_,?_⟩
 .obtain⟨u,rfl⟩:=lU.1 o;have g:a<3:=⋯
  refine⟨rfl,rfl,_,rfl,?_⟩
  match a,g with
  | 0,_=>exact⟨_,rfl,⟨⋯,⋯⟩,by
    show if(n:Int) / 64%2=1 then _ else _
    have b:mkT n (.d (.int ((0:Nat):Int)))=if(n:Int) / 64%2=1 then some (.str (Str.ofString (((0:Nat):Int)+1).repr))else none:=rfl
    rw[b];split
    .exact⟨∅,∅,rfl⟩
    .rfl⟩
  | 1,_=>exact⟨_,rfl,⟨⋯,⋯⟩,by
    show if(n:Int) / 128%2=1 then _ else _
    have b:mkT n (.d (.int ((1:Nat):Int)))=if(n:Int) / 128%2=1 then some (.str (Str.ofString (((1:Nat):Int)+1).repr))else none:=rfl
    rw[b];split
    .exact⟨∅,∅,rfl⟩
    .rfl⟩
  | 2,_=>exact⟨_,rfl,⟨⋯,⋯⟩,by
    show if(n:Int) / 256%2=1 then _ else _
    have b:mkT n (.d (.int ((2:Nat):Int)))=if(n:Int) / 256%2=1 then some (.str (Str.ofString (((2:Nat):Int)+1).repr))else none:=rfl
    rw[b];split
    .exact⟨∅,∅,rfl⟩
    .rfl⟩
 .rw[zlE];have v:=(Ji n).1;have q:=(YB (r:=.row 99 (inkN n)) ⟨∅,yu n⟩).2;replace q:(rowT 99 (inkN n)).length<=100:=q;obtain⟨j,A,_,k⟩:=k9;have e:rowT 99 (inkN n)=s!"~" ++ Txt.join s!";" ((inkN n).map numT)++s!"c":=by unfold rowT;rw[show s!"c" =⟨#[99]⟩by decide +kernel]
  have z:=ZI (yu n).ns.n;have t:=(yu n).l;rw[e,zv,zv,j,k]at q;rw[e]at h;refine⟨_,rfl,_,rfl,_,rfl,((xR n).map numT).map PyData.str,zV _,by show 1+_<=10000000;rw[l8,l8];lia,.inr (.inl ⟨rfl,_,rfl⟩),⋯,⋯,⟨⋯,⋯⟩,⋯,⋯,_,rfl,_,rfl,[PyData.str s!"0"]++((xR n).map numT).map PyData.str,zV _,_,rfl,by rw[lx,l8,l8];show 1+(xR n).length+2<=10000000;lia,(inkN n).map numT,?_,f!"",by rw[l8];lia,by rw[lI,j];lia,by rw[zv,lI,j,k];lia,.inl (h O Old.refl)⟩;rw[<-VI (O:=O)];have m:inkN n=[natD 0]++xR n++[natD (10+n%8),natD (20+n / 8%8)]:=rfl;rw[m,lS,lS,lS,lS];rfl
seal PE PS PSs PT PA in
def zb9(F:Fun K "_law_inked" "_law_inked" (top 124) f fd)(T:Txt P w K mg C bw):F.k T base 1 qS (exS sInkS):=by
 exact(Kj F T).forget λ_ _ _ h=>h
end
abbrev ddT:Dd->Str
 |.cut r m=>rowT 103 [natD (r+1)]++rowT 107 [natD m]
 |.put r m=>rowT 103 [natD (r+1)]++rowT 105 [natD m]
 |.wr r c t ik=>rowT 103 [natD (r+1),natD (c+1)]++rowT 99 (inkN ik.toNat)++Txt.replace t s!"~" s!"~~"
abbrev okT:Dd->Prop
 |.cut r m=>r<=30/\m<=30
 |.put r m=>r<=30/\m<=30
 |.wr r c t ik=>r<=30/\c<=30/\t.length<=30/\0<=ik/\ik<512
inductive sDeedS (ws:List W) (O:OM) (R:WK):Prop
 |mk:∀d:Dd,ws=[.d (ddD d)]->okT d->(∀O',Old O O'->R (.d (.str (ddT d))) O')->sDeedS ws O R
def zqq:¬decide (V.str s!"put"=V.str s!"cut")=true:=f!""
def zqr:¬decide (V.str s!"write"=V.str s!"cut")=true:=f!""
def zqs:¬decide (V.str s!"write"=V.str s!"put")=true:=f!""
def Xx(t:Str):(Txt.replace t s!"~" s!"~~").length<=2*t.length:=by
 show(Txt.replace t s!"~" s!"~~").cps.toList.length<=2*t.cps.toList.length;rw[ko];generalize t.cps.toList=l;induction l with
 |nil=>exact ll _
 |cons c l ih=>
  unfold uq at ih ⊢;rw[o9,lx,lQ];have:(if c= 126 then[126,126]else[c]).length<=2:=by
   split
   .exact ll _
   .exact nM _
  lia
def yq{c:Nat}{ns:List PyData}(h:OkQ (.row c ns)):(rowT c ns).length<=100:=(YB h).2
abbrev begT:Str:=s!"~m~M~1o~2;3f~c"
structure TxtB (mg:Str->Option Value):Prop where
 g_BEGINNING:∃t,mg "BEGINNING" =some (.str s!"~m~M~1o~2;3f~c" t)
abbrev wayT(ds:List Dd)(r c ik:Nat):Str:=begT++Txt.join s!"" (ds.map ddT)++rowT 103 [natD (r+1),natD (c+1)]++rowT 99 (inkN ik)
inductive sSignsOf (ws:List W) (O:OM) (R:WK):Prop
 |mk:∀(y:W) (ds:List Dd) (r c ik:Nat),ws=[y,.d (.int r),.d (.int c),.d (.int ik)]->(∀O',Old O O'->seqL O' y=some ((ds.map ddD).map .d))->ds.length<=10->(∀d∈ds,okT d)->r<=30->c<=30->ik<512->(∀O',Old O O'->R (.d (.str (wayT ds r c ik))) O')->sSignsOf ws O R
abbrev ddF:W->Option PyData
 |.d (.tuple [.str k,.int r,.int m])=>if k=s!"cut" then some (.str (ddT (.cut r.toNat m.toNat)))else some (.str (ddT (.put r.toNat m.toNat)))
 |.d (.tuple [.str _,.int r,.int c,.str t,.int ik])=>some (.str (ddT (.wr r.toNat c.toNat t ik)))
 |_=>none
def zhs(d:Dd):ddF (.d (ddD d))=some (.str (ddT d)):=by
 cases d with
 |cut r m=>show(if s!"cut" =s!"cut" then some (PyData.str (ddT (.cut (r:Int).toNat (m:Int).toNat)))else some (PyData.str (ddT (.put (r:Int).toNat (m:Int).toNat))))=_;rw[l9 rfl];rfl
 |put r m=>show(if s!"put" =s!"cut" then some (PyData.str (ddT (.cut (r:Int).toNat (m:Int).toNat)))else some (PyData.str (ddT (.put (r:Int).toNat (m:Int).toNat))))=_;rw[l7 f!""];rfl
 |wr r c t ik=>rfl
def zdG:∀ds:List Dd,((ds.map ddD).map W.d).filterMap ddF=(ds.map ddT).map PyData.str
 |[]=>rfl
 |d::ds=>by rw[lG,lG,mB,zhs,zdG ds];rfl
def zlF{d:Dd}(h:okT d):(ddT d).length<=300:=by
 cases d with
 |cut r m=>have e:=yq (ok1 (c:=103) (a:=r+1) ∅ (by have:=h.1;lia));have f:=yq (ok1 (c:=107) (a:=m) ∅ (by have:=h.2;lia));show(rowT 103 [natD (r+1)]++rowT 107 [natD m]).length<=300;rw[zv];lia
 |put r m=>have e:=yq (ok1 (c:=103) (a:=r+1) ∅ (by have:=h.1;lia));have f:=yq (ok1 (c:=105) (a:=m) ∅ (by have:=h.2;lia));show(rowT 103 [natD (r+1)]++rowT 105 [natD m]).length<=300;rw[zv];lia
 |wr r c t ik=>obtain⟨g,i,j,_⟩:=h;have e:=yq (ok2 (c:=103) (a:=r+1) (b:=c+1) ∅ ⋯ ⋯);have f:=yq (c:=99) (ns:=inkN ik.toNat) ⟨∅,yu _⟩;have k:=Xx t;show(rowT 103 [natD (r+1),natD (c+1)]++rowT 99 (inkN ik.toNat)++Txt.replace t s!"~" s!"~~").length<=300;rw[zv,zv];lia
def Jk:∀{ds:List Dd},(∀d∈ds,okT d)->((ds.map ddT).map (·.length)).sum<=300*ds.length
 |[],_=>ll _
 |d::ds,h=>by
  have a:=zlF (h d lh);have b:=Jk (ds:=ds) λx hx=>h x (lg _ hx);rw[lG,lG,oS,lQ]
  lia
section
variable {base:Heap}{cD cS cL cT cR:Addr}{R:WK}
seal PE PS PSs PT PA in
def Kk(F:Fun K "deed_signs" "deed_signs" (top 94) f fd)(T:Txt P w K mg C bw)(o:T.c base 3 "moving_signs" (exS sMovS))(v:T.c base 3 "place_signs" (exS sPlaceS))(u:T.c base 3 "ink_signs" (exS sInkS)):F.k T base 4 qL (exS sDeedS):=by
 have G:=qL.nd;apply F.okG qL f!"l" (λg=>(zc (zn (zl zx (zp (zt (K:=K) rfl) (pv 0) zb) zh) (za (zj (zg o g (qc zh (qc (zp (zt (K:=K) rfl) (pv 0) zb) (qc (zp (zt (K:=K) rfl) (pv 0) zb) qn)))))) zr) (zc (zn (zl zx (zp (zt (K:=K) rfl) (pv 0) zb) zh) (za (zj (zg o g (qc zh (qc (zp (zt (K:=K) rfl) (pv 0) zb) (qc (zp (zt (K:=K) rfl) (pv 0) zb) qn)))))) zr) (za (zj (zf zq (zf zq (zg v g (qc (zp (zt (K:=K) rfl) (pv 0) zb) (qc (zp (zt (K:=K) rfl) (pv 0) zb) qn))) (zg u g (qc (zp (zt (K:=K) rfl) (pv 0) zb) qn))) (Q2 (K:=K) rfl (pv 0) f!"" f!"")))))))
 .walk_at "ref"
 rintro _ gQ _ O R ⟨d,rfl,e,h⟩;apply gQ;walk_at "wd";cases d with
 |cut r m=>refine⟨_,rfl,_,rfl,rfl,rfl,?_⟩;refine(n8 (l9 (lM (by rfl)))).mpr ?_;exact⟨_,rfl,_,rfl,_,rfl,_,rfl,107,r,m,by rw[show s!"k" =⟨#[107]⟩by decide +kernel],∅,e.1,e.2,λO' j=>⟨j,.inl (h O Old.refl).2⟩⟩
 |put r m=>refine⟨_,rfl,_,rfl,rfl,rfl,?_⟩;refine(n8 (l7 zqq)).mpr ?_;refine⟨_,rfl,_,rfl,rfl,rfl,?_⟩;refine(n8 (l9 (lM (by rfl)))).mpr ?_;exact⟨_,rfl,_,rfl,_,rfl,_,rfl,105,r,m,by rw[show s!"i" =⟨#[105]⟩by decide +kernel],∅,e.1,e.2,λO' j=>⟨j,.inl (h O Old.refl).2⟩⟩
 |wr r c t ik=>
  refine⟨_,rfl,_,rfl,rfl,rfl,?_⟩;refine(n8 (l7 zqr)).mpr ?_;refine⟨_,rfl,_,rfl,rfl,rfl,?_⟩;refine(n8 (l7 zqs)).mpr ?_;obtain⟨p,q,z,s,A⟩:=e;obtain⟨ink,rfl⟩:=lO s;have B:=yq (ok2 (c:=103) (a:=r+1) (b:=c+1) ∅ ⋯ ⋯);have D:=yq (c:=99) (ns:=inkN ink) ⟨∅,yu ink⟩;have E:=Xx t;refine⟨_,rfl,_,rfl,_,rfl,_,rfl,r,c,rfl,p,q,λx l=>⟨l,_,rfl,_,rfl,ink,rfl,⋯,λy n=>⟨n,_,rfl,_,rfl,?_,?_⟩⟩⟩
  .rw[lI];lia
  .exact⟨_,rfl,t,rfl,⋯,by rw[zv,lI];lia,.inl (h O Old.refl).2⟩
def XY{p q s:Value}(F:FunD K "signs_of" "signs_of" (top 95) [p,q,s] f fd)(T:TxtB mg)(l:Cal P w K mg base 4 "deed_signs" [] (liftSp K (exS sDeedS)))(J:Cal P w K mg base 3 "place_signs" [] (liftSp K (exS sPlaceS)))(I:Cal P w K mg base 3 "ink_signs" [] (liftSp K (exS sInkS))):FnOk P w K mg base CX0 5 f fd ["way","row","column","ink"] (liftSp K (exS sSignsOf)):=by
 have H:=XW.nd;apply F.okG XW f!"l" (λe=>(zc (zo 4 H (yz (K:=K) rfl mX nG nH (k8 (K:=K) rfl) zh (QA.pa (qc (v1 (xM (N:=["deed"]) (n:=1) (js:=[])) rfl (xu (K:=K) rfl (pv 0)) (λ_ _ _ _=>(zy (i:=0) (show List.Nodup (["deed"]:List Str)by decide +kernel) rfl (Or.inl rfl))) (λ_ _ _ _=>yG) (λ_ _ _ _=>(zg l e (qc (pv 0) qn)))) qn)))) (za (zj (zf zq (zf zq (zf zq (zjU rfl T.g_BEGINNING) (pv 4)) (zg J e (qc (pv 1) (qc (pv 2) qn)))) (zg I e (qc (pv 3) qn)))))))
 .walk_at "ref"
 rintro _ gQ _ O R ⟨y,ds,r,c,ik,rfl,E,S,k,e,t,z,h⟩;apply gQ;walk_at "wd";have U:=Jk k;have A:(Txt.join s!"" (ds.map ddT)).length<=((ds.map ddT).map (·.length)).sum+(ds.map ddT).length*s!"".length:=by rw[jb];exact ZE _ _
 have G:s!"".length= 0/\s!"~m~M~1o~2;3f~c".length<=20:=f!""
 have V:=yq (ok2 (c:=103) (a:=r+1) (b:=c+1) ∅ ⋯ ⋯);have W:=yq (c:=99) (ns:=inkN ik) ⟨∅,yu ik⟩;rw[G.1,l8]at A;refine⟨.inr (.inl ⟨rfl,_,rfl⟩),_,E O Old.refl,by rw[l8,l8];lia,ddF,λw D us C=>?_,ds.map ddT,by rw[zdG];exact VI _,f!"",by rw[l8];lia,by rw[lI];lia,r,c,rfl,e,t,λL g=>⟨g,_,rfl,by rw[zv,lI];lia,ik,rfl,z,λQ j=>⟨j,_,rfl,by rw[zv,zv,lI];lia,.inl (h O Old.refl).2⟩⟩⟩;obtain⟨u,rfl⟩:=lU.1 C;obtain⟨x,hx,rfl⟩:=lH.1 D;obtain⟨d,v,rfl⟩:=lH.1 hx;refine⟨rfl,rfl,d,rfl,k d v,λO' B=>⟨B,rfl,?_⟩⟩;rw[zhs];rfl
end
inductive sLawSg (ws:List W) (O:OM) (R:WK):Prop
 |mk:∀(ds:List Dd) (r c ik:Nat),ws=[.d (.list (ds.map ddD)),.d (.tuple [.int r,.int c,.int ik])]->ds.length<=10->(∀d∈ds,okT d)->r<=30->c<=30->ik<512->(∀O',Old O O'->R (.d (.str (wayT ds r c ik))) O')->sLawSg ws O R
def Xy:∀l:List Str,(Txt.join s!"" l).cps.toList=(l.map (·.cps.toList)).flatten:=by
 intro l;rw[jb,show s!"" =⟨#[]⟩by decide +kernel];induction l with
 |nil=>rfl
 |cons p l ih=>
  cases l with
  |nil=>show p.cps.toList=p.cps.toList++[];rw[mm]
  |cons q r=>rw[PyProof.Rows.join_cons_cons,zJ,zJ,ih];show p.cps.toList++[]++_=_;rw[mm];rfl
def zfE(l:List Str)(x:Str):Txt.join s!"" (l++[x])=Txt.join s!"" l++x:=uP (by rw[zJ,Xy,Xy];simp)
def Y2{ds:List Dd}(h:∀d∈ds,okT d):(Txt.join s!"" (ds.map ddT)).length<=300*ds.length:=by
 have a:=ZE s!"" (ds.map ddT);have b:=Jk h;rw[<-jb,show s!"".length= 0 by decide +kernel]at a;exact m7 a f!"i"
def zlG{ds:List Dd}{d:Dd}(h:ds[i]? =some d):Txt.join s!"" ((ds.take (i+1)).map ddT)=Txt.join s!"" ((ds.take i).map ddT)++ddT d:=by
 rw[<-zfE];obtain⟨a,e⟩:=lv.1 h;rw[<-List.take_append_getElem a,lS,e];rfl
def znZ(c:Nat)(n:PyData):rowT c [n]=s!"~" ++ numT n++⟨#[c]⟩:=rfl
def zqt:¬decide (V.str s!"cut"=V.str s!"write")=true:=f!""
def zqu:¬decide (V.str s!"put"=V.str s!"write")=true:=f!""
def zlH(d:Dd)(h:okT d):(∃(z y:Str) (l r m:Nat),ddD d=.tuple [.str z,.int r,.int m]/\ddT d=rowT 103 [natD (r+1)]++rowT l [natD m]/\y=⟨#[l]⟩/\(¬decide (V.str z=V.str s!"write")=true)/\zaF ([(Sum.inr s!"cut",W.d (.str s!"k")),(Sum.inr s!"put",W.d (.str s!"i"))]:List (Key×W)) (Sum.inr z:Key)=some (.d (.str y))/\r<=30/\m<=30)\/∃r c t ik,d=.wr r c t ik:=by
 cases d with
 |cut r m=>exact .inl ⟨_,_,107,r,m,rfl,rfl,(by decide +kernel:s!"k" =_),zqt,rfl,by have:=h.1;omega,by have:=h.2;omega⟩
 |put r m=>exact .inl ⟨_,_,105,r,m,rfl,rfl,(by decide +kernel:s!"i" =_),zqu,rfl,by have:=h.1;omega,by have:=h.2;omega⟩
 |wr r c t ik=>exact .inr ⟨r,c,t,ik,rfl⟩
def zn0(B:Str)(r l m:Nat):B++s!"~" ++ numT (natD (r+1))++s!"g~" ++ numT (natD m)++⟨#[l]⟩=B++(rowT 103 [natD (r+1)]++rowT l [natD m]):=by
 rw[znZ,znZ,show s!"g~" =(⟨#[103]⟩:Str)++s!"~" by decide +kernel];simp only[qu]
section
variable {base:Heap}{cD cS cL cT cR:Addr}{R:WK}
seal PE PS PSs PT PA in
def Kl(F:Fun K "_law_signs" "_law_signs" (top 127) f fd)(T:Txt P w K mg C bw)(U:Cal P w K mg base 1 "_law_at" [] (liftSp K (exS sPlaceS)))(S:Cal P w K mg base 1 "_law_inked" [] (liftSp K (exS sInkS))):FnOk P w K mg base CX0 2 f fd ["_law_way","_law_end"] (liftSp K sLawSg):=by
 have I:=qT.nd;apply F.okG qT f!"l" (λu=>(zc (zo 2 I zh) (zc (yD m6 rfl (xu (K:=K) rfl (pv 0)) (zy (i:=3) I rfl (Or.inl rfl)) (za (zn (zl zx (zp (zt (K:=K) rfl) (pv 3) zb) zh) (za (zo 2 I (zf zq (zf zq (zf zq (pv 2) (zg U u (qc (zp (zt (K:=K) rfl) (pv 3) zb) (qc (zp (zt (K:=K) rfl) (pv 3) zb) qn)))) (zg S u (qc (zp (zt (K:=K) rfl) (pv 3) zb) qn))) (Q2 (K:=K) rfl (pv 3) f!"" f!"")))) (za (zo 2 I (zf zq (zf zq (zf zq (zf zq (zf zq (pv 2) zh) (zE yp (by rfl) T.n_str rfl (QA.pa (qc (zf zw (zp (zt (K:=K) rfl) (pv 3) zb) zb) qn)))) zh) (zE yp (by rfl) T.n_str rfl (QA.pa (qc (zp (zt (K:=K) rfl) (pv 3) zb) qn)))) (zh9 (zd9 u) (zkD (zal zh zh (zal zh zh zkC)) rfl rfl ∅ ∅) (zp (zt (K:=K) rfl) (pv 3) zb) (λ_ _=>rfl)))))))) (za (zj (zf zq (zf zq (pv 2) (zg U u (qc (zp (zt (K:=K) rfl) (pv 1) zb) (qc (zp (zt (K:=K) rfl) (pv 1) zb) qn)))) (zg S u (qc (zp (zt (K:=K) rfl) (pv 1) zb) qn))))))))
 .walk_at "ref"
 rintro _ gQ _ O R ⟨ds,G,B,j,rfl,hl,M,u,hc,hi,h⟩;apply gQ;walk_at "wd";refine⟨_,rfl,?_⟩;have lb:begT.length<=20:=f!""
 refine zS.byG (λi ρ O'=>Old O O'/\∃Q,ρ=[some (.d (.list (ds.map ddD))),some (.d (.tuple [.int G,.int B,.int j])),some (.d (.str (begT++Txt.join s!"" ((ds.take i).map ddT)))),Q]) ⟨Old.refl,none,by rfl⟩ (λi ρ O' h=>rfl) ?_ ?_
 .rintro i x _ gQ _ A hx ⟨N,Q,rfl⟩;refine gQ _ _ λR2 L=>?_;rw[lw,lw]at hx;cases hd:ds[i]? with
  |none=>rw[hd]at hx;cases hx
  |some d=>
   rw[hd]at hx;cases hx;have E:=M d (lE hd);have e:=zlG hd;have lj:=Y2 (ds:=ds.take i) λx hx=>M x (md hx);have lt:(ds.take i).length<=10:=by rw[lX];lia
   have D:∀O3,Old A O3->R2 [some (.d (.list (ds.map ddD))),some (.d (.tuple [.int G,.int B,.int j])),some (.d (.str (begT++Txt.join s!"" ((ds.take i).map ddT)++ddT d))),some (.d (ddD d))] O3:=λO3 H=>L _ _ ⟨N.trans H,_,by rw[e,qu]⟩;generalize Txt.join s!"" ((ds.take i).map ddT)=J at *;rcases zlH d E with⟨z,y,l,r,m,ed,et,ey,hz,hv,hr1,hm1⟩|⟨r,c,t,ik,rfl⟩
   .have n1:=vK (xg (n:=r+1) ⋯).d;have n2:=vK (xg (n:=m) ⋯).d;have W:∀O3,Old A O3->R2 [some (.d (.list (ds.map ddD))),some (.d (.tuple [.int G,.int B,.int j])),some (.d (.str (begT++J++s!"~" ++ numT (natD (r+1))++s!"g~" ++ numT (natD m)++y))),some (.d (.tuple [.str z,.int r,.int m]))] O3:=λO3 H=>by rw[ey,zn0,<-et,<-ed];exact D O3 H
    have lr:(Str.ofString ((r:Int)+1).repr).length<=8:=n1;have lm:(Str.ofString (m:Int).repr).length<=8:=n2;have ly:y.length= 1:=by rw[ey];rfl
    rw[ed];walk_at "wd";refine⟨_,rfl,rfl,rfl,?_⟩;refine(n8 (l7 hz)).mpr ?_;have lq:s!"~".length= 1/\s!"g~".length= 2:=f!""
    obtain⟨k,v⟩:=lq;refine⟨by rw[zv,lI,k];lia,_,rfl,⋯,⋯,?_,?_,_,rfl,_,rfl,⋯,⋯,?_,λp hp=>⟨_,rfl,∅,_,rfl,_,zd,?_⟩⟩
    .rw[zv,zv,lI,k];lia
    .rw[zv,zv,zv,lI,k,v];lia
    .rw[zv,zv,zv,zv,lI,k,v];lia
    .exact⟨_,hv,_,rfl,by rw[zv,zv,zv,zv,zv,lI,k,v,ly];lia,W _ (Old.refl.upd hp)⟩
   .walk_at "wd";refine⟨_,rfl,_,rfl,rfl,rfl,?_⟩;refine(n8 (l9 (lM (by rfl)))).mpr ?_;obtain⟨X,Y,H,Z,h5⟩:=E;obtain⟨ink,rfl⟩:=lO Z;have l1:=yq (ok2 (c:=103) (a:=r+1) (b:=c+1) ∅ ⋯ ⋯);have l2:=yq (c:=99) (ns:=inkN ink) ⟨∅,yu ink⟩;have l3:=Xx t;refine⟨_,rfl,_,rfl,_,rfl,_,rfl,r,c,rfl,X,Y,λV o=>⟨o,_,rfl,by rw[zv,lI];lia,_,rfl,_,rfl,ink,rfl,⋯,λO3 s=>⟨s,_,rfl,by rw[zv,zv,lI];lia,_,rfl,t,rfl,⋯,by rw[zv,zv,zv,lI];lia,?_⟩⟩⟩;have q:=D A Old.refl;rw [show begT ++ J ++ ddT (.wr r c t (ink:Int))=begT ++ J ++ rowT 103 [natD (r+1),natD (c+1)] ++ rowT 99 (inkN ink) ++ Txt.replace t s!"~" s!"~~" by
     show begT++J++(rowT 103 [natD (r+1),natD (c+1)]++rowT 99 (inkN ink)++Txt.replace t s!"~" s!"~~")=_;simp only[qu]]at q
    exact q
 .rintro _ A ⟨N,Q,rfl⟩;rw[l8,l8,my];walk_at "wd";have lj:=Y2 M;have l1:=yq (ok2 (c:=103) (a:=G+1) (b:=B+1) ∅ ⋯ ⋯);have l2:=yq (c:=99) (ns:=inkN j) ⟨∅,yu j⟩;exact⟨_,rfl,_,rfl,G,B,rfl,u,hc,λV o=>⟨o,_,rfl,by rw[zv,lI];lia,_,rfl,j,rfl,hi,λO3 s=>⟨s,_,rfl,by rw[zv,zv,lI];lia,.inl (h A N)⟩⟩⟩
seal PE PS PSs PT PA in
def zca(F:Fun K "_law_signs" "_law_signs" (top 127) f fd)(T:Txt P w K mg C bw)(b:T.c base 1 "_law_at" (exS sPlaceS))(a:T.c base 1 "_law_inked" (exS sInkS)):F.k T base 2 qT (exS sLawSg):=by
 exact(Kl F T b a).forget λ_ _ _ h=>h
end
def _root_.L2.CellW.old{r c:Nat}(h:CellW O r c b)(a:Old O O'):CellW O' r c b:=by
 unfold CellW at *;rw[a b (by rw[h];simp)];exact h
def _root_.L2.PairW.old{r:Nat}{w:W}(h:PairW O r w)(d:Old O O'):PairW O' r w:=by
 obtain⟨t,b,c,rfl,a,e,f⟩:=h;exact⟨t,b,c,rfl,by rw[d t (by rw[a];simp)];exact a,e.old d,f⟩
def zcb:∀(es:List PyData),(∀d∈es,∃k:Nat,32<=k/\k<=126/\d=.str ⟨#[k]⟩)->∃ks:List Nat,es=ks.map (λk=>PyData.str ⟨#[k]⟩)/\∀k∈ks,32<=k/\k<=126
 |[],_=>⟨[],rfl,λk a=>(nomatch a)⟩
 |d::es,h=>by
  obtain⟨k,b,c,rfl⟩:=h d lh;obtain⟨ks,rfl,a⟩:=zcb es λx hx=>h x (lg _ hx);refine⟨k::ks,rfl,λz hz=>?_⟩;rcases lu.1 hz with rfl|hz
  .exact⟨b,c⟩
  .exact a z hz
def zcc:∀ks:List Nat,((ks.map λk=>(⟨#[k]⟩:Str)).map (λx=>x.length)).sum=ks.length
 |[]=>rfl
 |k::ks=>by
  rw[lG,lG,oS,zcc ks,lQ];show 1+ks.length=ks.length+1
  lia
abbrev nwD:Dd->Prop
 |.wr ..=>False
 |_=>True
abbrev ywD:Dd->Prop
 |.wr _ _ t ik=>0<=ik/\ik<512/\1<=t.length
 |_=>False
inductive sDrawn30 (ws:List W) (O:OM) (R:WK):Prop
 |mk:∀ns:List Int,∀a w h:Nat,ws=[.d (.list (ns.map .int)),.d (.int a),.d (.int w),.d (.int h)]->a<=50->1<=w->w<=24->1<=h->h<=12->(∀(ds es:List Dd) (O':OM),ds.length<=2->es.length<=4->(∀d∈ds,okDd w h d/\nwD d)->(∀d∈es,okDd w h d/\ywD d)->Old O O'->R (.d (.list ((ds++es).map ddD))) O')->sDrawn30 ws O R
section
variable {base:Heap}
seal PE PS PSs PT PA in
def zcd(F:Fun K "_law_drawn" "_law_drawn" (top 123) f fd)(T:Txt P w K mg C bw)(w4:T.c base 2 "_law_mixed" sMix6)(w8:T.c base 1 "_law_ink" sInk6)(wz:T.c base 1 "_law_sign" sSign6):F.k T base 3 qR sDrawn30:=by
 have nd:=qR.nd;apply F.okG qR f!"l" (λhr=>(zc (zo 4 nd (yg qn)) (zc (zo 5 nd (zg w4 hr (qc (pv 0) (qc (pv 1) qn)))) (zc (zn (zl zx (zf zA (pv 5) zb) zb) (za (zm (yz (K:=K) rfl m5 mo mr xF (pv 4) (QA.pa (qc (zC (qc zh (qc (zf zA (zf zB (pv 5) zb) (pv 3)) (qc (zf zw zb (zf zA (zf zB (pv 5) zb) (zf yi (pv 3) (zf zA (zf zB (pv 5) zb) (pv 3))))) qn)))) qn))))) zr) (zc (zn (zl zx (zf zA (zf zB (pv 5) zb) zb) zb) (za (zm (yz (K:=K) rfl m5 mo mr xF (pv 4) (QA.pa (qc (zC (qc zh (qc (zf zA (zf zB (pv 5) zb) (pv 3)) (qc (zf zw zb (zf zA (zf zB (pv 5) zb) (zf yi (pv 3) (zf zA (zf zB (pv 5) zb) (pv 3))))) qn)))) qn))))) zr) (zc (zo 6 nd zh5) (zc (yD m6 rfl (yl rfl T.n_range (QA.pa (qc (zf zA (zf zB (pv 5) zb) zb) qn))) (zy (i:=7) nd rfl (Or.inl rfl)) (zc (zo 8 nd (zg w4 hr (qc (pv 0) (qc (zf zw (zf zw (pv 1) zb) (pv 7)) qn)))) (zc (zo 9 nd (zf zA (zf zB (pv 8) zb) (pv 2))) (zc (zo 10 nd (zf zw zb (zf zA (zf zB (pv 8) zb) (zf yi (pv 2) (pv 9))))) (zc (JL (i:=11) nd rfl rfl (xM (N:=["_law_j","_law_more","_law_high","_law_place"]) (n:=1) (js:=[8,3,9])) rfl (yl rfl T.n_range (QA.pa (qc (pv 10) qn))) (λ_ _ _ _=>(zy (i:=0) (show List.Nodup (["_law_j","_law_more","_law_high","_law_place"]:List Str)by decide +kernel) rfl (Or.inl rfl))) (λ_ _ _ _=>yG) (λ_ _ _ _=>(zdg (qc (zf zA (pv 1) (pv 2)) (qc (zf zw (pv 3) (pv 0)) qn))))) (za (zn (zl (zne (K:=K) rfl hr.units) (UA (xM (N:=["_law_cell","_law_met"]) (n:=1) (js:=[6])) rfl (xu (K:=K) rfl (pv 11)) (λ_ _ _ _=>(zy (i:=0) (show List.Nodup (["_law_cell","_law_met"]:List Str)by decide +kernel) rfl (Or.inl rfl))) (λ_ _ _ _=>(Xf (zlW (zmA (zd9 hr) (pv 0) (pv 1))))) (λ_ _ _ _=>(pv 0))) (yB qn)) (zc (zo 12 nd (yz (K:=K) rfl mX nG nH (k8 (K:=K) rfl) zh (QA.pa (qc (zm2 (xM (N:=["_law_j","_law_more"]) (n:=1) (js:=[8])) rfl (yl rfl T.n_range (QA.pa (qc (pv 10) qn))) (λ_ _ _ _=>(zy (i:=0) (show List.Nodup (["_law_j","_law_more"]:List Str)by decide +kernel) rfl (Or.inl rfl))) (λ_ _ _ _=>yG) (λ_ _ _ _=>(zg wz hr (qc (zf zB (pv 1) (zf zw (pv 0) zb)) qn)))) qn)))) (zc (zm (yz (K:=K) rfl m5 mo mr xF (pv 4) (QA.pa (qc (zC (qc zh (qc (zf zA (pv 8) (pv 3)) (qc (pv 9) (qc (pv 12) (qc (zg w8 hr (qc (zf zB (pv 8) zb) qn)) qn)))))) qn)))) (za (zm (yz (K:=K) rfl oF PySem.F.slot_dict_update PySem.F.type_dict_update (zng hr.units) (pv 6) (QA.pa (qc (zE (ziE (K:=K) rfl rfl hr.units) (by rfl) T.n_dict rfl (QA.pa (qc (UA (xM (N:=["_law_cell"]) (n:=1) (js:=[])) rfl (xu (K:=K) rfl (pv 11)) (λ_ _ _ _=>(zy (i:=0) (show List.Nodup (["_law_cell"]:List Str)by decide +kernel) rfl (Or.inl rfl))) (λ_ _ _ _=>yG) (λ_ _ _ _=>(zdg (qc (pv 0) (qc zT qn))))) qn))) qn))))))) zr))))))) (za (zj (pv 4))))))))))
 .walk_at "rf7"
 rintro _ gQ _ O R ⟨ns,fi,wd,hg,rfl,ww,w0,w1,h0,h1,h⟩;apply gQ;refine Yw (λl O'=>Ex2 λp (o:Int)=>An5 (0<=o) (o<2147483629) (O p=none) (O'=updO O p (.lst [])) (l=[some (.d (.list (ns.map .int))),some (.d (.int fi)),some (.d (.int wd)),some (.d (.int hg)),some (.own p),some (.d (.int o)),none,none,none,none,none,none,none])) (λR1 v=>?_) ?_
 .walk_at "wd7";intro p hp;exact⟨ns,fi,rfl,⋯,λo n0 n1=>v _ _ ⟨p,o,n0,n1,hp,rfl,rfl⟩⟩
 rintro _ gQ _ _ ⟨p,o,n0,n1,hp,rfl,rfl⟩;apply gQ;have we:∀a b:Int,0<a->0<b->∃r m:Nat,o / a%(hg:Int)=(r:Int)/\1+o / b%((hg:Int)-o / a%(hg:Int))=(m:Int)/\1<=m/\r+m<=hg:=λa b a0 b0=>by have p0:0<=o / a%(hg:Int):=mw _ ⋯;have p1:o / a%(hg:Int)<hg:=m8 _ ⋯;obtain⟨r,er⟩:=lO p0;rw[er]at p1 ⊢;have m0:0<=o / b%((hg:Int)-(r:Nat)):=mw _ ⋯;have m1:o / b%((hg:Int)-(r:Nat))<(hg:Int)-(r:Nat):=m8 _ ⋯;generalize o / b%((hg:Int)-(r:Nat))=x at m0 m1;obtain⟨x,rfl⟩:=lO m0;exact⟨r,1+x,rfl,⋯,⋯,⋯⟩
 have ap:∀(g:OM) (ds:List Dd) (d:Dd),g p=some (.lst ((ds.map ddD).map .d))->ds.length<=10->jh g (.own p) (.d (ddD d))=some (updO g p (.lst (((ds++[d]).map ddD).map .d))):=λg ds d L dl=>by simp only[jh,L];rw[l9 (by rw[l8,l8];lia)];simp
 have ty:∀(g:OM) (ds:List Dd),g p=some (.lst ((ds.map ddD).map .d))->tyW "list" g (.own p):=λg ds L=>.inl ⟨rfl,by simp[seqL,L]⟩;refine yO (λl O'=>Ex1 λ(ds:List Dd)=>An5 (Old O O') (O' p=some (.lst ((ds.map ddD).map .d))) (ds.length<=1) ((∀d∈ds,okDd wd hg d/\nwD d)) (l=[some (.d (.list (ns.map .int))),some (.d (.int fi)),some (.d (.int wd)),some (.d (.int hg)),some (.own p),some (.d (.int o)),none,none,none,none,none,none,none])) (λR1 v=>?_) ?_
 .walk_at "wd7";have e0:updO O p (.lst []) p=some (.lst ((([]:List Dd).map ddD).map .d)):=zd;obtain⟨r,m,e1,e2,m1,m2⟩:=we 3 36 ∅ ∅;rw[e2,e1];split
  .exact⟨ty _ _ e0,⟨⋯,⋯⟩,⋯,⟨⋯,⋯⟩,⟨⋯,⋯⟩,⋯,⋯,_,ap _ _ (.cut r m) e0 ∅,v _ _ ⟨[.cut r m],(Old.refl.upd hp).upd hp,zd,m!"",λd hd=>by cases lf.1 hd;exact⟨⟨m1,m2⟩,trivial⟩,rfl⟩⟩
  .exact v _ _ ⟨[],Old.refl.upd hp,e0,m!"",λd hd=>(nomatch hd),rfl⟩
 rintro _ gQ _ O1 ⟨ds,J,E,dl,dk,rfl⟩;apply gQ;refine zpq (λl O'=>Ex1 λ(ds:List Dd)=>An5 (Old O O') (O' p=some (.lst ((ds.map ddD).map .d))) (ds.length<=2) ((∀d∈ds,okDd wd hg d/\nwD d)) (l=[some (.d (.list (ns.map .int))),some (.d (.int fi)),some (.d (.int wd)),some (.d (.int hg)),some (.own p),some (.d (.int o)),none,none,none,none,none,none,none])) (λR1 v=>?_) ?_
 .walk_at "wd7";obtain⟨r,m,e1,e2,m1,m2⟩:=we 5 60 ∅ ∅;rw[e2,e1];refine⟨⟨⋯,⋯⟩,?_⟩;split
  .refine⟨ty _ _ E,⟨⋯,⋯⟩,⋯,⟨⋯,⋯⟩,⟨⋯,⋯⟩,⋯,⋯,_,ap _ _ (.put r m) E ⋯,v _ _ ⟨ds++[.put r m],J.upd hp,zd,by simp;lia,λd hd=>?_,rfl⟩⟩;rcases ls.1 hd with hd|hd
   .exact dk d hd
   .cases lf.1 hd;exact⟨⟨m1,m2⟩,trivial⟩
  .exact v _ _ ⟨ds,J,E,⋯,dk,rfl⟩
 clear J E dl dk;rintro _ O1 ⟨ds,J,E,dl,dk,rfl⟩;refine Yw (λl O'=>Ex8 λv6 v7 v8 v9 M I B (es:List Dd)=>An5 (Old O O') (O' p=some (.lst (((ds++es).map ddD).map .d))) (es.length<=4) ((∀d∈es,okDd wd hg d/\ywD d)) (l=[some (.d (.list (ns.map .int))),some (.d (.int fi)),some (.d (.int wd)),some (.d (.int hg)),some (.own p),some (.d (.int o)),v6,v7,v8,v9,M,I,B])) (λR1 v=>?_) ?_
 .walk_at "wd7";intro pm xA;have wn:p≠pm:=neO E xA;have ys:O pm=none:=J.nn xA;refine⟨⟨⋯,⋯⟩,⋯,⋯,?_⟩;refine zS.rngG (f:=λj=>(j:Int)) (λj ρ O'=>Ex8 λv7 v8 v9 M I B (m:Nat) (es:List Dd)=>An7 (Old O O') (O' p=some (.lst (((ds++es).map ddD).map .d))) (O' pm=some (.raw (qA m))) (m<=24*j) (es.length<=j) ((∀d∈es,okDd wd hg d/\ywD d)) (ρ=[some (.d (.list (ns.map .int))),some (.d (.int fi)),some (.d (.int wd)),some (.d (.int hg)),some (.own p),some (.d (.int o)),some (.own pm),v7,v8,v9,M,I,B])) ⟨_,_,_,_,_,_,0,[],J.upd ys,by rw[ze wn,mm];exact E,zd,⋯,ll _,λd hd=>(nomatch hd),rfl⟩ ?_ ?_
  .rintro j _ gQ _ O2 hj ⟨v7,v8,v9,M,I,B,m,es,S,G,V,ml,el,ek,rfl⟩;refine gQ _ _ λR2 xr=>?_;have wx:j<5:=⋯
   refine jm (λl O'=>Ex3 λ(n:Int) (pl sz:Nat)=>An6 (0<=n) (n<3000000000) (1<=sz) (pl+sz<=wd) (l=[some (.d (.list (ns.map .int))),some (.d (.int fi)),some (.d (.int wd)),some (.d (.int hg)),some (.own p),some (.d (.int o)),some (.own pm),some (.d (.int j)),some (.d (.int n)),some (.d (.int pl)),some (.d (.int sz)),I,B]) (O2=O')) (λR3 xb=>?_) ?_
   .walk_at "wd7";refine⟨ns,fi+1+j,m!"",⋯,λn n0 n1=>⟨⟨⋯,⋯⟩,⋯,⟨⋯,⋯⟩,m8 _ ⋯,?_⟩⟩;have p0:0<=n / 12%(wd:Int):=mw _ ⋯;have p1:n / 12%(wd:Int)<wd:=m8 _ ⋯;generalize n / 12%(wd:Int)=pl at p0 p1;obtain⟨pl,rfl⟩:=lO p0;have m0:0<=n / 288%((wd:Int)-pl):=mw _ ⋯;have m1:n / 288%((wd:Int)-pl)<(wd:Int)-pl:=m8 _ ⋯;generalize n / 288%((wd:Int)-pl)=s at m0 m1;obtain⟨s,rfl⟩:=lO m0;exact xb _ _ ⟨n,pl,1+s,n0,⋯,⋯,⋯,m!"",rfl⟩
   rintro _ gQ _ _ ⟨n,pl,sz,n0,n1,wA,ps,rfl,rfl⟩;apply gQ;refine yO (λl O'=>Ex2 λq (cs:List Addr)=>An6 (Old O2 O') (O2 q=none) (O' q=some (.lst (cs.map W.own))) (cs.length=sz) ((∀(i:Nat) (c:Addr),cs[i]? =some c->CellW O' (n.toNat%hg) (pl+i) c)) (l=[some (.d (.list (ns.map .int))),some (.d (.int fi)),some (.d (.int wd)),some (.d (.int hg)),some (.own p),some (.d (.int o)),some (.own pm),some (.d (.int j)),some (.d (.int n)),some (.d (.int pl)),some (.d (.int sz)),some (.own q),B])) (λR3 xb=>?_) ?_
   .walk_at "wd7";refine⟨⋯,⋯,λi vs O'=>Ex1 λ(cs:List Addr)=>An4 (vs=cs.map W.own) (Old O2 O') (cs.length=i) (∀(k:Nat) (c:Addr),cs[k]? =some c->CellW O' (n.toNat%hg) (pl+k) c),⟨[],rfl,Old.refl,rfl,λk c hc=>by simp at hc⟩,?_,?_⟩
    .rintro i _ _ O' x hx rfl ⟨cs,rfl,ho,hl,hc⟩ us hu;obtain⟨u,rfl⟩:=lU.1 hu;have wt:i=x:=by
      obtain⟨g1,g2⟩:=lv.1 hx;rw[List.getElem_range]at g2;exact g2
     subst wt;refine⟨rfl,rfl,(show(0:Int)<hg by lia),λa Z=>⟨cs++[a],m!"",ho.upd (ho.nn Z),by simp[hl],λk c Q=>?_⟩⟩;rw[List.getElem?_append]at Q;split at Q
     .exact(hc k c Q).old (Old.refl.upd Z)
     .rename_i wy;have wk:k-cs.length= 0:=by
       rcases Nat.eq_zero_or_pos (k-cs.length)with z|z
       .exact z
       .rw[mh (by simp;lia)]at Q;cases Q
      rw[wk]at Q;cases Q;have ek:k=i:=⋯
      subst ek;unfold CellW;rw[zd];have e1:n%(hg:Int)=((n.toNat%hg:Nat):Int):=by obtain⟨m,rfl⟩:=lO n0;rfl
      rw[e1];rfl
    .rintro _ O' ⟨cs,rfl,ho,hl,hc⟩ a Z;exact xb _ _ ⟨a,cs,ho.upd (ho.nn Z),ho.nn Z,zd,hl,λk c Q=>(hc k c Q).old (Old.refl.upd Z),rfl⟩
   rintro _ gQ _ g ⟨q,cs,xd,wo,zs,cl,ck,rfl⟩;apply gQ;have L:g p=some (.lst (((ds++es).map ddD).map .d)):=by rw[xd p (by rw[G];simp)];exact G
   have X:g pm=some (.raw (qA m)):=by rw[xd pm (by rw[V];simp)];exact V
   have cellAt:∀w∈cs.map W.own,∃r c b,w=W.own b/\CellW g r c b:=λw H=>by obtain⟨b,hb,rfl⟩:=lH.1 H;obtain⟨i,hi⟩:=List.mem_iff_getElem?.1 hb;exact⟨_,_,b,rfl,ck i b hi⟩
   walk_at "wd7";refine⟨cs.map W.own,by simp only[seqL,zs],by simp;lia,λi vs O'=>O'=g/\∀w∈vs,∃r c b,w=W.own b/\CellW g r c b,⟨rfl,λw H=>(nomatch H)⟩,λi vs O' hJ=>by rw[hJ.1];simp only[seqL,zs],?_,?_⟩
   .rintro i w vs _ H ⟨rfl,hv⟩ us hu;obtain⟨u,rfl⟩:=lU.1 hu;obtain⟨r,c,b,rfl,hb⟩:=cellAt w (lE H);refine⟨rfl,rfl,pm,b,rfl,rfl,⟨_,_,hb⟩,⟨_,X⟩,⟨rfl,hv⟩,rfl,λw' hw'=>?_⟩;rcases ls.1 hw' with hw'|hw'
    .exact hv w' hw'
    .cases lf.1 hw';exact⟨_,_,b,rfl,hb⟩
   .rintro vs O' ⟨e,hv⟩ a Z;rw[e]at Z ⊢;clear e;have oa:Old g (updO g a (.lst vs)):=Old.refl.upd Z;refine⟨λw H=>by obtain⟨r,c,b,e,hb⟩:=hv w H;exact⟨r,c,b,e,hb.old oa⟩,?_⟩;have oO:Old O (updO g a (.lst vs)):=(S.trans xd).trans oa;have U:updO g a (.lst vs) p=some (.lst (((ds++es).map ddD).map .d)):=by rw[oa p (by rw[L];simp)];exact L
    have Y:updO g a (.lst vs) pm=some (.raw (qA m)):=by rw[oa pm (by rw[X];simp)];exact X
    have wp:updO g a (.lst vs) q=some (.lst (cs.map W.own)):=by rw[oa q (by rw[zs];simp)];exact zs
    have xp:∀(i:Nat) (c:Addr),cs[i]? =some c->CellW (updO g a (.lst vs)) (n.toNat%hg) (pl+i) c:=λi c hc=>(ck i c hc).old oa;generalize updO g a (.lst vs)=O4 at *;split
    .have wq:p≠q:=neO G wo;have e1:n%(hg:Int)=((n.toNat%hg:Nat):Int):=by
      obtain⟨m,rfl⟩:=lO n0;rfl
     rw[e1];have wa:n.toNat%hg<hg:=Nat.mod_lt _ ⋯;generalize n.toNat%hg=r at ck xp wa;refine⟨.inr (.inl ⟨rfl,_,rfl⟩),⋯,⋯,λd=>∃k:Nat,32<=k/\k<=126/\d=.str ⟨#[k]⟩,?_,?_⟩
     .intro a Z us hu;obtain⟨u,rfl⟩:=lU.1 hu;refine⟨rfl,rfl,?_⟩;show zhK n ((a:Int)+2)/\sSign6 [W.d (.int (n / ((a:Int)+2)))] O4 λy g=>g=O4/\∃d,y=W.d d/\∃k:Nat,32<=k/\k<=126/\d=.str ⟨#[k]⟩;exact⟨⟨⋯,⋯⟩,_,rfl,Int.ediv_nonneg n0 ⋯,λk k0 k1=>⟨rfl,_,rfl,k,k0,k1,rfl⟩⟩
     .intro gs gl ep;obtain⟨ks,xq,kb⟩:=zcb gs ep;have kl:ks.length=sz:=by rw[xq,l8]at gl;exact gl
      refine⟨ks.map λk=>⟨#[k]⟩,by rw[xq];show some ((ks.map _).map W.d)=_;rw[lT,lT];rfl,f!"",by rw[zcc,l8];lia,.inl ⟨rfl,by simp[seqL,U]⟩,⋯,⟨⋯,⋯⟩,_,rfl,⋯,λik i0 i1=>?_⟩;rw[show Txt.join s!"" (ks.map λk=>(⟨#[k]⟩:Str))=⟨ks.toArray⟩from za8 ks];have wv:okDd wd hg (Dd.wr r pl ⟨ks.toArray⟩ ik):=⟨wa,by show pl+ks.toArray.size<=wd;rw[lC];lia,λk Q=>kb k (by simpa using Q)⟩;refine⟨_,⟨_,rfl,rfl⟩,by show 5<=1000;lia,updO O4 p (.lst (((ds++(es++[Dd.wr r pl ⟨ks.toArray⟩ ik])).map ddD).map .d)),?_,?_⟩
      .exact(ap O4 (ds++es) (.wr r pl ⟨ks.toArray⟩ ik) U (by rw[lx];lia)).trans (by rw[mS])
      have wb:pm≠p:=Ne.symm (neW U Y (by intro h;cases h));have A:updO O4 p (.lst (((ds++(es++[Dd.wr r pl ⟨ks.toArray⟩ ik])).map ddD).map .d)) pm=some (.raw (qA m)):=by rw[ze wb];exact Y
      have xk:updO O4 p (.lst (((ds++(es++[Dd.wr r pl ⟨ks.toArray⟩ ik])).map ddD).map .d)) q=some (.lst (cs.map W.own)):=by rw[ze (Ne.symm wq)];exact wp
      have wi:∀(i:Nat) (c:Addr),cs[i]? =some c->CellW (updO O4 p (.lst (((ds++(es++[Dd.wr r pl ⟨ks.toArray⟩ ik])).map ddD).map .d))) r (pl+i) c:=λi c hc=>by have h1:=xp i c hc;unfold CellW at *;rw[ze (neW h1 U (by intro h;cases h))];exact h1
      have wu:Old O (updO O4 p (.lst (((ds++(es++[Dd.wr r pl ⟨ks.toArray⟩ ik])).map ddD).map .d))):=oO.upd hp;have xs:updO O4 p (.lst (((ds++(es++[Dd.wr r pl ⟨ks.toArray⟩ ik])).map ddD).map .d)) p=some (.lst (((ds++(es++[Dd.wr r pl ⟨ks.toArray⟩ ik])).map ddD).map .d)):=zd;generalize updO O4 p (.lst (((ds++(es++[Dd.wr r pl ⟨ks.toArray⟩ ik])).map ddD).map .d))=O5 at *;refine⟨⟨_,A⟩,cs.map W.own,by simp only[seqL,xk],by simp;lia,λi vs O'=>Old O5 O'/\∃D:List Addr,vs=D.map W.own/\D.length=i/\∀t∈D,PairW O' r (.own t),⟨Old.refl,[],rfl,rfl,λt ht=>(nomatch ht)⟩,λi vs O' hJ=>by simp only[seqL,hJ.1 q (by rw[xk];simp),xk],?_,?_⟩
      .rintro i w _ O' H ⟨ho,D,rfl,tl,tp⟩ us hu;obtain⟨u,rfl⟩:=lU.1 hu;rw[lw]at H;cases hci:cs[i]? with
       |none=>rw[hci]at H;cases H
       |some b=>
        rw[hci]at H;cases H;have il:i<cs.length:=(lv.1 hci).1;refine⟨rfl,rfl,_,rfl,by show 2<=1000;lia,λt ht=>⟨ho.upd (ho.nn ht),D++[t],m!"",by simp[tl],λt' ht'=>?_⟩⟩;have wf:Old O' (updO O' t (.raw (zbj [.ref b,.bl true]))):=Old.refl.upd ht;rcases ls.1 ht' with ht'|ht'
        .exact(tp t' ht').old wf
        .cases lf.1 ht';exact⟨t,b,pl+i,rfl,zd,((wi i b hci).old ho).old wf,⋯⟩
      .rintro _ O6 ⟨wl,D,rfl,tl,tp⟩ a2 wj;have wg:Old O6 (updO O6 a2 (.lst (D.map W.own))):=Old.refl.upd wj;have xl:=wl.trans wg;refine⟨r,⋯,by simp;simp at tl;lia,λw H=>?_,?_⟩
       .obtain⟨t,ht,rfl⟩:=lH.1 H;exact(tp t ht).old wg
       intro p6 xe;have xo:Old O5 (updO (updO O6 a2 (.lst (D.map W.own))) p6 (.raw (QW (D.map W.own).length))):=xl.upd (xl.nn xe);have xO:updO (updO O6 a2 (.lst (D.map W.own))) p6 (.raw (QW (D.map W.own).length)) pm=some (.raw (qA m)):=by rw[xo pm (by rw[A];simp)];exact A
       have wm:updO (updO O6 a2 (.lst (D.map W.own))) p6 (.raw (QW (D.map W.own).length)) p=some (.lst (((ds++(es++[Dd.wr r pl ⟨ks.toArray⟩ ik])).map ddD).map .d)):=by rw[xo p (by rw[xs];simp)];exact xs
       have wc:¬pm=p6:=λe=>by rw[<-e,xl pm (by rw[A];simp),A]at xe;cases xe
       have wh:(D.map W.own).length=sz:=by rw[l8,tl,l8];exact cl
       refine⟨m,xO,(D.map W.own).length,rfl,wc,by rw[wh];lia,xr _ _ ⟨_,_,_,_,_,_,m+(D.map W.own).length,es++[Dd.wr r pl ⟨ks.toArray⟩ ik],(wu.trans xo).upd ys,by rw[ze (Ne.symm wb)];exact wm,zd,by rw[wh];lia,by simp;lia,λx hx=>?_,rfl⟩⟩;rcases ls.1 hx with hx|hx
       .exact ek x hx
       .cases lf.1 hx;exact⟨wv,i0,i1,by show 1<=ks.toArray.size;rw[lC];lia⟩
    .exact xr _ _ ⟨_,_,_,_,_,_,m,es,oO,U,Y,⋯,⋯,ek,rfl⟩
  .rintro _ O2 ⟨v7,v8,v9,M,I,B,m,es,S,G,V,ml,el,ek,rfl⟩;exact v _ _ ⟨_,_,_,_,_,_,_,es,S,G,⋯,ek,rfl⟩
 rintro _ gQ _ O2 ⟨v6,v7,v8,v9,M,I,B,es,S,G,el,ek,rfl⟩;apply gQ;walk_at "wd7";exact .inr ⟨_,_,rfl,G,h ds es _ dl el dk ek (S.del hp)⟩
end
def zlI{r s:Rea}(h:rdD r=rdD s):r=s:=by
 have ns:s!"line"≠s!"tab":=f!""
 cases r<;>cases s<;>simp only[rdD,PyData.tuple.injEq,List.cons.injEq,PyData.str.injEq,and_true,List.nil_eq,reduceCtorEq,and_false,true_and]at h<;>try trivial
 .have e:=mH (λz:Str=>z.cps.toList) h;simp at e;rw[e]
 .obtain⟨a,b⟩:=h;have e:=mH (λz:Str=>z.cps.toList) a;simp at e;rw[e,b]
def zdH{r:Rea}(h:OkQ r):rsF [] (rdT r).cps.toList=[r]:=by
 have e:=UN (cs:=(rdT r).cps.toList) (b:=[]);rw[zdo h]at e;have e:[rdD r]=(rsF [] (rdT r).cps.toList).map rdD:=e;cases hr:rsF [] (rdT r).cps.toList with
 |nil=>rw[hr]at e;cases e
 |cons x l=>
  rw[hr]at e;cases l with
  |nil=>rw[zlI (show rdD r=rdD x from by injection e)]
  |cons y l=>exact absurd (mH List.length e) m!""
def JY{c:Nat}{ns:List PyData}(a:isLet c)(h:Ok3 ns):∀k∈(rowT c ns).cps.toList,32<=k/\k<=126:=λk hk=>by
 rw[YA]at hk;rcases lu.1 hk with rfl|hk
 .exact⟨∅,∅⟩
 .rcases ls.1 hk with hk|hk
  .have q:=ZJ h k hk;unfold vc at q
   lia
  .cases lf.1 hk;unfold isLet at a
   lia
def Y3{c:Nat}{ns:List PyData}(h:c∈ls30):∀r∈[Rea.row c ns],LtR r:=λr a=>by
 cases lf.1 a;exact lM h
def zce{l m:List Rea}(h:∀r∈l,LtR r)(k:∀r∈m,LtR r):∀r∈l++m,LtR r:=λr hr=>by
 rcases ls.1 hr with hr|hr
 .exact h r hr
 .exact k r hr
def zcf{ks:List Nat}:∀r∈ks.map Rea.sign,LtR r:=λr a=>by
 obtain⟨k,_,rfl⟩:=lH.1 a;rfl
structure StT (n:Nat) (z:Str):Prop where
 r:(rdF [] z.cps.toList).1 =[]
 c:∀c∈z.cps.toList,32<=c/\c<=126
 l:z.length<=n
 t:∀r∈rsF [] z.cps.toList,LtR r
inductive sStir (ws:List W) (O:OM) (R:WK):Prop
 |mk:∀(ns:List Int) (c b a:Nat),ws=[.d (.list (ns.map .int)),.d (.int c),.d (.int b),.d (.int a)]->c<=50->1<=b->b<=24->1<=a->a<=12->(∀z,StT 700 z->R (.d (.str z)) O)->sStir ws O R
def StT.app{a b:Nat}{y:Str}(h:StT a y)(k:StT b z):StT (a+b) (y++z):=by
 refine⟨?_,λc hc=>?_,by rw[zv];have:=h.l;have:=k.l;lia,by rw[zJ,Q0,h.r];exact zce h.t k.t⟩
 .rw[zJ,Xr];show(rdF (rdF [] y.cps.toList).1 z.cps.toList).1 =[];rw[h.r];exact k.r
 .rw[zJ]at hc;rcases ls.1 hc with hc|hc
  .exact h.c c hc
  .exact k.c c hc
def jO{c:Nat}{ns:List PyData}(b:c∈ls30)(a:isLet c)(h:Ok3 ns):StT 100 (rowT c ns):=
 ⟨by rw[zg7 a h],JY a h,yq ⟨a,h⟩,by rw[show rsF [] (rowT c ns).cps.toList=[.row c ns]from zdH (r:=.row c ns) ⟨a,h⟩];exact Y3 b⟩
def KZ(h:(rdF [] z.cps.toList).1 =[]/\(z.cps.toList.all λc=>decide (32<=c/\c<=126))=true/\z.length<=n/\(rsF [] z.cps.toList).all ltB=true):StT n z:=
 ⟨h.1,λc a=>mC (mZ.1 h.2.1 c a),h.2.2.1,λr b=>mZ.1 h.2.2.2 r b⟩
def zht:∀z∈[s!"~1;2;13;25c",s!"~2;3o",s!"~1f",s!"~3o",s!"~v",s!"~z",s!"ab~~c~d",s!"~t~U",s!"~3M~y"],StT 100 z:=by
 intro z hz;simp only[lu,lF,ma]at hz;rcases hz with rfl|rfl|rfl|rfl|rfl|rfl|rfl|rfl|rfl<;>exact KZ f!""
def zqv:∀k:_root_.Fin 5,StT 100 (Txt.mul s!"x" (k.val:Int))/\MulOk s!"x" (k.val:Int):=λk=>
 have h:∀k:_root_.Fin 5,((rdF [] (Txt.mul s!"x" (k.val:Int)).cps.toList).1 =[]/\((Txt.mul s!"x" (k.val:Int)).cps.toList.all λc=>decide (32<=c/\c<=126))=true/\(Txt.mul s!"x" (k.val:Int)).length<=100/\(rsF [] (Txt.mul s!"x" (k.val:Int)).cps.toList).all ltB=true)/\MulOk s!"x" (k.val:Int):=by unfold MulOk;decide +kernel
 ⟨KZ (h k).1,(h k).2⟩
def zkf(b:Nat)(s:Str)(c:Nat)(e:s=⟨#[c]⟩):s!"~" ++ numT (natD b)++s=rowT c [natD b]:=by rw[e];rfl
def zph(b:Nat):s!"~2;" ++ numT (natD b)++s!"m" =rowT 109 [natD 2,natD b]:=by
 unfold rowT;rw[show Txt.join s!";" ([natD 2,natD b].map numT)=numT (natD 2)++s!";" ++ numT (natD b)from rfl,show s!"m" =⟨#[109]⟩by decide +kernel,show s!"~2;" =s!"~" ++ (numT (natD 2)++s!";")by decide +kernel];simp only[qu]
section
variable {base:Heap}{cD cS cL cT cR:Addr}{R:WK}
seal PE PS PSs PT PA in
def Qd(F:Fun K "_law_stirring" "_law_stirring" (top 122) f fd)(T:Txt P w K mg C bw)(w4:T.c base 2 "_law_mixed" sMix6):F.k T base 3 vP sStir:=by
 have j:=vP.nd;apply F.okG vP f!"l" (λX=>(zc (zo 4 j zh) (zc (yD m6 rfl (yl rfl T.n_range (QA.pa (qc (zf zA (zg w4 X (qc (pv 0) (qc (pv 1) qn))) zb) qn))) (zy (i:=5) j rfl (Or.inl rfl)) (zc (zo 6 j (zf zB (zg w4 X (qc (pv 0) (qc (zf zw (zf zw (pv 1) zb) (zf zA (pv 5) zb)) qn))) (zf zw zb (zf zB (pv 5) zb)))) (zc (zo 7 j (zf zA (zf zB (pv 6) zb) (zf zw (pv 3) zb))) (zc (zo 8 j (zf zA (zf zB (pv 6) zb) (zf zw (pv 2) zb))) (zc (zo 9 j (zkI rfl)) (zc (zo 9 j (zf (jc (K:=K) rfl) (pv 9) (yB (qc (zf zq (zf zq zh (zE yp (by rfl) T.n_str rfl (QA.pa (qc (pv 8) qn)))) zh) (qc (zf zq (zf zq zh (zE yp (by rfl) T.n_str rfl (QA.pa (qc (pv 3) qn)))) zh) (qc (zf zkU zh (zf zA (pv 8) zb)) qn)))))) (zc (zo 9 j (zf (jc (K:=K) rfl) (pv 9) (yB (qc (zf zq (zf zq (zf zq (zf zq zh (zE yp (by rfl) T.n_str rfl (QA.pa (qc (zf zw (pv 7) zb) qn)))) zh) (zE yp (by rfl) T.n_str rfl (QA.pa (qc (zf zw (pv 8) zb) qn)))) zh) (qc (zf zq (zf zq zh (zE yp (by rfl) T.n_str rfl (QA.pa (qc (pv 8) qn)))) zh) qn))))) (za (zo 4 j (zf zq (pv 4) (zp (xx (K:=K) rfl) (pv 9) (zf zA (pv 6) zb)))))))))))) (za (zj (pv 4))))))
 .walk_at "ref"
 rintro _ gQ _ O R ⟨ns,B,u,e,rfl,zs,w0,w1,h0,h1,h⟩;apply gQ;walk_at "go";refine⟨ns,B,rfl,⋯,λn Z n1=>?_⟩;walk_at "go"
 rotate_left
 .exact⟨⋯,⋯⟩
 refine zS.rngG (f:=λi=>(i:Int)) (λi ρ O'=>O=O'/\∃z J L N Q D,StT (100*i) z/\ρ=[some (.d (.list (ns.map .int))),some (.d (.int B)),some (.d (.int u)),some (.d (.int e)),some (.d (.str z)),J,L,N,Q,D]) ⟨rfl,_,_,_,_,_,_,KZ f!"",rfl⟩ ?_ ?_
 .rintro i _ gQ _ _ hi ⟨rfl,z,J,L,N,Q,D,hz,rfl⟩;refine gQ _ _ λR2 E=>?_;have ys:i<7:=⋯
  refine jm (λA O'=>Ex3 λ(n:Int) (a b:Nat)=>An5 (0<=n) (a<=13) (b<=25) (A=[some (.d (.list (ns.map .int))),some (.d (.int B)),some (.d (.int u)),some (.d (.int e)),some (.d (.str z)),some (.d (.int i)),some (.d (.int n)),some (.d (.int a)),some (.d (.int b)),D]) (O=O')) (λR3 s=>?_) ?_
  .walk_at "go";refine⟨ns,B+1+i%6,m!"",⋯,λn Z n1=>?_⟩;have S:∃d:Int,1+(i:Int) / 6 =d/\(d= 1\/d= 2):=⟨_,rfl,⋯⟩;obtain⟨d,ed,S⟩:=S;have q0:0<=n / d:=Int.ediv_nonneg Z ⋯;have p0:0<=n / d / 16%((e:Int)+2):=mw _ ⋯;have p1:n / d / 16%((e:Int)+2)<(e:Int)+2:=m8 _ ⋯;have r0:0<=n / d / 256%((u:Int)+2):=mw _ ⋯;have r1:n / d / 256%((u:Int)+2)<(u:Int)+2:=m8 _ ⋯;walk_at "go";rw[ed];generalize n / d / 16%((e:Int)+2)=a at p0 p1;generalize n / d / 256%((u:Int)+2)=b at r0 r1;obtain⟨a,rfl⟩:=lO p0;obtain⟨b,rfl⟩:=lO r0;exact s _ _ ⟨_,a,b,q0,⋯,⋯,rfl,rfl⟩
  rintro _ gQ _ _ ⟨m,a,b,m0,ha,hb,rfl,rfl⟩;apply gQ;refine jm (λA O'=>Ex1 λ(p:List Str)=>An4 (p.length= 14) ((∀x∈p,StT 100 x)) (A=[some (.d (.list (ns.map .int))),some (.d (.int B)),some (.d (.int u)),some (.d (.int e)),some (.d (.str z)),some (.d (.int i)),some (.d (.int m)),some (.d (.int a)),some (.d (.int b)),some (.d (.list (p.map .str)))]) (O=O')) (λR3 s=>?_) ?_
  .have nb:=vK (xg (n:=b) ⋯).d;have I:=vK (xg (n:=b+1) ⋯).d;have H:=vK (xg (n:=a+1) ⋯).d;have nh:=vK (xg (n:=e) ⋯).d;have sb:(Str.ofString (toString (b:Int))).length<=8:=nb;have xd:(Str.ofString (toString ((b:Int)+1))).length<=8:=I;have xb:(Str.ofString (toString ((a:Int)+1))).length<=8:=H;have sh:(Str.ofString (toString (e:Int))).length<=8:=nh;have lc:s!"~".length= 1/\s!"M".length= 1/\s!"~2;".length= 3/\s!"m".length= 1/\s!";".length= 1/\s!"g".length= 1/\s!"d".length= 1:=f!""
   obtain⟨c1,c2,c3,c4,c5,c6,c7⟩:=lc;have hx:=zqv ⟨b%5,⋯⟩;have ex:(((⟨b%5,⋯⟩:_root_.Fin 5).val:Nat):Int)=(b:Int)%5:=by show((b%5:Nat):Int)=_;lia
   rw[ex]at hx;have t1:StT 100 (s!"~" ++ Str.ofString (b:Int).repr++s!"M"):=by rw[show s!"~" ++ Str.ofString (b:Int).repr++s!"M" =rowT 77 [natD b]from zkf b _ 77 f!""];exact jO ∅ ∅ (ok1 (c:=77) ∅ ⋯).2
   have t2:StT 100 (s!"~2;" ++ Str.ofString (e:Int).repr++s!"m"):=by rw[show s!"~2;" ++ Str.ofString (e:Int).repr++s!"m" =_ from zph e];exact jO ∅ ∅ (ok2 (c:=109) ∅ ⋯ ⋯).2
   have t3:StT 100 (s!"~" ++ Str.ofString ((a:Int)+1).repr++s!";" ++ Str.ofString ((b:Int)+1).repr++s!"g"):=by rw[show s!"~" ++ Str.ofString ((a:Int)+1).repr++s!";" ++ Str.ofString ((b:Int)+1).repr++s!"g" =_ from zhq a b];exact jO ∅ ∅ (ok2 (c:=103) ∅ ⋯ ⋯).2
   have t4:StT 100 (s!"~" ++ Str.ofString (b:Int).repr++s!"d"):=by rw[show s!"~" ++ Str.ofString (b:Int).repr++s!"d" =rowT 100 [natD b]from zkf b _ 100 f!""];exact jO ∅ ∅ (ok1 (c:=100) ∅ ⋯).2
   walk_at "go";refine zoR (ds:=[s!"~1;2;13;25c",s!"~2;3o",s!"~1f",s!"~3o",s!"~v",s!"~z",s!"ab~~c~d",s!"~t~U",s!"~3M~y"].map .str) rfl (show 9<=1000 by decide) ?_;walk_at "go"
   .refine s _ _ ⟨[s!"~1;2;13;25c",s!"~2;3o",s!"~1f",s!"~3o",s!"~v",s!"~z",s!"ab~~c~d",s!"~t~U",s!"~3M~y"]++[_,_,_,_,_],rfl,λx G=>?_,rfl,rfl⟩;rcases ls.1 G with q|q
    .exact zht x q
    .simp only[lu,lF,ma]at q;rcases q with rfl|rfl|rfl|rfl|rfl
     .exact t1
     .exact t2
     .exact hx.1
     .exact t3
     .exact t4
   all_goals first
    |(simp only[zv,c1,c2,c3,c4,c5,c6,c7,lI];lia)
    |exact⟨⋯,⋯⟩
    |exact hx.2
    |(show 9+3<=10000000;decide)
    |(show 12+2<=10000000;decide)
  rintro _ gQ _ _ ⟨p,xl,xk,rfl,rfl⟩;apply gQ;have Y:0<=m%14:=mw _ ∅;have m2:m%14<14:=m8 _ ∅;walk_at "go";generalize m%14 =q at Y m2 ⊢;obtain⟨q,rfl⟩:=lO Y;have V:q<p.length:=⋯
  have hx:=xk _ (ny V);have l1:=hz.l;have l2:=hx.l;have e1:=Uq (O:=O) (ds:=p.map .str);have e2:atI ((p.map PyData.str).map W.d) q=some (W.d (.str p[q])):=uK (by rw[lw,lw,lp V];rfl);refine zfl e1 e2 (zkd (zhc ?_ (by rw[lI];lia)));exact E _ _ ⟨rfl,_,_,_,_,_,_,by rw[Nat.mul_succ];exact hz.app hx,rfl⟩
 .rintro _ _ ⟨rfl,z,J,L,N,Q,D,hz,rfl⟩;walk_at "go";exact .inl (h z ⟨hz.r,hz.c,by have:=hz.l;lia,hz.t⟩)
end
def xK{c:Nat}{ns:List PyData}(h:c∈lsAll)(h':c≠113):rdS' (.row c ns) S=actS c (nmA ns 0) (nmA ns 1) ns S:=by
 show(if c= 113 then S else opt lsAll c (actS c (nmA ns 0) (nmA ns 1) ns) S)=_;rw[l7 h'];exact l9 h
def Jl{m:Nat}(h:n<m):uN (natD (n+1)) 0 ((m:Int)-1)=n:=by
 have e:oneD (natD (n+1))=(n:Int)+1:=by show(if((n+1:Nat):Int)>1 then((n+1:Nat):Int)else 1)=_;split<;>lia
 unfold uN;rw[e,l7 ⋯]
 lia
def VX{m:Nat}(h:1<=m):uN .none 0 ((m:Int)-1)= 0:=by
 unfold uN;show(if(m:Int)-1<0+1-1 then(m:Int)-1 else 0+1-1)= 0;rw[l7 ⋯];rfl
def zjl{r c:Nat}(b:S.home=false)(d:r<S.h)(a:c<S.w):rdS' (.row 103 [natD (r+1),natD (c+1)]) S= { S with row:=r,col:=c,late:=false }:=by
 rw[xK ∅ ∅];show plS (natD (r+1)) (natD (c+1)) S=_;unfold plS;rw[l7 (by rw[b];decide),Jl d,Jl a]
def zkg{r:Nat}(a:S.home=false)(b:r<S.h)(c:1<=S.w):rdS' (.row 103 [natD (r+1)]) S= { S with row:=r,col:=0,late:=false }:=by
 rw[xK ∅ ∅];show plS (natD (r+1)) .none S=_;unfold plS;rw[l7 (by rw[a];decide),Jl b,VX c]
def zlJ:∀n:_root_.Fin 512,((inkN n.val).tail).foldl dyeI 0 =(n.val:Int):=f!""
def zfF(h:n<512):rdS' (.row 99 (inkN n)) S= { S with ink:=n }:=by
 rw[xK ∅ ∅];show dyeS (inkN n) S=_;unfold dyeS;have e:(inkN n).foldl dyeI S.ink=((inkN n).tail).foldl dyeI 0:=rfl;rw[e,zlJ ⟨n,h⟩]
def zdI(S:ST):∃x y,plS .none .none S= { S with row:=x,col:=y,late:=false }:=by
 unfold plS;split
 .exact⟨_,_,rfl⟩
 .exact⟨_,_,rfl⟩
def zjm(f:1<=S.h)(g:1<=S.w):runS [.row 109 [.none],.row 77 [.none],.row 111 [natD 1],.row 102 [natD 2,natD 3],.row 99 [.none]] S= { S with top:=0,bottom:=S.h-1,left:=0,right:=S.w-1,wrap:=true,putting:=false,home:=false,ink:=0,row:=0,col:=0,late:=false }:=by
 show rdS' (.row 99 [.none]) (rdS' (.row 102 [natD 2,natD 3]) (rdS' (.row 111 [natD 1]) (rdS' (.row 77 [.none]) (rdS' (.row 109 [.none]) S))))=_;rw[xK (c:=109) ∅ ∅,xK (c:=77) ∅ ∅,xK (c:=111) ∅ ∅,xK (c:=102) ∅ ∅,xK (c:=99) ∅ ∅];show dyeS [.none] (modesS [natD 2,natD 3] false (modesS [natD 1] true (colsS .none .none (rowsS .none .none S))))=_;have a:rowsS .none .none S=plS .none .none { S with top:=0,bottom:=S.h-1 }:=by unfold rowsS;rw[l7 (by show ¬(S.h:Int)<1;lia)];rfl
 obtain⟨x,y,b⟩:=zdI { S with top:=0,bottom:=S.h-1 };rw[a,b];have d:colsS .none .none { S with top:=0,bottom:=S.h-1,row:=x,col:=y,late:=false } =plS .none .none { S with top:=0,bottom:=S.h-1,row:=x,col:=y,late:=false,left:=0,right:=S.w-1 }:=by unfold colsS;rw[l7 (by show ¬(S.w:Int)<1;lia)];rfl
 obtain⟨i,j,e⟩:=zdI { S with top:=0,bottom:=S.h-1,row:=x,col:=y,late:=false,left:=0,right:=S.w-1 };rw[d,e];show dyeS [.none] (plS .none .none { S with top:=0,bottom:=S.h-1,row:=i,col:=j,late:=false,left:=0,right:=S.w-1,wrap:=true,putting:=false,home:=false })=_;unfold plS;rw[l7 (by show ¬false=true;decide),VX f,VX g];rfl
def zdJ{k:Nat}(a:S.late=false)(b:S.putting=false):rdS' (.sign k) S=if S.col<eR S then{ S with pic:=setF S.pic S.row.toNat S.col.toNat (⟨#[k]⟩,S.ink),last:=.str ⟨#[k]⟩,col:=S.col+1 }else{ S with pic:=setF S.pic S.row.toNat S.col.toNat (⟨#[k]⟩,S.ink),last:=.str ⟨#[k]⟩,late:=S.wrap }:=by
 show putS0 ⟨#[k]⟩ S=_;unfold putS0;simp only[a,b,pX,false_and,pO];rfl
structure Rds (z:Str) (rs:List Rea):Prop where
 b:(rdF [] z.cps.toList).1 =[]
 r:rsF [] z.cps.toList=rs
def Rds.app{y:Str}{rs a:List Rea}(h:Rds y rs)(k:Rds z a):Rds (y++z) (rs++a):=by
 refine⟨?_,?_⟩
 .rw[zJ,Xr];show(rdF (rdF [] y.cps.toList).1 z.cps.toList).1 =[];rw[h.b];exact k.b
 .rw[zJ,Q0,h.r,h.b,k.r]
def Rds.of{r:Rea}(h:OkQ r):Rds (rdT r) [r]:=⟨by rw[zdo h],zdH h⟩
def Rds.row{c:Nat}{ns:List PyData}(h:OkQ (.row c ns)):Rds (rowT c ns) [.row c ns]:=Rds.of h
def Rds.nil(h:z.cps.toList=[]):Rds z []:=⟨by rw[h];rfl,by rw[h];rfl⟩
def zdK:∀{cs:List Nat},(∀c∈cs,32<=c/\c<=126)->Rds ⟨(uq cs).toArray⟩ (cs.map .sign)
  |[],_=>Rds.nil rfl
  |c::cs,h=>by
    have b:=h c lh;have a:=zdK (cs:=cs) λx hx=>h x (lg _ hx);have e:(⟨(uq (c :: cs)).toArray⟩:Str)=rdT (.sign c) ++ ⟨(uq cs).toArray⟩:=uP (by
      rw[zJ];show(if c= 126 then[126,126]else[c])++uq cs=(if c= 126 then s!"~~" else⟨#[c]⟩).cps.toList++uq cs;split
      · rw[show s!"~~".cps.toList=[126,126]by decide +kernel]
      · rfl)
    rw[e];exact Rds.app (Rds.of (r:=.sign c) ⟨⋯,⋯⟩) a
def zdL{t:Str}(h:∀c∈t.cps.toList,32<=c/\c<=126):Rds (Txt.replace t s!"~" s!"~~") (t.cps.toList.map .sign):=by
 have e:Txt.replace t s!"~" s!"~~"=⟨(uq t.cps.toList).toArray⟩:=uP (by rw[ko]);rw[e];exact zdK h
abbrev ddR:Dd->List Rea
 |.cut r m=>[.row 103 [natD (r+1)],.row 107 [natD m]]
 |.put r m=>[.row 103 [natD (r+1)],.row 105 [natD m]]
 |.wr r c t ik=>[.row 103 [natD (r+1),natD (c+1)],.row 99 (inkN ik.toNat)]++t.cps.toList.map .sign
def zn1{d:Dd}(h:okT d)(h':okDd 24 12 d):Rds (ddT d) (ddR d):=by
 cases d with
 |cut r m=>exact Rds.app (Rds.row (ok1 ∅ (by have:=h.1;lia))) (Rds.row (ok1 ∅ (by have:=h.2;lia)))
 |put r m=>exact Rds.app (Rds.row (ok1 ∅ (by have:=h.1;lia))) (Rds.row (ok1 ∅ (by have:=h.2;lia)))
 |wr r c t ik=>obtain⟨a,b,e,_⟩:=h;exact Rds.app (Rds.app (Rds.row (ok2 ∅ ⋯ ⋯)) (Rds.row ⟨∅,yu _⟩)) (zdL h'.2.2)
abbrev Jm:List Rea:=[.row 109 [.none],.row 77 [.none],.row 111 [natD 1],.row 102 [natD 2,natD 3],.row 99 [.none]]
def zlK:Rds begT Jm:=by
 have e:begT=rowT 109 [.none]++rowT 77 [.none]++rowT 111 [natD 1]++rowT 102 [natD 2,natD 3]++rowT 99 [.none]:=f!""
 have a:∀c,isLet c->OkQ (.row c [.none]):=λc b=>⟨b,λm d=>by cases lf.1 d;exact trivial,by show 1<=6;decide,ll _⟩;rw[e];exact(((Rds.row (a 109 ∅)).app (Rds.row (a 77 ∅))).app (Rds.row (ok1 ∅ ∅))).app (Rds.row (ok2 ∅ ∅ ∅)) |>.app (Rds.row (a 99 ∅))
def zcg:∀{ds:List Dd},(∀d∈ds,okT d/\okDd 24 12 d)->Rds (Txt.join s!"" (ds.map ddT)) (ds.flatMap ddR)
 |[],_=>Rds.nil (by rw[Xy];rfl)
 |d::ds,h=>by have a:=zcg (ds:=ds) λx hx=>h x (lg _ hx);have e:Txt.join s!"" ((d::ds).map ddT)=ddT d++Txt.join s!"" (ds.map ddT):=uP (by rw[zJ,Xy,Xy];rfl);rw[e,o9];have q:=h d lh;exact(zn1 q.1 q.2).app a
def zlL{ds:List Dd}{r c ik:Nat}(h:∀d∈ds,okT d/\okDd 24 12 d)(b:r<=30)(a:c<=30):Rds (wayT ds r c ik) (Jm++ds.flatMap ddR++[.row 103 [natD (r+1),natD (c+1)]]++[.row 99 (inkN ik)]):=
 ((zlK.app (zcg h)).app (Rds.row (ok2 ∅ ⋯ ⋯))).app (Rds.row ⟨∅,yu ik⟩)
abbrev picL(S:ST):Pic6:=(List.range S.h).map λi=>(List.range S.w).map λj=>S.pic i j
def xw:(picL S).length=S.h:=by unfold picL;rw[l8,mL]
def vQ(h:i<S.h):(picL S)[i]? =some ((List.range S.w).map λj=>S.pic i j):=by
 unfold picL;rw[lw,mO h];rfl
def Xz{X:Pic6}(a:X.length=S.h)(h:∀i,i<S.h->X[i]? =some ((List.range S.w).map λj=>S.pic i j)):X=picL S:=by
 apply o7;intro i;by_cases hi:i<S.h
 .rw[h i hi,vQ hi]
 .rw[mh ⋯,mh (by rw[xw];lia)]
def vf{f g:Nat->Cel}(h:∀j,j<n->f j=g j):(List.range n).map f=(List.range n).map g:=nw λj a=>h j (pM.1 a)
def JZ:yE n=(List.range n).map λ_=>blank 0:=by
 unfold yE;rw[List.map_const',mL];rfl
def zfG{α:Type}{A B D:List α}:(A++B++D)[i]? =if i<A.length then A[i]? else if i<A.length+B.length then B[i-A.length]? else D[i-(A.length+B.length)]?:=by
 rw[List.getElem?_append,lx];by_cases h1:i<A.length
 .rw[l9 ⋯,l9 h1,mz h1]
 .rw[l7 h1];by_cases h2:i<A.length+B.length
  .rw[l9 h2,l9 h2,mJ ⋯]
  .rw[l7 h2,l7 h2]
structure Pl (S:ST):Prop where
 hm:S.home=false
 pt:S.putting=false
 wr:S.wrap=true
 t:S.top= 0
 b:S.bottom=S.h-1
 l:S.left= 0
 r:S.right=S.w-1
def zdM{f:PF}{h w j r:Nat}{s:Int}(a:i<h)(b:j<w):mvP f 0 r ((h:Int)-1) 0 ((w:Int)-1) s 0 i j=if i<r then f i j else if(r:Int)<=i+s/\i+s<h then f (i+s).toNat j else blank 0:=by
 unfold mvP atF;by_cases h1:i<r
 .rw[l7 ⋯,l9 h1]
 .rw[l9 ⋯,l7 h1];by_cases h2:(r:Int)<=i+s/\i+s<h
  .rw[l9 ⋯,l9 h2];congr 1
  .rw[l7 ⋯,l7 h2]
def zdN{m:Nat}(h:1<=m):oneD (natD m)=m:=by
 show(if((m:Nat):Int)>1 then((m:Nat):Int)else 1)=_;split<;>lia
def zn2{f:PF}{h w j r m:Nat}(a:i<h)(b:j<w):mvP f 0 r ((h:Int)-1) 0 ((w:Int)-1) m 0 i j=if i<r then f i j else if i+m<h then f (i+m) j else blank 0:=by
 rw[zdM a b];by_cases c:i<r
 .rw[l9 c,l9 c]
 .rw[l7 c,l7 c];by_cases d:i+m<h
  .rw[l9 d,l9 ⟨f!"i",f!"i"⟩,show((i:Int)+(m:Int)).toNat=i+m from nq (i+m)]
  .rw[l7 d,l7 f!"i"]
def zn3{f:PF}{h w j r m:Nat}(a:i<h)(b:j<w):mvP f 0 r ((h:Int)-1) 0 ((w:Int)-1) (-m) 0 i j=if i<r then f i j else if r+m<=i then f (i-m) j else blank 0:=by
 rw[zdM a b];by_cases c:i<r
 .rw[l9 c,l9 c]
 .rw[l7 c,l7 c];by_cases d:r+m<=i
  .rw[l9 d,l9 ⟨⋯,⋯⟩,show((i:Int)+ -(m:Int)).toNat=i-m by lia]
  .rw[l7 d,l7 ⋯]
def zlM{r m:Nat}(h:Pl S)(f:S.ink= 0)(k:1<=m)(o:r+m<=S.h)(n:1<=S.w):∃T,runS (ddR (.cut r m)) S=T/\Pl T/\T.ink= 0/\T.w=S.w/\T.h=S.h/\T.stops=S.stops/\T.kept=S.kept/\picL T=cutP S.w (picL S) r m:=by
 refine⟨_,rfl,?_⟩;have e:runS (ddR (.cut r m)) S= { S with row:=r,col:=0,late:=false,pic:=mvP S.pic 0 r ((S.h:Int)-1) 0 ((S.w:Int)-1) m 0 }:=by have g:=zdN k;show rdS' (.row 107 [natD m]) (rdS' (.row 103 [natD (r+1)]) S)=_;rw[zkg h.hm ⋯ n,xK (c:=107) ∅ ∅];show lineS (oneD (natD m)) { S with row:=r,col:=0,late:=false } =_;unfold lineS;rw[l9 (by show S.top<=(r:Int)/\(r:Int)<=S.bottom;rw[h.t,h.b];lia),g];show{ S with row:=(r:Int),col:=0,late:=false,pic:=mvP S.pic S.ink r S.bottom S.left S.right m 0 } =_;rw[f,h.b,h.l,h.r]
 rw[e];refine⟨⟨h.hm,h.pt,h.wr,h.t,h.b,h.l,h.r⟩,f,rfl,rfl,rfl,rfl,Eq.symm (Xz ?_ λi a=>?_)⟩
 .unfold cutP;simp only[lx,lX,m9,mf,xw]
  lia
 .have a:i<S.h:=a;unfold cutP;rw[vf λj d=>zn2 a d,zfG,lX,m9,xw];by_cases c1:i<r
  .rw[l9 ⋯,mP c1,vQ a,vf λj d=>(l9 c1).symm]
  .rw[l7 ⋯];by_cases c2:i+m<S.h
   .rw[l9 ⋯,nY,show r+m+(i-min r S.h)=i+m by lia,vQ c2];congr 1;exact vf λj d=>by rw[l7 c1,l9 c2]
   .rw[l7 ⋯,nU,l9 ⋯,JZ];congr 1;exact vf λj d=>by rw[l7 c1,l7 c2]
def zlN{r m:Nat}(h:Pl S)(f:S.ink= 0)(k:1<=m)(o:r+m<=S.h)(n:1<=S.w):∃T,runS (ddR (.put r m)) S=T/\Pl T/\T.ink= 0/\T.w=S.w/\T.h=S.h/\T.stops=S.stops/\T.kept=S.kept/\picL T=putP S.w (picL S) r m:=by
 refine⟨_,rfl,?_⟩;have e:runS (ddR (.put r m)) S= { S with row:=r,col:=0,late:=false,pic:=mvP S.pic 0 r ((S.h:Int)-1) 0 ((S.w:Int)-1) (-m) 0 }:=by have g:=zdN k;show rdS' (.row 105 [natD m]) (rdS' (.row 103 [natD (r+1)]) S)=_;rw[zkg h.hm ⋯ n,xK (c:=105) ∅ ∅];show lineS (-(oneD (natD m))) { S with row:=r,col:=0,late:=false } =_;unfold lineS;rw[l9 (by show S.top<=(r:Int)/\(r:Int)<=S.bottom;rw[h.t,h.b];lia),g];show{ S with row:=(r:Int),col:=0,late:=false,pic:=mvP S.pic S.ink r S.bottom S.left S.right (-m) 0 } =_;rw[f,h.b,h.l,h.r]
 rw[e];refine⟨⟨h.hm,h.pt,h.wr,h.t,h.b,h.l,h.r⟩,f,rfl,rfl,rfl,rfl,Eq.symm (Xz ?_ λi a=>?_)⟩
 .unfold putP;simp only[lx,lX,m9,mf,xw]
  lia
 .have a:i<S.h:=a;unfold putP;rw[vf λj d=>zn3 a d,xw,mP a,zfG,lX,mf,xw];by_cases c1:i<r
  .rw[l9 ⋯,mP c1,vQ a,vf λj d=>(l9 c1).symm]
  .rw[l7 ⋯];by_cases c2:i<r+m
   .rw[l9 ⋯,nU,l9 ⋯,JZ];congr 1;exact vf λj d=>by rw[l7 c1,l7 ⋯]
   .rw[l7 ⋯,nY,show r+(i-(min r S.h+m))=i-m by lia,vQ ⋯];congr 1;exact vf λj d=>by rw[l7 c1,l9 ⋯]
abbrev wrF(f:PF)(r c:Nat)(ks:List Nat)(ink:Int):PF:=λi j=>if i=r/\c<=j/\j<c+ks.length then(⟨#[ks.getD (j-c) 0]⟩,ink)else f i j
def zdO{f:PF}{r c:Nat}{ink:Int}:wrF f r c [] ink=f:=by
 funext i j;unfold wrF;exact l7 (by simp only[nE];lia)
def zjn{f:PF}{r c k:Nat}{ks:List Nat}{ink:Int}:wrF f r c (k::ks) ink=wrF (setF f r c (⟨#[k]⟩,ink)) r (c+1) ks ink:=by
 funext i j;unfold wrF setF;rw[lQ];by_cases h1:i=r/\c+1<=j/\j<c+1+ks.length
 .rw[l9 h1,l9 ⋯];obtain⟨d,a⟩:∃d,j-c=d+1:=⟨j-c-1,⋯⟩;rw[a,show j-(c+1)=d by lia];rfl
 .rw[l7 h1];by_cases h2:i=r/\j=c
  .rw[l9 h2,l9 ⋯,show j-c= 0 by lia];rfl
  .rw[l7 h2,l7 ⋯]
def J1:∀{ks:List Nat}{S:ST}{r c:Nat},S.putting=false->S.right=S.w-1->S.late=false->S.row=r->S.col=c->c+ks.length<=S.w->∃z x l,runS (ks.map .sign) S= { S with pic:=wrF S.pic r c ks S.ink,last:=z,col:=x,late:=l }
 |[],S,r,c,_,_,hl,_,_,_=>⟨S.last,S.col,S.late,by rw[zdO];rfl⟩
 |k::ks,S,r,c,hp,hr,hl,h1,h2,h3=>by
  rw[lQ]at h3;have a:eR S=(S.w:Int)-1:=by
   unfold eR;split
   .exact hr
   .rfl
  have st:runS ((k::ks).map .sign) S=runS (ks.map .sign) (rdS' (.sign k) S):=rfl;have d:S.row.toNat=r:=by rw[h1];rfl
  have b:S.col.toNat=c:=by rw[h2];rfl
  rw[st,zdJ hl hp,a,d,b,zjn];by_cases hc:S.col<(S.w:Int)-1
  .rw[l9 hc];obtain⟨z,x,l,e⟩:=J1 (ks:=ks) (S:={ S with pic:=setF S.pic r c (⟨#[k]⟩,S.ink),last:=.str ⟨#[k]⟩,col:=S.col+1 }) (r:=r) (c:=c+1) hp hr hl h1 (by show S.col+1 =((c+1:Nat):Int);lia) (by show c+1+ks.length<=S.w;lia);exact⟨z,x,l,e⟩
  .rw[l7 hc];have f:ks=[]:=mG.1 ⋯;subst f;exact⟨.str ⟨#[k]⟩,S.col,S.wrap,by rw[zdO];rfl⟩
def zn4{f:PF}{w r c:Nat}{t:Str}{ink:Int}(b:c+t.length<=w):wrR ((List.range w).map λj=>f r j) c t ink=(List.range w).map λj=>wrF f r c t.cps.toList ink r j:=by
 have d:t.cps.toList.length=t.length:=rfl;have g:∀(h:Nat->Cel) (j:Nat),j<w->((List.range w).map h)[j]? =some (h j):=λh j a=>by rw[lw,mO a];rfl
 apply o7;intro j;unfold wrR;rw[l8,mL];by_cases a:j<w
 .rw[mP a,zfG,lX,l8,l8,mL,g _ j a];by_cases c1:j<c
  .rw[l9 ⋯,mP c1,g _ j a,wrF,l7 ⋯]
  .rw[l7 ⋯];by_cases c2:j<c+t.length
   .have q:j-c<t.cps.toList.length:=⋯
    rw[l9 ⋯,show j-min c w=j-c by lia,lw,lp q,wrF,l9 ⋯,lZ,lp q];rfl
   .rw[l7 ⋯,nY,show c+t.length+(j-(min c w+t.cps.toList.length))=j by lia,g _ j a,wrF,l7 ⋯]
 .rw[mh (by rw[lX];lia),mh (by rw[l8,mL];lia)]
def zn5{r c:Nat}{t:Str}(h:Pl S)(d:r<S.h)(g:c+t.length<=S.w)(o:1<=t.length)(k:n<512):∃T,runS (ddR (.wr r c t (n:Int))) S=T/\Pl T/\T.w=S.w/\T.h=S.h/\T.stops=S.stops/\T.kept=S.kept/\picL T=(picL S).set r (wrR ((picL S).getD r []) c t n):=by
 refine⟨_,rfl,?_⟩;have p:t.cps.toList.length=t.length:=rfl;have e:∃z x l,runS (ddR (.wr r c t (n:Int))) S= { S with row:=r,col:=x,late:=l,ink:=n,last:=z,pic:=wrF S.pic r c t.cps.toList n }:=by obtain⟨z,x,l,e⟩:=J1 (ks:=t.cps.toList) (S:={ S with row:=r,col:=c,late:=false,ink:=n }) (r:=r) (c:=c) h.pt h.r rfl rfl rfl (by show c+t.cps.toList.length<=S.w;lia);refine⟨z,x,l,?_⟩;show runS (t.cps.toList.map .sign) (rdS' (.row 99 (inkN (n:Int).toNat)) (rdS' (.row 103 [natD (r+1),natD (c+1)]) S))=_;rw[zjl h.hm d ⋯,nq,zfF k];exact e
 obtain⟨z,x,l,e⟩:=e;rw[e];refine⟨⟨h.hm,h.pt,h.wr,h.t,h.b,h.l,h.r⟩,rfl,rfl,rfl,rfl,Eq.symm (Xz (by rw[oy,xw]) λi a=>?_)⟩;have a:i<S.h:=a;rw[List.getElem?_set,xw];by_cases c1:r=i
 .subst c1;rw[l9 rfl,l9 d];congr 1;have f:(picL S).getD r []=(List.range S.w).map λj=>S.pic r j:=by rw[lZ,vQ d];rfl
  rw[f];show wrR ((List.range S.w).map λj=>S.pic r j) c t n=(List.range S.w).map λj=>wrF S.pic r c t.cps.toList n r j;exact zn4 g
 .rw[l7 c1,vQ a];congr 1;exact vf λj m=>(l7 ⋯).symm
def zhu{d:Dd}(h:Pl S)(o:1<=S.w)(a:okDd S.w S.h d)(ho:(S.ink= 0/\nwD d)\/ywD d) :
  Pl (runS (ddR d) S)/\(runS (ddR d) S).w=S.w/\(runS (ddR d) S).h=S.h/\(runS (ddR d) S).stops=S.stops/\(runS (ddR d) S).kept=S.kept/\picL (runS (ddR d) S)=doD S.w (picL S) d/\(nwD d->(runS (ddR d) S).ink= 0):=by
 cases d with
 |cut r m=>
  rcases ho with⟨hi,_⟩|ho
  .obtain⟨T,e,b,l,f,g,i,j,k⟩:=zlM h hi a.1 a.2 o;rw[e];exact⟨b,f,g,i,j,k,λ_=>l⟩
  .exact ho.elim
 |put r m=>
  rcases ho with⟨hi,_⟩|ho
  .obtain⟨T,e,b,l,f,g,i,j,k⟩:=zlN h hi a.1 a.2 o;rw[e];exact⟨b,f,g,i,j,k,λ_=>l⟩
  .exact ho.elim
 |wr r c t ik=>
  rcases ho with⟨_,ho⟩|⟨h0,h1,h2⟩
  .exact ho.elim
  .obtain⟨n,rfl⟩:=lO h0;obtain⟨T,e,b,f,g,i,j,k⟩:=zn5 (n:=n) h a.1 a.2.1 h2 ⋯;rw[e];exact⟨b,f,g,i,j,k,λz=>z.elim⟩
structure Kpt (S T:ST):Prop where
 w:T.w=S.w
 h:T.h=S.h
 s:T.stops=S.stops
 k:T.kept=S.kept
def zch:∀{ds:List Dd}{S:ST},Pl S->1<=S.w->S.ink= 0->(∀d∈ds,okDd S.w S.h d/\nwD d)->Pl (runS (ds.flatMap ddR) S)/\Kpt S (runS (ds.flatMap ddR) S)/\(runS (ds.flatMap ddR) S).ink= 0/\picL (runS (ds.flatMap ddR) S)=doW S.w (picL S) ds
 |[],S,h,_,hi,_=>⟨h,⟨rfl,rfl,rfl,rfl⟩,hi,rfl⟩
 |d::ds,S,h,hw,hi,hd=>by
  have q:=hd d lh;obtain⟨e,a,c,f,g,i,j⟩:=zhu h hw q.1 (.inl ⟨hi,q.2⟩);have o:=zch (ds:=ds) e (by rw[a];exact hw) (j q.2) λx hx=>by rw[a,c];exact hd x (lg _ hx)
  rw[o9,vL];obtain⟨l,b,m,n⟩:=o;refine⟨l,⟨b.w.trans a,b.h.trans c,b.s.trans f,b.k.trans g⟩,m,?_⟩;rw[n,a,i];rfl
def zdP:∀{ds:List Dd}{S:ST},Pl S->1<=S.w->(∀d∈ds,okDd S.w S.h d/\ywD d)->Pl (runS (ds.flatMap ddR) S)/\Kpt S (runS (ds.flatMap ddR) S)/\picL (runS (ds.flatMap ddR) S)=doW S.w (picL S) ds
 |[],S,h,_,_=>⟨h,⟨rfl,rfl,rfl,rfl⟩,rfl⟩
 |d::ds,S,h,hw,hd=>by
  have q:=hd d lh;obtain⟨e,a,c,f,g,i,n⟩:=zhu h hw q.1 (.inr q.2);have m:=zdP (ds:=ds) e (by rw[a];exact hw) λx hx=>by rw[a,c];exact hd x (lg _ hx)
  rw[o9,vL];obtain⟨j,b,l⟩:=m;refine⟨j,⟨b.w.trans a,b.h.trans c,b.s.trans f,b.k.trans g⟩,?_⟩;rw[l,a,i];rfl
abbrev zci(ds:List Dd)(r c ik:Nat):List Rea:=Jm++ds.flatMap ddR++[.row 103 [natD (r+1),natD (c+1)]]++[.row 99 (inkN ik)]
def zlO{ds es:List Dd}{r c ik:Nat}(i:1<=S.w)(x:1<=S.h)(u:∀d∈ds,okDd S.w S.h d/\nwD d)(v:∀d∈es,okDd S.w S.h d/\ywD d)(C:r<S.h)(B:c<S.w)(y:ik<512) :
  ∃T,runS (zci (ds++es) r c ik) S=T/\Pl T/\Kpt S T/\T.row=r/\T.col=c/\T.late=false/\T.ink=ik/\picL T=doW S.w (picL S) (ds++es):=by
 refine⟨_,rfl,?_⟩;unfold zci;rw[vL,vL,vL,show runS Jm S=_ from zjm x i,List.flatMap_append,vL];have z:Pl { S with top:=0,bottom:=S.h-1,left:=0,right:=S.w-1,wrap:=true,putting:=false,home:=false,ink:=0,row:=0,col:=0,late:=false }:=⟨rfl,rfl,rfl,rfl,rfl,rfl,rfl⟩;obtain⟨j,e,p,m⟩:=zch (ds:=ds) z i rfl u;generalize runS (ds.flatMap ddR) { S with top:=0,bottom:=S.h-1,left:=0,right:=S.w-1,wrap:=true,putting:=false,home:=false,ink:=0,row:=0,col:=0,late:=false } =S1 at j e p m;have g:S1.w=S.w:=e.w;have o:S1.h=S.h:=e.h;obtain⟨a,f,n⟩:=zdP (ds:=es) j (by rw[g];exact i) (by rw[g,o];exact v);generalize runS (es.flatMap ddR) S1=S2 at a f n;have A:S2.w=S.w:=f.w.trans g;have q:S2.h=S.h:=f.h.trans o;show Pl (rdS' (.row 99 (inkN ik)) (rdS' (.row 103 [natD (r+1),natD (c+1)]) S2))/\_;rw[show runS [Rea.row 99 (inkN ik)] (runS [Rea.row 103 [natD (r+1),natD (c+1)]] S2)=rdS' (.row 99 (inkN ik)) (rdS' (.row 103 [natD (r+1),natD (c+1)]) S2)from rfl,zjl a.hm ⋯ ⋯,zfF y];refine⟨⟨a.hm,a.pt,a.wr,a.t,a.b,a.l,a.r⟩,⟨A,q,f.s.trans e.s,f.k.trans e.k⟩,rfl,rfl,rfl,rfl,?_⟩;show picL S2=_;rw[n,g,m];show doW S.w (doW S.w (picL S) ds) es=doW S.w (picL S) (ds++es);unfold doW;rw[mT]
def VY:∀{rs:List Rea}{S:ST},(∀r∈rs,LtR r)->runA rs S=[]
 |[],_,_=>rfl
 |r::rs,S,h=>by have e:rdA r S=[]:=zdF (h r lh);show rdA r S++runA rs (rdS' r S)=[];rw[e,VY λx hx=>h x (lg _ hx)];rfl
def zpi(d:Dd):∀r∈ddR d,LtR r:=λr c=>by
  cases d with
  |wr a b t ik=>
    exact zce (l:=[_,_]) (fun r c=>by
      simp only[lu,lF,ma]at c;rcases c with rfl|rfl<;>rfl) zcf r c
  |_=>simp only[ddR,lu,lF,ma]at c;rcases c with rfl|rfl<;>rfl
def zhv{ds:List Dd}{r c ik:Nat}:∀x∈zci ds r c ik,LtR x:=λx hx=>by
 unfold zci Jm at hx;simp only[ls,lu,lF,ma]at hx;rcases hx with((hx|hx)|rfl)|rfl
 .rcases hx with rfl|rfl|rfl|rfl|rfl<;>rfl
 .obtain⟨d,_,a⟩:=List.mem_flatMap.1 hx;exact zpi d x a
 .rfl
 .rfl
section
variable {base:Heap}
seal PE PS PSs PT PA in
def Jn(F:Fun K "_law_picture" "_law_picture" (top 113) f fd)(T:Txt P w K mg C bw)(w4:T.c base 2 "_law_mixed" sMix6)(W:T.c base 2 "_law_row" sRow30):F.k T base 3 uA sPic30:=by
 have v:=uA.nd;apply F.okG uA f!"l" (λu=>(zc (zo 4 v (yg qn)) (zc (yD m6 rfl (yl rfl T.n_range (QA.pa (qc (pv 3) qn))) (zy (i:=5) v rfl (Or.inl rfl)) (zc (zo 6 v (zg w4 u (qc (pv 0) (qc (zf zw (pv 1) (zf zA (pv 5) zb)) qn)))) (zc (zo 6 v (zf zw (zf zB (pv 6) (zf zw zb (zf zB (pv 5) zb))) (zf vT zb (pv 5)))) (zc (zo 7 v (zg W u (qc (zf zB (pv 6) zb) (qc (pv 2) qn)))) (zc (zn (zl zx (zf zA (pv 6) zb) zb) (za (zo 7 v (zf (zk3 (K:=K) rfl) (yB (qc (zC (qc zh (qc zb qn))) qn)) (pv 2)))) zr) (zc (zn (PW.pt (V0 (zl zx (zf zA (pv 6) zb) zb) (Y6 (zl (vx (K:=K) rfl u.units) (pv 4) (yB qn))))) (za (zo 7 v (zE (Ue (K:=K) rfl) (by rfl) T.n_list rfl (QA.pa (qc (zp (xx (K:=K) rfl) (pv 4) (zf zA (zf zB (pv 6) zb) (zH (xI (K:=K) rfl) (by rfl) T.n_len (by rfl) (QA.pa (qc (pv 4) qn))))) qn))))) zr) (za (zm (yz (K:=K) rfl m5 mo mr xF (pv 4) (QA.pa (qc (pv 7) qn))))))))))) (za (zj (pv 4))))))
 .walk_at "rf7"
 rintro _ gQ _ O R ⟨ns,first,y,G,rfl,hf,w0,w1,h0,h1,h⟩;apply gQ;walk_at "wd7";intro p H;refine⟨⋯,?_⟩;refine zS.rngG (f:=λi=>(i:Int)) (λi ρ O'=>Old O O'/\∃J L M,∃pc:Pic6,ρ=[some (.d (.list (ns.map .int))),some (.d (.int first)),some (.d (.int y)),some (.d (.int G)),some (.own p),J,L,M]/\O' p=some (.lst ((pc.map rowC).map .d))/\pc.length=i/\∀r∈pc,r.length=y/\okRi r) ⟨Old.refl.upd H,_,_,_,[],rfl,zd,rfl,λr u=>(nomatch u)⟩ ?_ ?_
 .rintro i _ gQ _ A hi ⟨t,J,L,M,pc,rfl,a,o,b⟩;refine gQ _ _ λR2 E=>?_;have Y:∀j w,j p=A p->jh j (.own p) w=some (updO j p (.lst ((pc.map rowC).map .d++[w]))):=λj w e=>by
   simp only[jh,e,a];rw[l9 (by rw[l8,l8];lia)]
  refine jm (λN O'=>Ex2 λ(n:Int) (r:Rw6)=>An6 (0<=n) (n<3000000000) (N=[some (.d (.list (ns.map .int))),some (.d (.int first)),some (.d (.int y)),some (.d (.int G)),some (.own p),some (.d (.int i)),some (.d (.int n)),some (.d (rowC r))]) (r.length=y) (okRi r) (Old A O')) (λR1 D=>?_) ?_
  .walk_at "wd7";have i6:(0:Int)<=(i:Int) / 6/\(i:Int) / 6<=1:=⋯
   refine⟨ns,first+i%6,rfl,⋯,λn I n1=>⟨⟨⋯,⋯⟩,⟨⋯,⋯⟩,mulL ∅ ∅,⟨⋯,⋯⟩,?_⟩⟩;have q0:0<=n / (1+(i:Int) / 6):=Int.ediv_nonneg I ⋯;have q1:n / (1+(i:Int) / 6)<=n:=Int.ediv_le_self _ I;generalize n / (1+(i:Int) / 6)=m at *;exact⟨_,_,rfl,⋯,⋯,⋯,⋯,λr O' hl hk ho=>D _ _ ⟨_,r,⋯,⋯,rfl,⋯,hk,ho⟩⟩
  rintro _ gQ _ j ⟨n,r,I,n1,rfl,V,U,z⟩;apply gQ;have g:j p=A p:=z p (by rw[a];simp);walk_at "wd7";have l:∀s:Rw6,s.length=y->okRi s->∃x,jh j (.own p) (.d (rowC s))=some x/\R2 [some (.d (.list (ns.map .int))),some (.d (.int first)),some (.d (.int y)),some (.d (.int G)),some (.own p),some (.d (.int i)),some (.d (.int n)),some (.d (rowC s))] x:=λs sl sk=>
   ⟨_,Y j _ g,E _ _ ⟨(t.trans z).upd H,_,_,_,pc ++ [s],rfl,by rw [zd,lS,lS];rfl,by simp [o],fun x hx=>by
    rcases ls.mp hx with hx|hx
    .exact b x hx
    .cases lf.mp hx;exact⟨sl,sk⟩⟩⟩
  have B:tyW "list" j (.own p):=.inl ⟨rfl,by simp[seqL,g,a]⟩;have X:vC j (.own p)=some (rowsC pc):=by simp only[vC,g,a,UD,nA];rfl
  have sp:SeqAt.shaped (rowsC pc)=true:=zpe λr u c Z=>((b r u).2 c Z).1;split
  .refine⟨_,rfl,⋯,by simp;lia,?_⟩;rw[l7 ⋯,zfn];exact⟨B,l _ (by simp[yE]) (zfA _)⟩
  .split
   .refine⟨_,X,_,rfl,sp,by rfl,?_⟩;rw[zi9];split
    .exact⟨B,l _ V U⟩
    .rename_i q;have q:pc≠[]:=λe=>q (by rw[e];rfl);have Q:0<pc.length:=List.length_pos_iff.2 q;obtain⟨s,S,e⟩:=znT (pc:=pc) (k:=n / 8%(pc.length:Int)) (mw _ ⋯) (m8 _ ⋯);refine⟨⟨⋯,⋯⟩,pc.length,by simp[lenW,zU,seqL,g,a],⋯,_,by simp only[seqL,g,a],_,e,s.map celD,by simp only[seqD,zU,seqL,rowC,nS,zV],B,l s (b s S).1 (b s S).2⟩
   .exact⟨B,l _ V U⟩
 .rintro _ A ⟨t,J,L,M,pc,rfl,a,o,b⟩;walk_at "wd7";exact .inr ⟨_,_,rfl,a,h pc _ o b (t.del H)⟩
end
def zqw:¬decide (V.str s!"put"=V.str s!"cut")=true:=f!""
def zqx:¬decide (V.str s!"write"=V.str s!"cut")=true:=f!""
def zqy:¬decide (V.str s!"write"=V.str s!"put")=true:=f!""
def zjo{α:Type}{l:List α}{x:α}(h:l[i]? =some x):l.set i x=l:=by
 obtain⟨a,rfl⟩:=lv.1 h;exact List.set_getElem_self a
inductive sDeed8 (ws:List W) (O:OM) (R:WK):Prop
 |mk:∀x,∀p:Pic6,∀w h:Nat,∀d:Dd,ws=[x,.d (ddD d)]->PicS O x p->OkP w h p->w<=24->1<=h->h<=12->okDd w h d->(∀q a O',OwnP O' q a (doD w p d)->Old O O'->O q=none->(∀b∈a,O b=none)->R (.own q) O')->sDeed8 ws O R
section
variable {base:Heap}
seal PE PS PSs PT PA in
def zcM(F:Fun K "_law_deed" "_law_deed" (top 118) f fd)(T:Txt P w K mg C bw)(xo:T.c base 1 "_law_copied" sCop7)(cq:T.c base 1 "_law_cut" sCut7)(cr:T.c base 1 "_law_put" sPut7):F.k T base 2 jL sDeed8:=by
 have X:=jL.nd;apply F.okG jL f!"l" (λG=>(zc (zo 2 X (zg xo G (qc (pv 0) qn))) (zc (zn (zl zx (zp (zt (K:=K) rfl) (pv 1) zb) zh) (za (zj (zg cq G (qc (pv 2) (qc (zp (zt (K:=K) rfl) (pv 1) zb) (qc (zp (zt (K:=K) rfl) (pv 1) zb) qn)))))) zr) (zc (zn (zl zx (zp (zt (K:=K) rfl) (pv 1) zb) zh) (za (zj (zg cr G (qc (pv 2) (qc (zp (zt (K:=K) rfl) (pv 1) zb) (qc (zp (zt (K:=K) rfl) (pv 1) zb) qn)))))) zr) (zc (yD m6 rfl (zir rfl T.n_enumerate (QA.pa (qc (zp (zt (K:=K) rfl) (pv 1) zb) qn))) (QI (K:=K) (n:=2) rfl rfl (uG (zy (i:=3) X rfl (Or.inl rfl)) (uG (zy (i:=4) X rfl (Or.inl rfl)) Qf))) (za (V4 (zC (qc (pv 4) (qc (zp (zt (K:=K) rfl) (pv 1) zb) qn))) (V3 (zp (xx (K:=K) rfl) (pv 2) (zp (zt (K:=K) rfl) (pv 1) zb)) (zf zw (zp (zt (K:=K) rfl) (pv 1) zb) (pv 3)) Zs)))) (za (zj (pv 2))))))))
 .walk_at "rf7"
 rintro _ gQ _ O R ⟨x,p,wd,hg,d,rfl,hp,B,w1,h0,s,l,h⟩;apply gQ;walk_at "wd7";refine⟨x,p,rfl,hp,by have:=B.len;lia,λr G=>by have:=(B.row r G).1;lia,λq I O1 J y U _ V g=>?_⟩;cases d with
 |cut r m=>refine⟨_,rfl,_,rfl,rfl,rfl,?_⟩;refine(n8 (l9 (lM (by rfl)))).mpr ?_;exact⟨_,rfl,_,rfl,_,rfl,_,rfl,q,I,_,wd,hg,r,m,rfl,J,B,w1,s,l.1,l.2,λq2 cs O3 a A v u=>.inl (h _ _ _ a (y.trans A) (y.nn v) (λc Q=>(u c Q).elim (g c) y.nn))⟩
 |put r m=>refine⟨_,rfl,_,rfl,rfl,rfl,?_⟩;refine(n8 (l7 zqw)).mpr ?_;refine⟨_,rfl,_,rfl,rfl,rfl,?_⟩;refine(n8 (l9 (lM (by rfl)))).mpr ?_;exact⟨_,rfl,_,rfl,_,rfl,_,rfl,q,I,_,wd,hg,r,m,rfl,J,B,w1,s,l.1,l.2,λq2 cs O3 a A v u=>.inl (h _ _ _ a (y.trans A) (y.nn v) (λc Q=>(u c Q).elim (g c) y.nn))⟩
 |wr r c t ink=>
  refine⟨_,rfl,_,rfl,rfl,rfl,?_⟩;refine(n8 (l7 zqx)).mpr ?_;refine⟨_,rfl,_,rfl,rfl,rfl,?_⟩;refine(n8 (l7 zqy)).mpr ?_;obtain⟨H,hx,W,xl,xk⟩:=B.get l.1;have zs:=B.len;have xb:=l.1;have ys:=l.2.1;obtain⟨b,N,_,_⟩:=J.at (i:=r) ⋯;refine⟨_,rfl,_,rfl,_,rfl,λi hi=>by have:=l.2.2 t.cps[i] m!"";lia,?_⟩;refine zS.byG (λi ρ O'=>Old O O'/\∃Y Z,OwnP O' q I (p.set r (wrS H c t ink i))/\ρ=[some x,some (.d (ddD (.wr r c t ink))),some (.own q),Y,Z]) ⟨y,_,_,by rw[zja,zjo hx];exact J,rfl⟩ (λi ρ O' h=>trivial) ?_ ?_
  .rintro i w _ gQ _ D e ⟨z,Y,Z,a,rfl⟩;refine gQ _ _ λR2 L=>?_;obtain⟨k,hk,rfl⟩:∃k,t.cps.toList[i]? =some k/\w=.d (.tuple [.int i,.str ⟨#[k]⟩]):=by
    unfold Ux at e;rw[oh]at e;cases s:(List.range t.cps.size)[i]? with
    |none=>rw[s]at e;cases e
    |some j=>
     cases h2:t.cps.toList[i]? with
     |none=>rw[s,h2]at e;cases e
     |some k=>rw[s,h2]at e;have:=(lv.1 s);obtain⟨hj,ej⟩:=this;rw[List.getElem_range]at ej;subst ej;exact⟨k,rfl,(lV e).symm⟩
   refine zop ?_ m!"" m!"";walk_at "wd7";obtain⟨b',E,M,o⟩:=a.at (i:=r) (by rw[oy];lia);rw[N]at E;cases E;rw[List.getElem_set_self]at o;have S:i<t.length:=(lv.1 hk).1;have xd:=zdC (ink:=ink) (r:=H) (c:=c) (t:=t) ⋯ (ph S);have hO:D b=some (.lst (((wrS H c t ink i).map celD).map .d)):=o;refine⟨_,rfl,_,rfl,_,rfl,_,rfl,_,a.seq,_,M,_,rfl,_,rfl,updO D b (.lst (((wrS H c t ink (i+1)).map celD).map .d)),?_,L _ _ ⟨z.upd (g b (lE N)),_,_,?_,rfl⟩⟩
   .have ec:((c:Int)+(i:Int))=((c+i:Nat):Int):=⋯
    rw[<-zjb ⋯ hk];show qw D (.own b) ((c:Int)+(i:Int)) (.d (celD (⟨#[k]⟩,ink)))=_;rw[ec];simp only[qw,hO];rw[zkW ⋯ (by simp only[l8];lia)];simp only[List.map_set];rfl
   .have:=a.setRow U N (wrS H c t ink (i+1));rw[List.set_set]at this;exact this
  .rintro _ D ⟨z,Y,Z,a,rfl⟩;walk_at "wd7";rw[JK,show t.cps.size=t.length from rfl,zjc ⋯]at a;refine .inl (h q I D ?_ z V g);show OwnP _ q _ (p.set r (wrR (p.getD r []) c t ink));rw[W];exact a
seal PE PS PSs PT PA in
def zfH(F:Fun K "_law_cut" "_law_cut" (top 116) f fd)(T:Txt P w K mg C bw):F.k T base 1 kQ sCut7:=by
 have nd:=kQ.nd;apply F.okG kQ f!"l" (λhr=>(zc (zo 3 nd (zH (xI (K:=K) rfl) (by rfl) T.n_len (by rfl) (QA.pa (qc (zp (xx (K:=K) rfl) (pv 0) zb) qn)))) (zc (zo 4 nd (zf (Xs (K:=K) rfl) (vH (Yv (K:=K) rfl) (pv 0) uI (uJ (pv 1))) (vH (Yv (K:=K) rfl) (pv 0) (uJ (zf zw (pv 1) (pv 2))) uI))) (za (zj (zf (Xs (K:=K) rfl) (pv 4) (UA (xM (N:=["_law_turn","_law_wide"]) (n:=1) (js:=[3])) rfl (yl rfl T.n_range (QA.pa (qc (pv 2) qn))) (λ_ _ _ _=>(zy (i:=0) (show List.Nodup (["_law_turn","_law_wide"]:List Str)by decide +kernel) rfl (Or.inl rfl))) (λ_ _ _ _=>yG) (λ_ _ _ _=>(zf zdd (yg (qc (zC (qc zh (qc zb qn))) qn)) (pv 1))))))))))
 .walk_at "rf7"
 rintro _ gQ _ O R ⟨a,g,p,wd,hg,r,m,rfl,y,ok,w1,h1,m0,xd,h⟩;apply gQ;have zs:=y.len;have xb:=ok.len;obtain⟨b0,_,I,S⟩:=y.at (i:=0) ⋯;have U:=(ok.row (p[0]' ⋯) (ny _)).1;refine KU λR1 g1=>?_;walk_at "wd7";refine⟨_,y.seq,_,I,_,S.lenW,?_⟩;rw[U];apply g1;refine KU λR2 g2=>?_;walk_at "wd7";refine⟨_,y.seq,λp1 M=>?_⟩;rw[Q4];have Y:=Old.refl.upd (o:=.lst ((g.map W.own).take r)) M;refine⟨_,(y.old Y).seq,λp2 B=>?_⟩;have G:((r:Int)+(m:Int))=((r+m:Nat):Int):=⋯
 rw[G,zdB];have V:p1≠p2:=neO zd B;have o2:=Y.upd (o:=.lst ((g.map W.own).drop (r+m))) (Y.nn B);refine⟨(g.map W.own).take r,by simp only[seqL,ze V,zd],(g.map W.own).drop (r+m),by simp only[seqL,zd],by simp;lia,λz Q=>?_⟩;have E:=o2.upd (o:=.lst ((g.map W.own).take r++(g.map W.own).drop (r+m))) (o2.nn Q);have L:=y.old E;generalize hO3:updO (updO (updO O p1 (.lst ((g.map W.own).take r))) p2 (.lst ((g.map W.own).drop (r+m)))) z (.lst ((g.map W.own).take r++(g.map W.own).drop (r+m)))=O3 at *;have l:O3 z=some (.lst ((g.map W.own).take r++(g.map W.own).drop (r+m))):=by rw[<-hO3,zd]
 apply g2;walk_at "wd7";refine⟨⋯,⋯,λi vs O'=>Ex1 λcs=>An4 (vs=cs.map W.own) (Rws O' cs (List.replicate i (yE wd))) (Old O3 O') (∀b∈cs,O3 b=none),⟨[],rfl,.nil,Old.refl,λb x=>(nomatch x)⟩,?_,?_⟩
 .rintro i _ _ O' n hn rfl ⟨cs,rfl,x,j,J⟩ us hu;obtain⟨u,rfl⟩:=lU.1 hu;refine⟨rfl,rfl,λq s=>?_⟩;refine⟨_,_,(wd:Int),rfl,rfl,rfl,⋯,⋯,by simp;lia,λp4 t=>⟨cs++[p4],m!"",?_,?_,zhj J ((j.upd (j.nn s)).nn t)⟩⟩
  .rw[nq,UV,List.replicate_succ'];have Z:Old O' (updO O' q (.lst [.d (.tuple [.str s!" ",.int 0])])):=Old.refl.upd s;exact Paired.appP (Rws.old x (Z.upd (Z.nn t))) (.cons zd .nil)
  .exact(j.upd (j.nn s)).upd ((j.upd (j.nn s)).nn t)
 .rintro _ O' ⟨cs,rfl,x,j,J⟩ q s;have ys:cs.length=m:=by have:=lJ x;rwa[mf]at this
  have X:z≠q:=λe=>by rw[<-e,j z (by rw[l];simp),l]at s;cases s
  have H:updO O' q (.lst (cs.map W.own)) z=some (.lst ((g.map W.own).take r++(g.map W.own).drop (r+m))):=by rw[ze X,j z (by rw[l];simp),l]
  refine⟨(g.map W.own).take r++(g.map W.own).drop (r+m),by simp only[seqL,H],cs.map W.own,by simp only[seqL,zd],by simp;lia,λq2 v=>.inl ?_⟩;have e:(g.map W.own).take r++(g.map W.own).drop (r+m)++cs.map W.own=(g.take r++g.drop (r+m)++cs).map W.own:=by simp[List.map_take,List.map_drop]
  rw[e];have D:Old O' (updO O' q (.lst (cs.map W.own))):=Old.refl.upd s;have A:=Rws.old L.2 (j.trans D);exact h q2 _ _ (OwnP.new (Paired.appP (Paired.appP (Paired.takeP A _) (Paired.dropP A _)) (Rws.old x D)) v) (((E.trans j).trans D).upd (((E.trans j).trans D).nn v)) (((E.trans j).trans D).nn v) (znU λc hc=>E.nn (J c hc))
seal PE PS PSs PT PA in
def zfI(F:Fun K "_law_put" "_law_put" (top 117) f fd)(T:Txt P w K mg C bw):F.k T base 1 kR sPut7:=by
 have Z:=kR.nd;apply F.okG kR f!"l" (λhr=>(zc (zo 3 Z (zH (xI (K:=K) rfl) (by rfl) T.n_len (by rfl) (QA.pa (qc (zp (xx (K:=K) rfl) (pv 0) zb) qn)))) (zc (JL (i:=4) Z rfl rfl (xM (N:=["_law_turn","_law_wide"]) (n:=1) (js:=[3])) rfl (yl rfl T.n_range (QA.pa (qc (pv 2) qn))) (λ_ _ _ _=>(zy (i:=0) (show List.Nodup (["_law_turn","_law_wide"]:List Str)by decide +kernel) rfl (Or.inl rfl))) (λ_ _ _ _=>yG) (λ_ _ _ _=>(zf zdd (yg (qc (zC (qc zh (qc zb qn))) qn)) (pv 1)))) (za (zj (vH (Yv (K:=K) rfl) (zf (Xs (K:=K) rfl) (zf (Xs (K:=K) rfl) (vH (Yv (K:=K) rfl) (pv 0) uI (uJ (pv 1))) (pv 4)) (vH (Yv (K:=K) rfl) (pv 0) (uJ (pv 1)) uI)) uI (uJ (zH (xI (K:=K) rfl) (by rfl) T.n_len (by rfl) (QA.pa (qc (pv 0) qn))))))))))
 .walk_at "rf7"
 rintro _ gQ _ O R ⟨a,c,p,V,hg,r,m,rfl,D,ok,w1,h1,m0,xd,h⟩;apply gQ;have zs:=D.len;have xb:=ok.len;obtain⟨b0,_,E,L⟩:=D.at (i:=0) ⋯;have M:=(ok.row (p[0]' ⋯) (ny _)).1;refine KU λR1 g1=>?_;walk_at "wd7";refine⟨_,D.seq,_,E,_,L.lenW,?_⟩;rw[M];apply g1;refine KU λR2 g2=>?_;walk_at "wd7";refine⟨⋯,⋯,λi vs O'=>Ex1 λcs=>An4 (vs=cs.map W.own) (Rws O' cs (List.replicate i (yE V))) (Old O O') (∀b∈cs,O b=none),⟨[],rfl,.nil,Old.refl,λb x=>(nomatch x)⟩,?_,?_⟩
 .rintro i _ _ O' n hn rfl ⟨cs,rfl,x,j,H⟩ us hu;obtain⟨u,rfl⟩:=lU.1 hu;refine⟨rfl,rfl,λq v=>?_⟩;refine⟨_,_,(V:Int),rfl,rfl,rfl,⋯,⋯,by simp;lia,λp4 g=>⟨cs++[p4],m!"",?_,?_,zhj H ((j.upd (j.nn v)).nn g)⟩⟩
  .rw[nq,UV,List.replicate_succ'];have Y:Old O' (updO O' q (.lst [.d (.tuple [.str s!" ",.int 0])])):=Old.refl.upd v;exact Paired.appP (Rws.old x (Y.upd (Y.nn g))) (.cons zd .nil)
  .exact(j.upd (j.nn v)).upd ((j.upd (j.nn v)).nn g)
 .rintro _ O' ⟨cs,rfl,x,j,H⟩ q v;have ys:cs.length=m:=by have:=lJ x;rwa[mf]at this
  have B:OwnP (updO O' q (.lst (cs.map W.own))) q cs (List.replicate m (yE V)):=OwnP.new x v;have l:=j.upd (o:=.lst (cs.map W.own)) (j.nn v);generalize updO O' q (.lst (cs.map W.own))=O1 at *;have s:=D.old l;apply g2;walk_at "wd7";refine⟨_,s.seq,λp1 I=>?_⟩;rw[Q4];have Q:Old O1 (updO O1 p1 (.lst ((c.map W.own).take r))):=Old.refl.upd I;refine⟨(c.map W.own).take r,by simp only[seqL,zd],_,(B.old Q).seq,by simp;lia,λp2 J=>?_⟩;have S:=Q.upd (o:=.lst ((c.map W.own).take r++cs.map W.own)) (Q.nn J);refine⟨_,(s.old S).seq,λp3 A=>?_⟩;rw[zdB];have X:=S.upd (o:=.lst ((c.map W.own).drop r)) (S.nn A);have U:p2≠p3:=neO zd A;refine⟨(c.map W.own).take r++cs.map W.own,by simp only[seqL,ze U,zd],(c.map W.own).drop r,by simp only[seqL,zd],by simp;lia,λp4 g=>?_⟩;have y:=X.upd (o:=.lst ((c.map W.own).take r++cs.map W.own++(c.map W.own).drop r)) (X.nn g);refine⟨_,(s.old y).lenW,(c.map W.own).take r++cs.map W.own++(c.map W.own).drop r,by simp only[seqL,zd],λp5 t=>.inl ?_⟩;rw[Q4];have e:((c.map W.own).take r++cs.map W.own++(c.map W.own).drop r).take p.length=((c.take r++cs++c.drop r).take p.length).map W.own:=by simp[List.map_take,List.map_drop]
  rw[e];have z:=Rws.old s.2 y;have G:=Rws.old B.2 y;exact h p5 _ _ (OwnP.new (Paired.takeP (Paired.appP (Paired.appP (Paired.takeP z _) G) (Paired.dropP z _)) _) t) ((l.trans y).upd ((l.trans y).nn t)) ((l.trans y).nn t) (znV H)
seal PE PS PSs PT PA in
def Km(F:Fun K "_law_copied" "_law_copied" (top 115) f fd)(T:Txt P w K mg C bw):F.k T base 1 Zl sCop7:=by
 apply F.okG Zl f!"l" (λs=>(za (zj (UA (xM (N:=["_law_row_here"]) (n:=1) (js:=[])) rfl (xu (K:=K) rfl (pv 0)) (λ_ _ _ _=>(zy (i:=0) (show List.Nodup (["_law_row_here"]:List Str)by decide +kernel) rfl (Or.inl rfl))) (λ_ _ _ _=>yG) (λ_ _ _ _=>(zE (zmJ (K:=K) rfl) (by rfl) T.n_list rfl (QA.pa (qc (pv 0) qn))))))))
 .walk_at "rf7"
 rintro _ gQ _ O R ⟨x,p,rfl,B,H,I,h⟩;apply gQ;obtain⟨ws,A,t,z⟩:=B.seq;walk_at "wd7";refine⟨ws,t O Old.refl,⋯,λi vs O'=>Ex1 λg=>An5 (vs=g.map W.own) (Rws O' g (p.take i)) (Old O O') (g.Nodup) (∀b∈g,O b=none),⟨[],rfl,.nil,Old.refl,pP,λb j=>(nomatch j)⟩,λi vs O' ⟨_,_,_,e,_,_⟩=>t O' e,?_,?_⟩
 .rintro i w _ O' E ⟨g,rfl,j,e,o,l⟩ us D;obtain⟨u,rfl⟩:=lU.1 D;obtain⟨r,s,y⟩:=z i w E;refine⟨rfl,rfl,_,y O' e,λq c=>⟨g++[q],m!"",?_,e.upd (e.nn c),?_,?_⟩⟩
  .rw[nv,s];exact Paired.appP (Rws.old j (Old.refl.upd c)) (.cons zd .nil)
  .rw[nu];refine⟨o,m!"",λa v b hb'=>?_⟩;cases lf.1 hb';rintro rfl;obtain⟨G,_,d⟩:=Paired.getP j (lp (List.idxOf_lt_length_of_mem v));rw[List.getElem_idxOf]at d;rw[show O' _=_ from d]at c;cases c
  .intro b hb';rcases ls.1 hb' with hb'|hb'
   .exact l b hb'
   .cases lf.1 hb';exact e.nn c
 .rintro _ O' ⟨g,rfl,j,e,o,l⟩ q c;rw[A,my]at j;refine .inl (h q g _ (OwnP.new j c) (e.upd (e.nn c)) o (λm=>?_) (e.nn c) l);obtain⟨G,_,d⟩:=Paired.getP j (lp (List.idxOf_lt_length_of_mem m));rw[List.getElem_idxOf]at d;rw[show O' _=_ from d]at c;cases c
end
abbrev AscQ(z:Str):Prop:=∃k,32<=k/\k<=126/\z=⟨#[k]⟩
def zhw:AscQ s!" ":=⟨32,∅,∅,f!""⟩
structure Scn (O O':OM) (cN C cQ:Addr) (N:Sn) (S:ST):Prop where
 a:ScAt O' cN C cQ N S []
 f:Fit S
 q:OneQ AscQ S
 n:∀a∈N.l,O a=none
 o:Old O O'
inductive sMade (c C e:Addr) (ws:List W) (O:OM) (R:WK):Prop
 |mk:∀(ns:List Int) (p:Pic6) (b a:Nat),ws=[.d (.list (ns.map .int)),.d (rowsC p)]->1<=b->b<=24->1<=a->a<=12->p.length=a->(∀r∈p,r.length=b/\okRi r)->(∀N S O',Scn O O' c C e N S->S.w=b->S.h=a->picL S=p->R (.own N.x) O')->sMade c C e ws O R
def jP{m:OM}{R:WK}{p s:Addr}{N:Sn}{rs:List Rea}{x:Addr}(hx:N.x=x)(g:Scn O m p C s N S)(hz:Rds z rs)(J:∀r∈rs,LtR r)(y:∀c∈z.cps.toList,32<=c/\c<=126)(K:z.length<=70000)
  (h:∀q j O',j.x=x->Scn O O' p C s j (runS rs S)->m q=none->O' q=some (.lst (((runA rs S).map .str).map .d))->q∉j.l->R (.own q) O'):sFeed p C s [.own x,.d (.str z)] m R:=by
 subst hx;have B:∀c∈z.cps.toList,okF c:=λc v=>.inr (.inr (by have:=y c v;omega));have i:=UO (b:=[]) (cs:=z.cps.toList) Za B;refine⟨N,S,[],z,rfl,g.a,g.f,Za,B,by rw[hz.r];exact J,by show 0+z.length<=80000;omega,λq j O' D E w F t G=>?_⟩;rw[hz.r]at w t i;rw[hz.b]at t;have k:∀a o,O a=some o->O' a=some o/\a∉j.l:=λa o e=>by
  have H:m a=some o:=by rw[g.o a (by rw[e];simp)];exact e
  exact G a o H λu=>by rw[g.n a u]at e;cases e
 refine h q j O' D ⟨t,g.f.run i,g.q.run g.f i λr A c e=>?_,λa u=>?_,λb I=>?_⟩ E w F
 .subst e;rw[<-hz.r]at A;have q:=y c (zby A);exact⟨c,q.1,q.2,rfl⟩
 .cases e:O a with
  |none=>rfl
  |some o=>exact absurd u (k a o e).2
 .cases e:O b with
  |none=>exact absurd e I
  |some o=>exact(k b o e).1
abbrev K0(p:Pic6)(d c i j:Nat)(f:PF):Prop:=∀a b,a<c->b<d->(a<i\/(a=i/\b<j))->f a b=(p.getD a []).getD b (blank 0)
structure Mkd (wd hg:Nat) (S:ST):Prop where
 p:Pl S
 w:S.w=wd
 h:S.h=hg
def zpj{d a r c:Nat}(h:Mkd d a S)(g:r<a)(f:c<d):∃T,runS [.row 103 [natD (r+1),natD (c+1)]] S=T/\Mkd d a T/\T.pic=S.pic/\T.row=r/\T.col=c/\T.late=false:=by
 refine⟨_,rfl,?_⟩;show Mkd d a (rdS' (.row 103 [natD (r+1),natD (c+1)]) S)/\_;have e:=zjl h.p.hm (S:=S) (r:=r) (c:=c) (by rw[h.h];exact g) (by rw[h.w];exact f);rw[show runS [Rea.row 103 [natD (r+1),natD (c+1)]] S=_ from e,e];exact⟨⟨⟨h.p.hm,h.p.pt,h.p.wr,h.p.t,h.p.b,h.p.l,h.p.r⟩,h.w,h.h⟩,rfl,rfl,rfl,rfl⟩
def zn6{g f r c k:Nat}(h:Mkd g f S)(i:S.row=r)(j:S.col=c)(m:S.late=false)(o:n<512):∃T,runS ([.row 99 (inkN n)]++[.sign k]) S=T/\Mkd g f T/\T.pic=setF S.pic r c (⟨#[k]⟩,(n:Int)):=by
 refine⟨_,rfl,?_⟩;have e:runS ([.row 99 (inkN n)]++[.sign k]) S=rdS' (.sign k) { S with ink:=n }:=by show rdS' (.sign k) (rdS' (.row 99 (inkN n)) S)=_;rw[zfF o]
 rw[e,zdJ (S:={ S with ink:=n }) m h.p.pt];have d:S.row.toNat=r:=by rw[i];rfl
 have a:S.col.toNat=c:=by rw[j];rfl
 split
 .exact⟨⟨⟨h.p.hm,h.p.pt,h.p.wr,h.p.t,h.p.b,h.p.l,h.p.r⟩,h.w,h.h⟩,by show setF S.pic S.row.toNat S.col.toNat _=_;rw[d,a]⟩
 .exact⟨⟨⟨h.p.hm,h.p.pt,h.p.wr,h.p.t,h.p.b,h.p.l,h.p.r⟩,h.w,h.h⟩,by show setF S.pic S.row.toNat S.col.toNat _=_;rw[d,a]⟩
def J2{t:Str}(h:∀c∈t.cps.toList,32<=c/\c<=126):∀c∈(Txt.replace t s!"~" s!"~~").cps.toList,32<=c/\c<=126:=by
 rw[ko];intro c a;obtain⟨k,b,a⟩:=List.mem_flatMap.1 a;have q:=h k b;split at a
 .simp only[lu,lF,ma,or_self]at a;omega
 .cases lf.1 a;exact q
def xG{y:Str}(h:∀c∈y.cps.toList,32<=c/\c<=126)(k:∀c∈z.cps.toList,32<=c/\c<=126):∀c∈(y++z).cps.toList,32<=c/\c<=126:=λc hc=>by
 rw[zJ]at hc;rcases ls.1 hc with hc|hc
 .exact h c hc
 .exact k c hc
def yP{m:Str}{r:Addr}(h:(m==s!"state")=false/\(m==s!"reader")=false):∀(c:Str) (b:W),(c,b)∈scF a r->¬m=c:=λc b d e=>by
 rcases lu.mp d with z|z
 .cases z;rw[e]at h;exact absurd h.1 f!""
 .cases lf.mp z;rw[e]at h;exact absurd h.2 f!""
def zdQ{u:W}(h:(List.zipWith (λ(i:Nat) d=>W.d (PyData.tuple [PyData.int (i:Int),d])) (List.range ds.length) ds)[i]? =some u):∃d,ds[i]? =some d/\u=.d (.tuple [.int (i:Int),d]):=by
 rw[oh]at h;by_cases hi:i<ds.length
 .rw[mO hi,lp hi]at h;cases h;exact⟨_,lp hi,rfl⟩
 .rw[mh (l:=ds) f!"i"]at h;cases hr:(List.range ds.length)[i]?<;>rw[hr]at h<;>cases h
def zhx{p:Pic6}{g d j:Nat}{f:PF}{r:Rw6}{c:Cel}(h:K0 p g d i j f)(o:p[i]? =some r)(n:r[j]? =some c):K0 p g d i (j+1) (setF f i j c):=by
 intro a b k m l;unfold setF;by_cases e:a=i/\b=j
 .rw[l9 e,e.1,e.2,lZ,lZ,o];show c=(r[j]?).getD _;rw[n];rfl
 .rw[l7 e];exact h a b k m f!"i"
section
variable {base:Heap}{cD cS cL cT cR cN cQ:Addr}{R:WK}
seal PE PS PSs PT PA in
def zcN(F:Fun K "_law_made" "_law_made" (top 126) f fd)(T:Txt P w K mg C bw)(cu:CalM P w K mg base 6 "Screen" cN (liftSp K (sInitN cN C cQ)))(X:CalT P w K mg base 9 "feed" cN (liftSp K (sFeed cN C cQ)))(wb:T.c base 1 "_law_at" (exS sPlaceS))(w6:T.c base 1 "_law_inked" (exS sInkS)):F.k T base 10 jN (sMade cN C cQ):=by
 have W:=jN.nd;apply F.okG jN f!"l" (λs=>(zc (zo 2 W (ql cu (s.mono ∅) rfl (QA.pa (qc (zH (xI (K:=K) rfl) (by rfl) T.n_len (by rfl) (QA.pa (qc (zp (xx (K:=K) rfl) (pv 1) zb) qn))) (qc (zH (xI (K:=K) rfl) (by rfl) T.n_len (by rfl) (QA.pa (qc (pv 1) qn))) qn))))) (zc (yD m6 rfl (zaL (K:=K) rfl rfl T.n_enumerate (QA.pa (qc (pv 1) qn))) (QI (K:=K) (n:=2) rfl rfl (uG (zy (i:=3) W rfl (Or.inl rfl)) (uG (zy (i:=4) W rfl (Or.inl rfl)) Qf))) (za (yD m6 rfl (zaL (K:=K) rfl rfl T.n_enumerate (QA.pa (qc (pv 4) qn))) (QI (K:=K) (n:=2) rfl rfl (uG (zy (i:=5) W rfl (Or.inl rfl)) (uG (zy (i:=6) W rfl (Or.inl rfl)) Qf))) (zc (zm (vD X s (pv 2) (qc (zg wb s (qc (pv 3) (qc (pv 5) qn))) qn))) (za (zm (vD X s (pv 2) (qc (zf zq (zg w6 s (qc (zp (zt (K:=K) rfl) (pv 6) zb) qn)) (Q2 (K:=K) rfl (pv 6) f!"" f!"")) qn)))))))) (za (zj (pv 2))))))
 .walk_at "ref"
 rintro _ gQ _ O R ⟨ns,p,wd,hg,rfl,w0,w1,h0,h1,J,hk,h⟩;apply gQ;refine yO (λxO O'=>Ex1 λN=>An2 (Scn O O' cN C cQ N (st0 wd hg λ_ _=>blank 0)) (xO=[some (.d (.list (ns.map .int))),some (.d (rowsC p)),some (.own N.x),none,none,none,none])) (λR1 xe=>?_) ?_
 .walk_at "wd";obtain⟨Z,p',rfl⟩:∃Z p',p=Z::p':=by
   cases p with
   |nil=>rw[nE]at J;omega
   |cons a b=>exact⟨a,b,rfl⟩
  have xp:=(hk Z lh).1;refine⟨_,rfl,.d (rowC Z),uK (j:=0) rfl,wd,?_,hg,?_,λx dx hx=>?_⟩
  .rw[<-xp];simp[lenW,zU,seqL,rowC]
  .rw[<-J];simp[lenW,zU,seqL,rowsC]
  refine⟨x,dx,wd,hg,rfl,zd,w0,w1,h0,h1,λN O' t hN hS hO=>⟨rfl,xe _ _ ⟨N,⟨hS,zpH w0 w1 h0 h1,⟨λi j _ _=>zhw,.inl rfl,zhw⟩,λa ha=>?_,λb Y=>?_⟩,by rw[t]⟩⟩⟩
  .by_cases e:a=x
   .rw[e];exact hx
   .rcases hN a ha with z|z
    .exact absurd z e
    .rw[ze e]at z;exact z
  .have e:b≠x:=λe=>Y (by rw[e];exact hx);rw[hO b e (by rw[ze e];exact Y),ze e]
 rintro _ gQ _ O1 ⟨N,hN,rfl⟩;apply gQ;walk_at "wd";refine⟨_,rfl,_,zV _,?_⟩;refine zS.byG (λi ρ O'=>Ex6 λM S v3 v4 H I=>An5 (M.x=N.x) (Scn O O' cN C cQ M S) (Mkd wd hg S) (K0 p wd hg i 0 S.pic) (ρ=[some (.d (.list (ns.map .int))),some (.d (rowsC p)),some (.own N.x),v3,v4,H,I])) ⟨N,_,_,_,_,_,rfl,hN,⟨⟨rfl,rfl,rfl,rfl,rfl,rfl,rfl⟩,rfl,rfl⟩,λa b _ _ z=>f!"i",rfl⟩ (λ_ _ _ _=>rfl) ?_ ?_
 .rintro i u _ gQ _ O2 hu ⟨M,S,v3,v4,H,I,t,y,g,v,rfl⟩;refine gQ _ _ λR2 xk=>?_;obtain⟨d,o,rfl⟩:=zdQ hu;rw[lw]at o;cases s:p[i]? with
  |none=>rw[s]at o;cases o
  |some r=>
   rw[s]at o;cases o;have m:=hk r (lE s);have U:i<hg:=by rw[<-J];exact(lv.1 s).1
   walk_at "wd";refine⟨_,rfl,_,zV _,?_⟩;refine zS.byG (λj ρ O'=>Ex4 λM S H I=>An5 (M.x=N.x) (Scn O O' cN C cQ M S) (Mkd wd hg S) (K0 p wd hg i j S.pic) (ρ=[some (.d (.list (ns.map .int))),some (.d (rowsC p)),some (.own N.x),some (.d (.int i)),some (.d (rowC r)),H,I])) ⟨M,S,_,_,t,y,g,v,rfl⟩ (λ_ _ _ _=>rfl) ?_ ?_
   .rintro j u _ gQ _ O3 hu ⟨M,S,H,I,t,y,G,D,rfl⟩;refine gQ _ _ λR3 xl=>?_;obtain⟨d,o,rfl⟩:=zdQ hu;rw[lw]at o;cases B:r[j]? with
    |none=>rw[B]at o;cases o
    |some c=>
     rw[B]at o;cases o;obtain⟨⟨k,k0,k1,ek⟩,i0,i1⟩:=m.2 c (lE B);have V:j<wd:=by rw[<-m.1];exact(lv.1 B).1
     walk_at "wd";obtain⟨z,ik⟩:=c;obtain⟨n,rfl⟩:=lO i0;cases(show z=⟨#[k]⟩from ek);have q1:OkQ (.row 103 [natD (i+1),natD (j+1)]):=ok2 ∅ f!"i" f!"i";have q2:OkQ (.row 99 (inkN n)):=⟨∅,yu n⟩;have s1:=jO ∅ q1.1 q1.2;have s2:=jO ∅ q2.1 q2.2;have kk:∀c∈(⟨#[k]⟩:Str).cps.toList,32<=c/\c<=126:=λc B=>by cases lf.1 B;exact⟨k0,k1⟩
     have l3:=Xx ⟨#[k]⟩;have l1:(⟨#[k]⟩:Str).length= 1:=rfl;have l2:=s2.l;obtain⟨T1,ys,m1,xr,xA,zs,xq⟩:=zpj G U V;obtain⟨T2,xb,m2,xs⟩:=zn6 (k:=k) m1 xA zs xq (n:=n) (by show n<512;have:(n:Int)<512:=i1;omega);refine⟨M.dx,_,by rw[<-t];exact y.a.x,yP f!"",i,j,rfl,f!"i",f!"i",λO' ho=>⟨ho,jP t y (Rds.row q1) (Y3 ∅) s1.c (by have:=s1.l;omega) λq M2 O4 L A _ _ _=>?_⟩⟩;rw[ys]at A;refine⟨M2.dx,_,by rw[<-L];exact A.a.x,yP f!"",_,rfl,_,rfl,n,rfl,by have:(n:Int)<512:=i1;omega,λO5 xo=>⟨xo,_,rfl,(⟨#[k]⟩:Str),rfl,f!"i",_,rfl,by rw[lI];omega,jP L A ((Rds.row q2).app (zdL kk)) (zce (Y3 ∅) zcf) (xG s2.c (J2 kk)) (by rw[zv];omega) λq M3 O6 xd Q _ _ _=>?_⟩⟩;rw[show runS ([Rea.row 99 (inkN n)]++(⟨#[k]⟩:Str).cps.toList.map .sign) T1=T2 from xb]at Q;exact xl _ _ ⟨M3,T2,_,_,xd,Q,m2,by rw[xs,xr];exact zhx D s B,rfl⟩
   .rintro _ O3 ⟨M,S,H,I,t,y,G,D,rfl⟩;refine xk _ _ ⟨M,S,_,_,_,_,t,y,G,λa b ha Y wa=>D a b ha Y ?_,rfl⟩;rw[List.length_zipWith,mL,l8,m.1];omega
 .rintro _ O2 ⟨M,S,v3,v4,H,I,t,y,g,v,rfl⟩;walk_at "wd";rw[<-t];rw[List.length_zipWith,mL,l8,J]at v;refine .inl (h M S O2 y g.w g.h (Eq.symm (Xz (by rw[g.h];exact J) λi U=>?_)));rw[g.h]at U;have E:i<p.length:=by rw[J];exact U
  rw[lp E];congr 1;have m:=(hk _ (ny E)).1;rw[g.w];apply o7;intro j;by_cases V:j<wd
  .rw[lw,mO V];show _=some (S.pic i j);rw[v i j U V f!"i",lZ,lZ,lp E];show _=some ((p[i][j]?).getD _);rw[lp (by rw[m];exact V)];rfl
  .rw[mh (by rw[m];omega),mh (by rw[l8,mL];omega)]
end
def J3{s:SpW}{i j k:Int}{t:TA}{T:TAW}(h:yQ K t T):RefE K (Zr (liftSp K s) [.int i,.int j,.int k] E0 t) (vB s [.int i,.int j,.int k] T):=Vc h
def Jo(S:ST)(b:List Nat):tPic S b=rowsC (picL S):=by
 unfold tPic rowsC picL genG;rw[lT,lT];congr 1;exact nw λi _=>by show PyData.list _=rowC _;unfold rowC;rw[lT];rfl
def Scn.old{b c:OM}{d e:Addr}{N:Sn}(h:Scn O b d C e N S)(k:Old b c):Scn O c d C e N S:=⟨h.a.old k,h.f,h.q,h.n,h.o.trans k⟩
def Scn.nm{b:OM}{c d:Addr}{N:Sn}(h:Scn O b c C d N S)(e:b a=none):a∉N.l:=λf=>by
 obtain⟨o,q⟩:=h.a.nn a f;rw[e]at q;cases q
def zlP (h:OneQ AscQ S) (a:∀ r∈picL S,okR r):OkP S.w S.h (picL S):=⟨xw,fun r q=>⟨by
 unfold picL at q;obtain⟨i,b,rfl⟩:=lH.1 q;rw[l8,mL],a r q⟩⟩
def zn7{w h:Nat}{d:Dd}(a:okDd w h d)(b:nwD d\/ywD d)(i:w<=24)(g:h<=12):okT d/\okDd 24 12 d:=by
 cases d with
 |cut r m=>have:=a.1;have:=a.2;exact⟨⟨f!"i",f!"i"⟩,f!"i",f!"i"⟩
 |put r m=>have:=a.1;have:=a.2;exact⟨⟨f!"i",f!"i"⟩,f!"i",f!"i"⟩
 |wr r c t ik=>
  rcases b with b|⟨h1,h2,_⟩
  .exact b.elim
  .have e:=a.1;have f:=a.2.1;exact⟨⟨f!"i",f!"i",f!"i",h1,h2⟩,f!"i",f!"i",a.2.2⟩
def Jp(i:Int):PyData.canLay0 (.int i)=true/\PyData.depth (.int i)<=1/\PyData.eqv (.int i) (.int i)=true:=by simp[PyData.canLay0,PyData.depth,PyData.eqv]
def zpk(i:Bool):PyData.canLay0 (.bool i)=true/\PyData.depth (.bool i)<=1/\PyData.eqv (.bool i) (.bool i)=true:=by simp[PyData.canLay0,PyData.depth,PyData.eqv]
def zn8{t:Str}(h:∀k∈t.cps.toList,32<=k/\k<=126):PyData.strOk t=true:=by
 unfold PyData.strOk;simp;intro i a;have:=h t.cps[i] m!"";omega
def dd7{w h:Nat}{d:Dd}(a:okDd w h d):PyData.canLay0 (ddD d)=true/\PyData.depth (ddD d)<=3/\PyData.eqv (ddD d) (ddD d)=true:=by
 have b:PyData.strOk s!"cut"=true:=f!""
 have e:PyData.strOk s!"put"=true:=f!""
 have f:PyData.strOk s!"write"=true:=f!""
 cases d with
 |cut r m=>simp[ddD,PyData.canLay0,PyData.canLayAll0,PyData.depth,PyData.depthAll,PyData.eqv,PyData.eqvAll,b]
 |put r m=>simp[ddD,PyData.canLay0,PyData.canLayAll0,PyData.depth,PyData.depthAll,PyData.eqv,PyData.eqvAll,e]
 |wr r c t ink=>have g:PyData.strOk t=true:=zn8 a.2.2;simp[ddD,PyData.canLay0,PyData.canLayAll0,PyData.depth,PyData.depthAll,PyData.eqv,PyData.eqvAll,f,g]
def zhy:∀{a:List Addr}{p:Pic6},Rws O a p->(∀b∈a,O' b=O b)->Rws O' a p
 |_,_,.nil,_=>.nil
 |_,_,.cons h t,k=>.cons ((k _ lh).trans h) (zhy t λb c=>k b (lg _ c))
def zhz{ds:List Dd}{r c ik:Nat}(h:∀d∈ds,okT d/\okDd 24 12 d)(s:r<=30)(b:c<=30):∀c'∈(wayT ds r c ik).cps.toList,32<=c'/\c'<=126:=by
 have a:∀{l:Nat}{ns:List PyData},OkQ (.row l ns)->∀c∈(rowT l ns).cps.toList,32<=c/\c<=126:=λq=>JY q.1 q.2;have g:∀d∈ds,∀c∈(ddT d).cps.toList,32<=c/\c<=126:=λd e=>by
  have q:=h d e;cases d with
  |cut r m=>exact xG (a (ok1 ∅ (by have:=q.1.1;omega))) (a (ok1 ∅ (by have:=q.1.2;omega)))
  |put r m=>exact xG (a (ok1 ∅ (by have:=q.1.1;omega))) (a (ok1 ∅ (by have:=q.1.2;omega)))
  |wr r c t ik=>obtain⟨k,o,p,_⟩:=q.1;exact xG (xG (a (ok2 ∅ f!"i" f!"i")) (a ⟨∅,yu _⟩)) (J2 q.2.2.2)
 have j:∀c∈(Txt.join s!"" (ds.map ddT)).cps.toList,32<=c/\c<=126:=λc b=>by rw[Xy]at b;obtain⟨l,i,b⟩:=List.mem_flatten.1 b;obtain⟨z,hz,rfl⟩:=lH.1 i;obtain⟨d,e,rfl⟩:=lH.1 hz;exact g d e c b
 have f:∀c∈begT.cps.toList,32<=c/\c<=126:=(KZ (n:=100) (z:=begT) f!"").c;exact xG (xG (xG f j) (a (ok2 ∅ f!"i" f!"i"))) (a ⟨∅,yu ik⟩)
def zlQ{ds:List Dd}{r c ik:Nat}(h:∀d∈ds,okT d)(g:r<=30)(e:c<=30)(f:ds.length<=10):(wayT ds r c ik).length<=70000:=by
 have i:=yq (ok2 (c:=103) (a:=r+1) (b:=c+1) ∅ f!"i" f!"i");have j:=yq (c:=99) (ns:=inkN ik) ⟨∅,yu ik⟩;have k:=Y2 h;have l:begT.length<=20:=f!""
 unfold wayT;rw[zv,zv,zv];omega
def Scn.base {c:OM}{d e:Addr}{N:Sn}(h:Scn O c d C e N S):Scn (fun a=>if a∈N.l then none else c a) c d C e N S:=⟨h.a,h.f,h.q,fun a g=>l9 g,fun b i=>by
 by_cases hb':b∈N.l
 .exact absurd (l9 hb') i
 .exact(l7 hb').symm⟩
def zjp{e:OM}{l:List Addr}{q:Addr}{c:List Addr}{p:Pic6}(h:OwnP e q c p)(g:q∉l)(f:∀b∈c,b∉l):OwnP (λa=>if a∈l then none else e a) q c p:=by
 refine⟨(l7 g).trans h.1,?_⟩;exact zhy h.2 λb d=>l7 (f b d)
def zcj(h:OneQ AscQ S):∀r∈picL S,okR r:=λr a c b=>by
 unfold picL at a;obtain⟨i,d,rfl⟩:=lH.1 a;obtain⟨j,e,rfl⟩:=lH.1 b;exact h.p i j (pM.1 d) (pM.1 e)
abbrev WH(S T:ST):Prop:=T.w=S.w/\T.h=S.h
def zP{A B:ST}{q:Prop}[Decidable q](a:WH S A)(b:WH S B):WH S (if q then A else B):=by
 split
 .exact a
 .exact b
def zkh{S:ST}{z:Str}:∀m,WH S (itS z m S)
 |0=>⟨rfl,rfl⟩
 |m+1=>by have a:=zkh (S:=S) (z:=z) m;have q:Sno (itS z m S) (putS0 z (itS z m S)):=Yz;exact⟨q.w.trans a.1,q.h.trans a.2⟩
def zn9{c:Nat}{a b:PyData}{ns:List PyData}(d:Bds S):WH S (actS c a b ns S):=by
 have k:WH S S:=⟨rfl,rfl⟩;unfold actS;refine zP k ?_;refine zP k ?_;refine zP k ?_;refine zP k ?_;refine zP k ?_;refine zP ?_ ?_
 .unfold backS;split;exact⟨rfl,rfl⟩;exact k
 refine zP k ?_;refine zP ⟨(UK (S:=S)).w,(UK (S:=S)).h⟩ ?_;refine zP k ?_;refine zP k ?_;refine zP ?_ ?_
 .unfold agS;split
  .exact zkh _
  .exact k
 refine zP k ?_;refine zP k ?_;refine zP ?_ ?_
 .unfold lineS;split;exact⟨rfl,rfl⟩;exact⟨rfl,rfl⟩
 refine zP ?_ ?_
 .unfold lineS;split;exact⟨rfl,rfl⟩;exact⟨rfl,rfl⟩
 refine zP k ?_;refine zP k ?_;refine zP k ?_;refine zP k ?_;refine zP ⟨(jZ (S:=S)).w,(jZ (S:=S)).h⟩ ?_;refine zP ⟨(Zc (S:=S)).w,(Zc (S:=S)).h⟩ ?_;refine zP ⟨(Zd (S:=S)).w,(Zd (S:=S)).h⟩ ?_;refine zP k ?_;refine zP ⟨(xv (ns:=ns) (on:=true) d).1.w,(xv (ns:=ns) (on:=true) d).1.h⟩ ?_;exact zP ⟨(xv (ns:=ns) (on:=false) d).1.w,(xv (ns:=ns) (on:=false) d).1.h⟩ k
def zhA:∀{rs:List Rea}{S:ST},Fit S->(∀r∈rs,OkR r)->WH S (runS rs S)
 |[],_,_,_=>⟨rfl,rfl⟩
 |r::rs,S,hF,hr=>by
  have a:=zhA (rs:=rs) (hF.rd (hr r lh)) λx hx=>hr x (lg _ hx);have q:WH S (rdS' r S):=by
   cases r with
   |sign c=>exact⟨(Yz (S:=S)).w,(Yz (S:=S)).h⟩
   |line=>exact⟨(jp (S:=S)).w,(jp (S:=S)).h⟩
   |tab=>exact⟨rfl,rfl⟩
   |row c ns=>show WH S (if c= 113 then S else L2.opt lsAll c (actS c (nmA ns 0) (nmA ns 1) ns) S);refine zP ⟨rfl,rfl⟩ ?_;unfold L2.opt;exact zP (zn9 hF.g.b) ⟨rfl,rfl⟩
  exact⟨a.1.trans q.1,a.2.trans q.2⟩
inductive sLaw30 (ws:List W) (O:OM) (R:WK):Prop
 |mk:∀ns:List Int,ws=[.d (.list (ns.map .int))]->(∀O',R (.d (.bool true)) O')->sLaw30 ws O R
section
variable {base:Heap}{cD cS cL cT cR cN cQ:Addr}{R:WK}
seal PE PS PSs PT PA in
def zoa(F:Fun K "law" "law" (top 128) f fd)(T:Txt P w K mg C bw)(w4:T.c base 2 "_law_mixed" sMix6)(cv:T.c base 3 "_law_picture" sPic30)(cw:T.c base 10 "_law_made" (sMade cN C cQ))(xs:CalT P w K mg base 2 "told_picture" cN (liftSp K (sTellN cN C cQ tPic)))(we:CalT P w K mg base 9 "feed" cN (liftSp K (sFeed cN C cQ)))(cx:T.c base 3 "_law_stirring" sStir)(wn:CalT P w K mg base 1 "many_kept" cN (liftSp K (sTellN cN C cQ tKep)))(wp:CalT P w K mg base 1 "told_stops" cN (liftSp K (sTellN cN C cQ tStp)))(cy:T.c base 3 "_law_drawn" sDrawn30)(xo:T.c base 1 "_law_copied" sCop7)(d0:T.c base 2 "_law_deed" sDeed8)(w8:T.c base 1 "_law_ink" sInk6)(d4:Cal P w K mg base 5 "signs_of" [.int 0,.int 0,.int 0] (liftSp K (exS sSignsOf)))(wB:T.c base 5 "signs_of" (exS sSignsOf))(d5:T.c base 2 "_law_signs" (exS sLawSg))(wE:CalT P w K mg base 1 "is_late" cN (liftSp K (sTellN cN C cQ tLate)))(wG:CalT P w K mg base 2 "open_row" cN (liftSp K (sTellN cN C cQ tOpn)))(wD:CalT P w K mg base 1 "cursor" cN (liftSp K (sTellN cN C cQ tCur)))(wo:CalT P w K mg base 1 "told_ink" cN (liftSp K (sTellN cN C cQ tInk)))(wF:CalT P w K mg base 1 "modes" cN (liftSp K (sTellN cN C cQ tMod)))(wH:CalT P w K mg base 1 "window" cN (liftSp K (sTellN cN C cQ tWin)))(w9:T.c base 3 "ink_signs" (exS sInkS))(w6:T.c base 1 "_law_inked" (exS sInkS)):F.k T base 11 zbU sLaw30:=by
 have I:=zbU.nd;apply F.okG zbU f!"l" (λm=>(zc (zo 1 I (zg w4 m (qc (pv 0) (qc zb qn)))) (zc (zo 2 I (zf zw zb (zf zA (pv 1) zb))) (zc (zo 3 I (zf zw zb (zf zA (zf zB (pv 1) zb) zb))) (zc (zo 4 I (zg cv m (qc (pv 0) (qc zb (qc (pv 2) (qc (pv 3) qn)))))) (zc (zo 5 I (zg cw m (qc (pv 0) (qc (pv 4) qn)))) (zc (zn (zl (vx (K:=K) rfl m.units) (zQ xs (m.mono ∅) (pv 5)) (pv 4)) (za (zj zT)) zr) (zc (zm (vD we m (pv 5) (qc (zg cx m (qc (pv 0) (qc zb (qc (pv 2) (qc (pv 3) qn))))) qn))) (zc (zo 4 I (zQ xs (m.mono ∅) (pv 5))) (zc (zo 6 I (zC (qc (zQ wn (m.mono ∅) (pv 5)) (qc (zQ wp (m.mono ∅) (pv 5)) qn)))) (zc (zo 7 I (zg cy m (qc (pv 0) (qc zb (qc (pv 2) (qc (pv 3) qn)))))) (zc (zo 8 I (zg xo m (qc (pv 4) qn))) (zc (yD m6 rfl (xu (K:=K) rfl (pv 7)) (zy (i:=9) I rfl (Or.inl rfl)) (za (zo 8 I (zg d0 m (qc (pv 8) (qc (pv 9) qn)))))) (zc (zo 10 I (zC (qc (zf zA (zf zB (pv 1) zb) (pv 3)) (qc (zf zA (zf zB (pv 1) zb) (pv 2)) (qc (zg w8 m (qc (zf zB (pv 1) zb) qn)) qn))))) (zc (zo 11 I (zE (Ue (K:=K) rfl) (by rfl) T.n_list rfl (QA.pa (qc (pv 7) qn)))) (zc (zn (zl zx (zf zA (zf zB (pv 1) zb) zb) zb) (zc (zo 10 I (zC (qc zb (qc zb (qc zb qn))))) (za (zo 12 I (zg d4 m (qc (pv 11) qn))))) (za (zo 12 I (zg wB m (qc (pv 11) (qc (zp (zt (K:=K) rfl) (pv 10) zb) (qc (zp (zt (K:=K) rfl) (pv 10) zb) (qc (zp (zt (K:=K) rfl) (pv 10) zb) qn)))))))) (zc (zn (PW.pt (v0 (zfO (xy (zH (Yp (K:=K) rfl) (by rfl) T.n_isinstance (by rfl) (QA.pa (qc (pv 12) (qc (Qe (v:=.ty "str") (u:=.type "str") rfl T.n_str rfl rfl) qn)))))) (v0 (zl V6 (pv 12) (zg d5 m (qc (pv 7) (qc (pv 10) qn)))) (vZ (zl (vx (K:=K) rfl m.units) (pv 11) (pv 7)))))) (za (zj zT)) zr) (zc (zn (zl (vx (K:=K) rfl m.units) (vD we m (pv 5) (qc (pv 12) qn)) (yB qn)) (za (zj zT)) zr) (zc (zn (PW.pt (v0 (zl (vx (K:=K) rfl m.units) (zQ xs (m.mono ∅) (pv 5)) (pv 8)) (v0 (xy (zQ wE (m.mono ∅) (pv 5))) (vZ (zl V6 (zQ wG (m.mono ∅) (pv 5)) zh))))) (za (zj zT)) zr) (zc (zn (PW.pt (v0 (zl (vx (K:=K) rfl m.units) (zQ wD (m.mono ∅) (pv 5)) (vH (zmQ (K:=K) rfl) (pv 10) uI (uJ zb))) (vZ (zl V6 (zQ wo (m.mono ∅) (pv 5)) (zp (zt (K:=K) rfl) (pv 10) zb))))) (za (zj zT)) zr) (zc (zn (PW.pt (v0 (zl (vx (K:=K) rfl m.units) (zQ wF (m.mono ∅) (pv 5)) (zC (qc zT (qc zT (qc zT qn))))) (vZ (zl (vx (K:=K) rfl m.units) (zQ wH (m.mono ∅) (pv 5)) (zC (qc zb (qc (zf yi (pv 3) zb) (qc zb (qc (zf yi (pv 2) zb) qn))))))))) (za (zj zT)) zr) (zc (zn (zl (vx (K:=K) rfl m.units) (zC (qc (zQ wn (m.mono ∅) (pv 5)) (qc (zQ wp (m.mono ∅) (pv 5)) qn))) (pv 6)) (za (zj zT)) zr) (zc (zo 13 I (zg w8 m (qc (zf zB (pv 1) zb) qn))) (zc (zn (PW.pt (v0 (zl V6 (zg w9 m (qc (pv 13) qn)) (zg w6 m (qc (pv 13) qn))) (vZ (zl (vx (K:=K) rfl m.units) (vD we m (pv 5) (qc (zg w9 m (qc (pv 13) qn)) qn)) (yB qn))))) (za (zj zT)) zr) (za (zj (V2 (UG zx (zQ wo (m.mono ∅) (pv 5)) (pv 13)) (V1 (UG (zgs (K:=K) rfl m.units) (zQ xs (m.mono ∅) (pv 5)) (pv 8))))))))))))))))))))))))))))))
 .walk_at "rf8"
 rintro _ gQ _ O R ⟨ns,rfl,h⟩;apply gQ;refine jm (λE O'=>Ex3 λ(n:Int) (wd hg:Nat)=>An8 (0<=n) (n<2147483629) (1<=wd) (wd<=8) (1<=hg) (hg<=5) (E=[some (.d (.list (ns.map .int))),some (.d (.int n)),some (.d (.int wd)),some (.d (.int hg)),none,none,none,none,none,none,none,none,none,none]) (O=O')) (λV j=>?_) ?_
 .walk_at "wd8";refine⟨ns,0,rfl,∅,λn n0 n1=>⟨∅,⟨f!"i",f!"i"⟩,j _ _ ⟨n,1+(n%8).toNat,1+(n / 8%5).toNat,n0,n1,f!"i",f!"i",f!"i",f!"i",?_,rfl⟩⟩⟩;rw[show((1+(n%8).toNat:Nat):Int)= 1+n%8 by omega,show((1+(n / 8%5).toNat:Nat):Int)= 1+n / 8%5 by omega]
 rintro _ gQ _ _ ⟨n,wd,hg,n0,n1,w0,w1,h0,h1,rfl,rfl⟩;apply gQ;refine Yw (λE O'=>Ex3 λN S p=>An5 (Scn O O' cN C cQ N S) (S.w=wd) (S.h=hg) (picL S=p) (E=[some (.d (.list (ns.map .int))),some (.d (.int n)),some (.d (.int wd)),some (.d (.int hg)),some (.d (rowsC p)),some (.own N.x),none,none,none,none,none,none,none,none])) (λV j=>?_) ?_
 .walk_at "wd8";refine⟨ns,1,wd,hg,rfl,∅,w0,f!"i",h0,f!"i",λp O1 hl hk Z=>⟨ns,p,wd,hg,rfl,w0,f!"i",h0,f!"i",hl,hk,λN S O2 Q hw hh hp=>j _ _ ⟨N,S,p,⟨Q.a,Q.f,Q.q,λa ha=>?_,Z.trans Q.o⟩,hw,hh,hp,rfl⟩⟩⟩;cases e:O a with
  |none=>rfl
  |some o=>have q:=Q.n a ha;rw[Z a (by rw[e];simp),e]at q;cases q
 rintro _ gQ _ O1 ⟨N,S,p,Q,hw,hh,hp,rfl⟩;apply gQ;refine Xu (λV j=>?_) ?_
 .walk_at "wd8";have xb:∀S:ST,OneQ AscQ S->∀r∈picL S,okR r:=λS hq=>zcj hq;have sh:=zfm (p:=picL S) (xb S Q.q);refine⟨N.dx,_,Q.a.x,yP f!"",N,S,[],rfl,Q.a,Q.f,∅,?_⟩;rw[Jo,hp];rw[hp]at sh;refine⟨_,rfl,_,rfl,xn sh ∅,xn sh ∅,?_⟩;rw[l9 sh.2.2];exact j
 refine yO (λE O'=>Ex2 λM y=>An5 (M.x=N.x) (Scn O O' cN C cQ M y) (y.w=wd) (y.h=hg) (E=[some (.d (.list (ns.map .int))),some (.d (.int n)),some (.d (.int wd)),some (.d (.int hg)),some (.d (rowsC p)),some (.own N.x),none,none,none,none,none,none,none,none])) (λV j=>?_) ?_
 .walk_at "wd8";refine⟨N.dx,_,Q.a.x,yP f!"",ns,7,wd,hg,rfl,∅,w0,f!"i",h0,f!"i",λz hz=>jP rfl Q ⟨hz.r,rfl⟩ hz.t hz.c (by have:=hz.l;omega) λq M O2 ex Y _ _ _=>?_⟩;have wh:=zhA (rs:=rsF [] z.cps.toList) Q.f (UO Za λc hc=>.inr (.inr (by have:=hz.c c hc;omega)));exact j _ _ ⟨M,_,ex,Y,wh.1.trans hw,wh.2.trans hh,rfl⟩
 rintro _ gQ _ O2 ⟨M,y,ex,Y,ys,xl,rfl⟩;apply gQ;have wm:=zcj Y.q;have xb:=zlP Y.q wm;rw[ys,xl]at xb;have sh:=zfm wm;have eM:O2 N.x=some (.ins cN M.dx (scF M.A.x M.rx)):=by rw[<-ex];exact Y.a.x
 refine jm (λE O'=>Ex3 λ(ds es B:List Dd)=>An7 (B=ds++es) (ds.length<=2) (es.length<=4) ((∀d∈ds,okDd wd hg d/\nwD d)) ((∀d∈es,okDd wd hg d/\ywD d)) (Old O2 O') (E=[some (.d (.list (ns.map .int))),some (.d (.int n)),some (.d (.int wd)),some (.d (.int hg)),some (.d (rowsC (picL y))),some (.own N.x),some (.d (.tuple [.int y.kept.length,.list ((srt y.stops).map .int)])),some (.d (.list (B.map ddD))),none,none,none,none,none,none])) (λV j=>?_) ?_
 .walk_at "wd8";exact⟨_,_,eM,yP f!"",M,y,[],by rw[ex],Y.a,Y.f,∅,_,_,eM,yP f!"",M,y,[],by rw[ex],Y.a,Y.f,∅,_,_,eM,yP f!"",M,y,[],by rw[ex],Y.a,Y.f,∅,_,rfl,by show 2<=1000;decide,ns,14,wd,hg,rfl,∅,w0,f!"i",h0,f!"i",λds es O' dl el dk ek Z=>j _ _ ⟨ds,es,_,rfl,dl,el,dk,ek,Z,by rw[Jo];rfl⟩⟩
 rintro _ gQ _ O3 ⟨ds,es,B,xd,dl,el,dk,ek,wv,rfl⟩;apply gQ;have xe:=Y.old wv;have wl:B.length<=6:=by rw[xd,lx];omega
 have wk:∀d∈B,okDd wd hg d/\(nwD d\/ywD d):=λd hd=>by
  rw[xd]at hd;rcases ls.1 hd with hd|hd
  .exact⟨(dk d hd).1,.inl (dk d hd).2⟩
  .exact⟨(ek d hd).1,.inr (ek d hd).2⟩
 refine Yw (λE O'=>Ex3 λq W v9=>An6 (OwnP O' q W (doW wd (picL y) B)) (OkP wd hg (doW wd (picL y) B)) (q∉M.l) ((∀b∈W,b∉M.l)) (Old O3 O') (E=[some (.d (.list (ns.map .int))),some (.d (.int n)),some (.d (.int wd)),some (.d (.int hg)),some (.d (rowsC (picL y))),some (.own N.x),some (.d (.tuple [.int y.kept.length,.list ((srt y.stops).map .int)])),some (.d (.list (B.map ddD))),some (.own q),v9,none,none,none,none])) (λV j=>?_) ?_
 .walk_at "wd8";refine⟨_,picL y,rfl,.inl rfl,by rw[xw];omega,λr m=>by rw[(xb.row r m).1];omega,λq W O' hq Z _ _ wc xO=>⟨_,rfl,?_⟩⟩;refine zS.byG (λi ρ O'=>Ex3 λq W v9=>An6 (OwnP O' q W (doW wd (picL y) (B.take i))) (OkP wd hg (doW wd (picL y) (B.take i))) (q∉M.l) ((∀b∈W,b∉M.l)) (Old O3 O') (ρ=[some (.d (.list (ns.map .int))),some (.d (.int n)),some (.d (.int wd)),some (.d (.int hg)),some (.d (rowsC (picL y))),some (.own N.x),some (.d (.tuple [.int y.kept.length,.list ((srt y.stops).map .int)])),some (.d (.list (B.map ddD))),some (.own q),v9,none,none,none,none])) ⟨q,W,_,hq,xb,xe.nm wc,λb hb=>xe.nm (xO b hb),Z,rfl⟩ (λ_ _ _ _=>rfl) ?_ ?_
  .rintro i x _ gQ _ O5 hx ⟨q,W,v9,hq,L,xr,xk,xq,rfl⟩;refine gQ _ _ λR2 wu=>?_;rw[lw,lw]at hx;cases hd:B[i]? with
   |none=>rw[hd]at hx;cases hx
   |some d=>
    rw[hd]at hx;cases hx;have wi:=(wk d (lE hd)).1;have et:doW wd (picL y) (B.take (i+1))=doD wd (doW wd (picL y) (B.take i)) d:=by obtain⟨hi,e⟩:=lv.1 hd;rw[<-List.take_append_getElem hi,e];unfold doW;rw[mT];rfl
    have g:=xe.old xq;walk_at "wd8";exact⟨_,_,wd,hg,d,rfl,.inr ⟨q,W,rfl,hq⟩,L,f!"i",h0,f!"i",wi,λq' wq O6 zs wa wc xO=>wu _ _ ⟨q',wq,_,by rw[et];exact zs,by rw[et];exact L.do wi,g.nm wc,λb hb=>g.nm (xO b hb),xq.trans wa,rfl⟩⟩
  .rintro _ O5 ⟨q,W,v9,hq,L,xr,xk,xq,rfl⟩;rw[l8,l8,my]at hq L;exact j _ _ ⟨q,W,v9,hq,L,xr,xk,xq,rfl⟩
 rintro _ gQ _ O4 ⟨q,W,v9,hq,L,xr,xk,wx,rfl⟩;apply gQ;have wg:=xe.old wx;have wt:∀d∈B,okT d/\okDd 24 12 d:=λd hd=>zn7 (wk d hd).1 (wk d hd).2 f!"i" f!"i";refine jm (λE O'=>Ex3 λ(r c ik:Nat)=>An5 (r<hg) (c<wd) (ik<512) (O4=O') (E=[some (.d (.list (ns.map .int))),some (.d (.int n)),some (.d (.int wd)),some (.d (.int hg)),some (.d (rowsC (picL y))),some (.own N.x),some (.d (.tuple [.int y.kept.length,.list ((srt y.stops).map .int)])),some (.d (.list (B.map ddD))),some (.own q),v9,some (.d (.tuple [.int r,.int c,.int ik])),some (.d (.list (B.map ddD))),some (.d (.str (wayT B r c ik))),none])) (λV j=>?_) ?_
 .walk_at "wd8";refine⟨⟨f!"i",f!"i"⟩,f!"i",⟨f!"i",f!"i"⟩,f!"i",⟨f!"i",f!"i"⟩,n / 3,rfl,f!"i",λi i0 i1=>?_⟩;obtain⟨ik,rfl⟩:=lO i0;have a0:0<=n / 40%(hg:Int):=mw _ f!"i";have a1:n / 40%(hg:Int)<hg:=m8 _ f!"i";have b0:0<=n / 200%(wd:Int):=mw _ f!"i";have b1:n / 200%(wd:Int)<wd:=m8 _ f!"i";generalize n / 40%(hg:Int)=r at a0 a1;generalize n / 200%(wd:Int)=c at b0 b1;obtain⟨r,rfl⟩:=lO a0;obtain⟨c,rfl⟩:=lO b0;refine⟨_,⟨_,rfl,rfl⟩,by show 3<=1000;decide,B.map ddD,by simp only[seqD,zU,seqL,nS,zV],⟨f!"i",f!"i"⟩,?_⟩;split
  .exact⟨_,B,0,0,0,rfl,λ_ _=>rfl,f!"i",λd hd=>(wt d hd).1,∅,∅,∅,λO' Z=>⟨Z,j _ _ ⟨0,0,0,f!"i",f!"i",∅,rfl,rfl⟩⟩⟩
  .exact⟨_,rfl,_,rfl,_,rfl,_,B,r,c,ik,rfl,λ_ _=>rfl,f!"i",λd hd=>(wt d hd).1,f!"i",f!"i",f!"i",λO' Z=>⟨Z,j _ _ ⟨r,c,ik,f!"i",f!"i",f!"i",rfl,rfl⟩⟩⟩
 rintro _ gQ _ _ ⟨r,c,ik,m,hc,hi,rfl,rfl⟩;apply gQ;refine Xu (λV j=>?_) ?_
 .walk_at "wd8";have sw:=KW (n:=3) (ds:=B.map ddD) λx hx=>by
   obtain⟨d,hd,rfl⟩:=lH.1 hx;exact dd7 (wk d hd).1
  refine⟨B,r,c,ik,rfl,f!"i",λd hd=>(wt d hd).1,f!"i",f!"i",hi,λO' Z=>⟨Z,rfl,rfl,rfl,?_⟩⟩;refine(n8 (l9 (lM rfl))).mpr ⟨_,rfl,_,rfl,xn sw ∅,xn sw ∅,?_⟩;rw[l9 sw.2.2];exact j
 obtain⟨X,eX,hX,hK,x1,x2,x3,x4,x5⟩:=zlO (S:=y) (ds:=ds) (es:=es) (r:=r) (c:=c) (ik:=ik) f!"i" f!"i" (by rw[ys,xl];exact dk) (by rw[ys,xl];exact ek) f!"i" f!"i" hi;have hb:=wg.base;have wb:=zjp hq xr xk;generalize(λa=>if a∈M.l then none else O4 a:OM)=Ob at hb wb;refine yO (λE O'=>Ex1 λH=>An3 (H.x=N.x) (Scn Ob O' cN C cQ H X) (E=[some (.d (.list (ns.map .int))),some (.d (.int n)),some (.d (.int wd)),some (.d (.int hg)),some (.d (rowsC (picL y))),some (.own N.x),some (.d (.tuple [.int y.kept.length,.list ((srt y.stops).map .int)])),some (.d (.list (B.map ddD))),some (.own q),v9,some (.d (.tuple [.int r,.int c,.int ik])),some (.d (.list (B.map ddD))),some (.d (.str (wayT B r c ik))),none])) (λV j=>?_) ?_
 .walk_at "wd8";refine⟨_,_,by rw[<-ex];exact wg.a.x,yP f!"",jP ex hb (zlL wt f!"i" f!"i") zhv (zhz wt f!"i" f!"i") (zlQ (λd hd=>(wt d hd).1) f!"i" f!"i" f!"i") λq' H O5 D g _ zs _=>?_⟩;rw[show(Jm++B.flatMap ddR++[.row 103 [natD (r+1),natD (c+1)]]++[.row 99 (inkN ik)])=zci B r c ik from rfl]at g zs;rw[VY zhv]at zs;rw[xd,eX]at g;refine⟨.list [],by simp only[vC,zs];rfl,_,rfl,f!"",f!"",?_⟩;rw[l9 f!""];exact j _ _ ⟨H,D,g,rfl⟩
 rintro _ gQ _ O5 ⟨H,D,g,rfl⟩;apply gQ;have wA:=wb.old g.o;have G:O5 N.x=some (.ins cN H.dx (scF H.A.x H.rx)):=by rw[<-D];exact g.a.x
 have eP:tPic X []=rowsC (doW wd (picL y) B):=by rw[Jo,x5,ys,xd]
 have U:=zfm (p:=doW wd (picL y) B) λr m=>(L.row r m).2;have dq:=wA.deep;refine Xu (λV j=>?_) ?_
 .refine zj9 (λR3 h3=>?_) (zj9 (λR3 h3=>?_) (zoy (λR3 h3=>?_) j))
  .walk_at "wd8";refine⟨_,_,G,yP f!"",H,X,[],by rw[D],g.a,g.f,∅,?_⟩;rw[eP];refine⟨_,rfl,_,dq,xn U ∅,xn U ∅,?_⟩;rw[U.2.2];exact h3
  .walk_at "wd8";refine⟨_,_,G,yP f!"",H,X,[],by rw[D],g.a,g.f,∅,?_⟩;show R3 X.late _;rw[x3];exact h3
  .walk_at "wd8";exact⟨_,_,G,yP f!"",H,X,[],by rw[D],g.a,g.f,∅,rfl,rfl,rfl,h3⟩
 refine Xu (λV j=>?_) ?_
 .walk_at "wd8";have ec:tCur X []=.tuple [.int r,.int c]:=by unfold tCur;rw[x1,x2]
  have l2:=KY (n:=1) (ds:=[.int (r:Int),.int (c:Int)]) λd hd=>by simp only[lu,lF,ma]at hd;rcases hd with rfl|rfl<;>exact Jp _
  refine⟨_,_,G,yP f!"",H,X,[],by rw[D],g.a,g.f,∅,?_⟩;rw[ec,show ji [PyData.int (r:Int),PyData.int (c:Int),PyData.int (ik:Int)] none (some 2)=[PyData.int (r:Int),PyData.int (c:Int)]from rfl];refine⟨∅,_,rfl,_,rfl,xn l2 ∅,xn l2 ∅,?_⟩;rw[l9 l2.2.2];refine⟨_,_,G,yP f!"",H,X,[],by rw[D],g.a,g.f,∅,_,rfl,?_⟩;show if X.ink=(ik:Int)then _ else _
  rw[l9 x4];exact j
 refine Xu (λV j=>?_) ?_
 .walk_at "wd8";have em:tMod X []=.tuple [.bool true,.bool false,.bool false]:=by unfold tMod;rw[hX.wr,hX.pt,hX.hm]
  have ew:tWin X []=.tuple [.int 0,.int ((hg:Int)-1),.int 0,.int ((wd:Int)-1)]:=by unfold tWin;rw[hX.t,hX.b,hX.l,hX.r,hK.h,hK.w,ys,xl]
  have l1:=KY (n:=1) (ds:=[.bool true,.bool false,.bool false]) λd hd=>by simp only[lu,lF,ma]at hd;rcases hd with rfl|rfl|rfl<;>exact zpk _
  have l2:=KY (n:=1) (ds:=[.int 0,.int ((hg:Int)-1),.int 0,.int ((wd:Int)-1)]) λd hd=>by simp only[lu,lF,ma]at hd;rcases hd with rfl|rfl|rfl|rfl<;>exact Jp _
  refine⟨_,_,G,yP f!"",H,X,[],by rw[D],g.a,g.f,∅,?_⟩;rw[em];refine⟨_,rfl,_,rfl,xn l1 ∅,xn l1 ∅,?_⟩;rw[l9 l1.2.2];refine⟨_,_,G,yP f!"",H,X,[],by rw[D],g.a,g.f,∅,?_⟩;rw[ew];refine⟨_,rfl,_,rfl,xn l2 ∅,xn l2 ∅,?_⟩;rw[l9 l2.2.2];exact j
 refine Xu (λV j=>?_) ?_
 .walk_at "wd8";have l1:=KW (n:=1) (ds:=(srt y.stops).map .int) λd hd=>by
   obtain⟨x,_,rfl⟩:=lH.1 hd;exact Jp _
  have l2:=KY (n:=2) (ds:=[.int (y.kept.length:Int),.list ((srt y.stops).map .int)]) λd hd=>by
   simp only[lu,lF,ma]at hd;rcases hd with rfl|rfl
   .exact⟨(Jp _).1,oJ (Jp _).2.1,(Jp _).2.2⟩
   .exact l1
  refine⟨_,_,G,yP f!"",H,X,[],by rw[D],g.a,g.f,∅,_,_,G,yP f!"",H,X,[],by rw[D],g.a,g.f,∅,?_⟩;rw[show tKep X []=.int (y.kept.length:Int)by unfold tKep;rw[hK.k],show tStp X []=.list ((srt y.stops).map .int)by unfold tStp;rw[hK.s]];refine⟨_,rfl,by show 2<=1000;decide,_,rfl,_,rfl,xn l2 ∅,xn l2 ∅,?_⟩;rw[l9 l2.2.2];exact j
 walk_at "wd8";refine⟨⟨f!"i",f!"i"⟩,n / 9,rfl,f!"i",λi i0 i1=>?_⟩;obtain⟨k2,rfl⟩:=lO i0;have xp:k2<512:=f!"i"
 have q2:OkQ (.row 99 (inkN k2)):=⟨∅,yu k2⟩;have s2:=jO ∅ q2.1 q2.2;refine⟨k2,rfl,xp,λO6 wa=>⟨wa,k2,rfl,xp,λO7 wy=>⟨wy,rfl,rfl,rfl,?_⟩⟩⟩;refine(n8 (l9 (lM rfl))).mpr ⟨_,_,G,yP f!"",k2,rfl,xp,λO8 wz=>⟨wz,jP D g (Rds.row q2) (Y3 ∅) s2.c (by have:=s2.l;omega) λq' M3 O9 xA J _ wj _=>?_⟩⟩;rw[VY (Y3 ∅)]at wj;rw[show runS [Rea.row 99 (inkN k2)] X= { X with ink:=k2 }from zfF xp]at J;have wf:O9 N.x=some (.ins cN M3.dx (scF M3.A.x M3.rx)):=by rw[<-xA];exact J.a.x
 refine⟨.list [],by simp only[vC,wj];rfl,_,rfl,f!"",f!"",?_⟩;rw[l9 f!""];refine⟨_,_,wf,yP f!"",M3,_,[],by rw[xA],J.a,J.f,∅,?_⟩;show if(k2:Int)=(k2:Int)then _ else _
 rw[l9 rfl];refine⟨_,_,wf,yP f!"",M3,_,[],by rw[xA],J.a,J.f,∅,?_⟩;rw[show tPic { X with ink:=(k2:Int) } []=rowsC (doW wd (picL y) B)from eP];refine⟨_,rfl,_,(wb.old J.o).deep,xn U ∅,xn U ∅,?_⟩;rw[U.2.2];exact .inl (h _)
end
section
variable {base:Heap}
def zhB(F:Fun K "copied" "copied" (top 25) f fd)(T:Txt P w K mg C bw):F.k T base 1 JW sCopied:=by
 apply F.okG JW f!"l" (λx=>(za (zj (v1 (xM (N:=["row"]) (n:=1) (js:=[])) rfl (xu (K:=K) rfl (pv 0)) (λ_ _ _ _=>(zy (i:=0) (show List.Nodup (["row"]:List Str)by decide +kernel) rfl (Or.inl rfl))) (λ_ _ _ _=>yG) (λ_ _ _ _=>(zE (Ue (K:=K) rfl) (by rfl) T.n_list rfl (QA.pa (qc (pv 0) qn))))))))
 .walk_at "ref"
 rintro _ gQ _ O R ⟨p,h,w,g,rfl,l,t,q⟩;apply gQ;walk_at "wd";have e:=jV l;rw[Zz]at e;refine⟨_,e,by simp;lia,λv=>match v with|.row _ i=>some (PyData.list ((List.range w).map λj=>celD (g i j)))|_=>none,?_,.inl ?_⟩
 .intro a s us c;obtain⟨i,b,rfl⟩:=lH.mp s;have b:i<h:=by simpa using b
  match us,c with
  |[u],_=>
   have m:=zaR l b;have o:zZ ((List.range w).map λj=>W.d (celD (g i j)))=some ((List.range w).map λj=>celD (g i j)):=by have:=zV ((List.range w).map λj=>celD (g i j));rw[lT]at this;exact this
   simp[seqD,zU,m,o]
 .have r:List.filterMap (λv=>match v with|W.row _ i=>some (PyData.list ((List.range w).map λj=>celD (g i j)))|_=>none) ((List.range h).map (W.row p))=(genG h w g).map .list:=by
   unfold genG;rw[oz,lT];exact congrFun (List.filterMap_eq_map (f:=λi=>PyData.list ((List.range w).map λj=>celD (g i j)))) (List.range h)
  rw[r];exact q
def zck(F:Fun K "roll_rows" "roll_rows" (top 60) f fd)(T:Txt P w K mg C bw)(wy:T.c base 1 "copied" sCopied)(X:T.c base 1 "blank_of" (sBlankOf C)):F.k T base 2 jy (sRoll C):=by
 have t:=jy.nd;apply F.okG jy f!"l" (λQ=>(zc (zo 3 t (zg wy Q (qc (fl K (pv 0)) qn))) (za (yD m6 rfl (Z4 rfl T.n_range (QA.pa (qc (pv 1) (qc (zf zw (fl K (pv 0)) zb) qn)))) (zy (i:=4) t rfl (Or.inl rfl)) (zc (zo 5 t (zf zw (pv 4) (pv 2))) (zc (zo 6 t (uH yF yF (pv 1) (pv 5) (fl K (pv 0)))) (za (yD m6 rfl (Z4 rfl T.n_range (QA.pa (qc (fl K (pv 0)) (qc (zf zw (fl K (pv 0)) zb) qn)))) (zy (i:=7) t rfl (Or.inl rfl)) (za (V4 (yA (xy (pv 6)) (zp (xx (K:=K) rfl) (zp (xx (K:=K) rfl) (pv 3) (pv 5)) (pv 7)) (zg X Q (qc (pv 0) qn))) (V3 (zp (xx (K:=K) rfl) (fl K (pv 0)) (pv 4)) (pv 7) Zs)))))))))))
 .walk_at "ref"
 rintro _ gQ _ O R ⟨a,s,s1,s2,x,dx,p,st,u,S,rfl,E,⟨m,a0,a1⟩,h⟩;apply gQ;have hx:=E.x;have:=m.h2;have:=m.w2;have Y:∀R:WK,R (.d (.list ((genG S.h S.w S.pic).map .list))) O->sCopied [.own p] O R:=λR z=>⟨p,S.h,S.w,S.pic,rfl,E.p,m.h2,z⟩;have:=m.b1;have:=m.l0;have:=m.lr;have:=m.rr;walk_at "go";refine Y _ ?_;walk_at "go"
 .generalize hN:mvP S.pic S.ink a S.bottom S.left S.right s 0 =N;refine zS.rng (λi ρ O'=>Ex4 λG H I q=>An3 (ρ=[some (.own x),some (.d (.int a)),some (.d (.int s)),some (.d (.list ((genG S.h S.w S.pic).map .list))),G,H,I,q]) (But O O' x p) (StAt O' C x dx p st u { S with pic:=goP N S.pic a S.left i 0 })) ⟨_,_,_,_,rfl,But.refl,?_⟩ ?_ ?_
  .rw[zaU (λy A zs=>by rw[<-hN];exact vW ⋯)];exact E
  .rintro i _ V hi ⟨G,H,I,q,rfl,n,l⟩ R1 B;have ys:=l.x;walk_at "go"
   .generalize hin:(decide (a<=a+i+s)&&decide (a+i+s<=S.bottom))=ins;refine zS.rngG (λj ρ O'=>Ex1 λq=>An3 (ρ=[some (.own x),some (.d (.int a)),some (.d (.int s)),some (.d (.list ((genG S.h S.w S.pic).map .list))),some (.d (.int (a+i))),some (.d (.int (a+i+s))),some (.d (.bool ins)),q]) (But O O' x p) (StAt O' C x dx p st u { S with pic:=goP N S.pic a S.left i j })) ⟨_,rfl,n,l⟩ ?_ ?_
    .rintro j _ gQ _ r M ⟨q,rfl,o,b⟩;refine gQ _ _ λR2 D=>?_;replace M:j<(S.right+1-S.left).toNat:=M;have xb:=b.x;have Z:=jV b.p;rw[Zz]at Z;have e2:atI ((List.range S.h).map (W.row p)) (a+(i:Int))=some (W.row p (a+(i:Int)).toNat):=qo ⋯ ⋯;have J:∀c,N (a+(i:Int)).toNat (S.left+(j:Int)).toNat=c->qw r (.row p (a+(i:Int)).toNat) (S.left+j) (.d (celD c))=some (updO r p (.grid (genG S.h S.w (goP N S.pic a S.left i (j+1))))):=by
      rintro _ rfl;rw[Vw b.p (by simp only;lia) ⋯ (by simp only;lia),zaV ⋯ ⋯]
     have U:=λv=>D [some (.own x),some (.d (.int a)),some (.d (.int s)),some (.d (.list ((genG S.h S.w S.pic).map .list))),some (.d (.int (a+i))),some (.d (.int (a+i+s))),some (.d (.bool ins)),v] _ ⟨v,rfl,o.trans But.up,b.pic (f:=goP N S.pic a S.left i (j+1))⟩;have e5:=Uq (O:=r) (ds:=(genG S.h S.w S.pic).map .list);have e7:=Uq (O:=r) (ds:=(List.range S.w).map λj=>celD (S.pic (a+i+s).toNat j));walk_at "go";refine znE (λe=>?_) (λe=>?_)
     .rw[e,mI,nr,nr]at hin;have eN:=J (S.pic (a+i+s).toNat (S.left+(j:Int)).toNat) (by rw[<-hN,UP ⋯ ⋯ ⟨⋯,⋯,⋯,⋯⟩,l9 ⟨hin.1,hin.2,⋯,⋯⟩,Int.add_zero]);have e6:=zih (w:=S.w) (f:=S.pic) (show 0<=a+i+s by lia) (show a+i+s<S.h by lia);have e8:=zaT (g:=S.pic (a+i+s).toNat) (show 0<=S.left+j by lia) (show S.left+j<S.w by lia);walk_at "go";exact U _
     .have eN:=J (blank S.ink) (by rw[<-hN,UP ⋯ ⋯ ⟨⋯,⋯,⋯,⋯⟩,l7 λh=>by rw[lM h.1,lM h.2.1,e]at hin;cases hin]);walk_at "go";refine⟨x,dx,p,st,u,_,rfl,b,?_⟩;walk_at "go";exact U _
    .rintro ρ r ⟨q,rfl,o,b⟩;replace b:StAt r C x dx p st u { S with pic:=goP N S.pic a S.left i (S.right+1-S.left).toNat }:=b;refine B _ _ ⟨_,_,_,_,rfl,o,?_⟩;rw[zc8 (λy A L h2=>by rw[<-hN];exact vW ⋯) (λy A L h2=>by rw[<-hN];exact vW ⋯)]at b;exact b
   .show -(2 ^ 62)<=S.left/\S.left<2 ^ 62/\-(2 ^ 62)<=S.right+1/\S.right+1<2 ^ 62;exact⟨⋯,⋯,⋯,⋯⟩
  .rintro ρ V ⟨G,H,I,q,rfl,n,l⟩;rw[zc9 (λy A L=>by rw[<-hN];exact vW ⋯),<-hN]at l;exact .inl (h _ l n)
 .exact⟨⋯,⋯,⋯,⋯⟩
def Y4{d:Value}(F:FunD K "blank_row" "blank_row" (top 23) [d] f fd)(T:Txt P w K mg C bw):FnOk P w K mg base CX0 1 f fd ["wide","ink"] (liftSp K sBlankRow):=by
 apply F.okG zbL f!"l" (λj=>(za (zj (zmO (xM (N:=["column","ink"]) (n:=1) (js:=[1])) rfl (yl rfl T.n_range (QA.pa (qc (pv 0) qn))) (λ_ _ _ _=>(zy (i:=0) (show List.Nodup (["column","ink"]:List Str)by decide +kernel) rfl (Or.inl rfl))) (λ_ _ _ _=>yG) (λ_ _ _ _=>(zC (qc zh (qc (pv 1) qn))))))))
 .walk_at "ref"
 rintro _ gQ _ O R ⟨a,i,rfl,e,h⟩;apply gQ;walk_at "wd";refine⟨⋯,⋯,λ_=>some (celD (blank i)),?_,λp c=>.inl ?_⟩
 .intro k g us b
  match us,b with
  |[u],_=>simp[zZ,celD,blank]
 .have:=h p c;simpa[oz,oM]using this
def jQ{d:Value}(F:FunD K "blank_picture" "blank_picture" (top 24) [d] f fd)(T:Txt P w K mg C bw)(o:Cal P w K mg base 2 "is_size" [] (liftSp K zjP))(g:Cal P w K mg base 1 "blank_row" [] (liftSp K sBlankRow)) :
  FnOk P w K mg base CX0 3 f fd ["wide","high","ink"] (liftSp K sBlankPic):=by
 apply F.okG VM f!"l" (λl=>(zc (zn (zfO (xy (zg o l (qc (pv 0) (qc (pv 1) qn))))) (za zhF) zr) (za (zj (zmP (xM (N:=["row","wide","ink"]) (n:=1) (js:=[0,2])) rfl (yl rfl T.n_range (QA.pa (qc (pv 1) qn))) (λ_ _ _ _=>(zy (i:=0) (show List.Nodup (["row","wide","ink"]:List Str)by decide +kernel) rfl (Or.inl rfl))) (λ_ _ _ _=>yG) (λ_ _ _ _=>(zg g l (qc (pv 1) (qc (pv 2) qn)))))))))
 .walk_at "ref"
 rintro _ gQ _ O R ⟨a,b,i,rfl,m,j,q,r,h⟩;apply gQ;walk_at "wd";refine⟨a,b,rfl,m,j,q,r,?_⟩;simp;refine⟨⋯,⋯,λ_=>(List.range a).map λ_=>celD (blank i),?_,λp c=>.inl ?_⟩
 .intro k s us e
  match us,e with
  |[u],_=>simp;exact⟨a,i,rfl,j,λp c=>⟨p,c,rfl,m!""⟩⟩
 .have:=h p c;simpa[genG,oM]using this
def Jq(F:Fun K "first_stops" "first_stops" (top 29) f fd)(T:Txt P w K mg C bw):F.k T base 1 Zg sStops:=by
 apply F.okG Zg f!"l" (λr=>(za (zj (zE (zkS (K:=K) rfl rfl) (by rfl) T.n_dict rfl (QA.pa (qc (v1 (xM (N:=["column"]) (n:=1) (js:=[])) rfl (zge rfl T.n_range (QA.pa (qc (jU rfl T.g_TAB_STEP) (qc (pv 0) (qc (jU rfl T.g_TAB_STEP) qn))))) (λ_ _ _ _=>(zy (i:=0) (show List.Nodup (["column"]:List Str)by decide +kernel) rfl (Or.inl rfl))) (λ_ _ _ _=>yG) (λ_ _ _ _=>(zC (qc (pv 0) (qc zT qn))))) qn))))))
 .walk_at "ref"
 rintro _ gQ _ O R ⟨a,rfl,e,c,h⟩;apply gQ;walk_at "wd";refine⟨_,r3w e c,f!"i",λv=>match v with|.d (.int k)=>some (.tuple [.int k,.bool true])|_=>none,?_,?_⟩
 .intro k q us b
  match us,b with
  |[u],_=>simp[zZ]
 .have j:∀(g:Nat->Int) (l:List Nat),List.filterMap ((λv=>match v with|W.d (PyData.int k)=>some (PyData.tuple [PyData.int k,PyData.bool true])|_=>none)∘λk=>W.d (PyData.int (g k))) l=l.map λk=>PyData.tuple [.int (g k),.bool true]:=λg l=>congrFun (List.filterMap_eq_map (f:=λk=>PyData.tuple [.int (g k),.bool true])) l;have m:∀(g:Nat->Int) (l:List Nat),uf (l.map λk=>PyData.tuple [.int (g k),.bool true])=some (l.map λk=>(Sum.inl (g k),PyData.bool true)):=λg l=>by
   induction l with
   |nil=>rfl
   |cons k l ih=>simp[uf,ih]
  rw[j (λk=>4+(k:Int)*4)];refine⟨_,rfl,_,m _ _,by simp;omega,λp o=>.inl ?_⟩;have:=h p o;rw[lT,Ur (by have:=zii c;simpa[stopsW,stK,stopsI,oM]using this)];simpa[stopsW,stK,stopsI,oM]using this
def Jr(F:Fun K "begin" "State.begin" qD f fd)(T:Txt P w K mg C bw)(y:T.c base 1 "first_stops" sStops):F.k T base 2 Zf (QU C):=by
 apply F.okU Zf (by rintro _ _ _ (⟨x,dx,p,w,h,rfl,_⟩|⟨x,dx,p,st,o,S,rfl,_⟩)<;>rfl) (λz=>(zc (fs K (pv 0) zb) (zc (fs K (pv 0) zb) (zc (fs K (pv 0) zT) (zc (fs K (pv 0) zb) (zc (fs K (pv 0) zT) (zc (fs K (pv 0) zT) (zc (fs K (pv 0) zT) (zc (fs K (pv 0) zb) (zc (fs K (pv 0) (zf yi (fl K (pv 0)) zb)) (zc (fs K (pv 0) zb) (zc (fs K (pv 0) (zf yi (fl K (pv 0)) zb)) (zc (fs K (pv 0) (zg y z (qc (fl K (pv 0)) qn))) (zc (fs K (pv 0) (yg qn)) (za (fs K (pv 0) xh))))))))))))))))
 .walk_at "ref"
 rintro _ O R (⟨x,dx,p,a,b,rfl,hx,q,r,h⟩|⟨x,dx,p,st,o,S,rfl,n,q,r,h⟩)
 .rw[QT hx];refine zR T.st.cl T.st.n_row zpu (λ_ h=>h) (by show 3<1000;decide) rfl ?_;refine zR T.st.cl T.st.n_column zpv (λ_ h=>h) (by show 4<1000;decide) rfl ?_;refine zR T.st.cl T.st.n_late zpw (λ_ h=>h) (by show 5<1000;decide) rfl ?_;refine zR T.st.cl T.st.n_ink zpx (λ_ h=>h) (by show 6<1000;decide) rfl ?_;refine zR T.st.cl T.st.n_wrap zpy (λ_ h=>h) (by show 7<1000;decide) rfl ?_;refine zR T.st.cl T.st.n_putting zpz (λ_ h=>h) (by show 8<1000;decide) rfl ?_;refine zR T.st.cl T.st.n_home zpA (λ_ h=>h) (by show 9<1000;decide) rfl ?_;refine zR T.st.cl T.st.n_top zok (λ_ h=>h) (by show 10<1000;decide) rfl ?_;refine zR T.st.cl T.st.n_bottom zol (λ_ h=>by walk_at "wd";walk_at "!zd zev";exact h) (by show 11<1000;decide) rfl ?_;refine zR T.st.cl T.st.n_left zom (λ_ h=>h) (by show 12<1000;decide) rfl ?_;refine zR T.st.cl T.st.n_right zon (λ_ h=>by walk_at "wd";walk_at "!zd zew";exact h) (by show 13<1000;decide) rfl ?_;walk_at "wd";walk_at "!zd zex zjQ";refine⟨a,rfl,q,r,λst g=>?_⟩;have j:st≠x:=λe=>by rw[e,zd]at g;cases g
  rw[ze j]at g;simp[ze (Ne.symm j),zd,zjQ,zjR,oY,yM,T.st.cl,T.st.n_picture,T.st.n_wide,T.st.n_high,T.st.n_row,T.st.n_column,T.st.n_late,T.st.n_ink,T.st.n_wrap,T.st.n_putting,T.st.n_home,T.st.n_top,T.st.n_bottom,T.st.n_left,T.st.n_right,T.st.n_stops,T.st.n_kept,T.st.n_last,ya,xc,xf,xz,yn,yX,xB,yY,yb,yZ,xC,yo,y0,yC,yr,y6,xD,xi,yd,yI,xj,yJ,zY,yK,xm,ye,yL,yt,y7];intro o d;have i:o≠x:=λe=>by rw[e,zd]at d;cases d
  rw[ze i]at d;have l:o≠st:=λe=>by rw[e,zd]at d;cases d
  rw[ze l,ze i]at d;simp[ze (Ne.symm i),zd,yW,zjR,zoo,oY,yM,T.st.cl,T.st.n_picture,T.st.n_wide,T.st.n_high,T.st.n_row,T.st.n_column,T.st.n_late,T.st.n_ink,T.st.n_wrap,T.st.n_putting,T.st.n_home,T.st.n_top,T.st.n_bottom,T.st.n_left,T.st.n_right,T.st.n_stops,T.st.n_kept,T.st.n_last,ya,xc,xf,xz,yn,yX,xB,yY,yb,yZ,xC,yo,y0,yC,yr,y6,xD,xi,yd,yI,xj,yJ,zY,yK,xm,ye,yL,yt,y7];refine .inl (h st o _ g d zd ?_ ?_ λb m s t=>?_)
  .rw[ze j,ze (Ne.symm l),ze j,zd]
  .rw[ze i,zd]
  .rw[ze m,ze t,ze m,ze s,ze m]
 .rw[QT n.x];refine zR T.st.cl T.st.n_row xi (λ_ h=>h) (by show 17<1000;decide) rfl ?_;refine zR T.st.cl T.st.n_column yd (λ_ h=>h) (by show 17<1000;decide) rfl ?_;refine zR T.st.cl T.st.n_late yI (λ_ h=>h) (by show 17<1000;decide) rfl ?_;refine zR T.st.cl T.st.n_ink xj (λ_ h=>h) (by show 17<1000;decide) rfl ?_;refine zR T.st.cl T.st.n_wrap yJ (λ_ h=>h) (by show 17<1000;decide) rfl ?_;refine zR T.st.cl T.st.n_putting zY (λ_ h=>h) (by show 17<1000;decide) rfl ?_;refine zR T.st.cl T.st.n_home yK (λ_ h=>h) (by show 17<1000;decide) rfl ?_;refine zR T.st.cl T.st.n_top xm (λ_ h=>h) (by show 17<1000;decide) rfl ?_;refine zR T.st.cl T.st.n_bottom ye (λ_ h=>by walk_at "wd";walk_at "!zd";exact h) (by show 17<1000;decide) rfl ?_;refine zR T.st.cl T.st.n_left yL (λ_ h=>h) (by show 17<1000;decide) rfl ?_;refine zR T.st.cl T.st.n_right yt (λ_ h=>by walk_at "wd";walk_at "!zd";exact h) (by show 17<1000;decide) rfl ?_;walk_at "wd";walk_at "!zd";refine⟨S.w,rfl,q,r,λst' g=>?_⟩;have j:st'≠x:=λe=>by rw[e,zd]at g;cases g
  rw[ze j]at g;refine⟨C,dx,_,(ze (Ne.symm j)).trans zd,T.st.cl,T.st.n_stops,by show 17<1000;lia,λkp' d=>?_⟩;have i:kp'≠x:=λe=>by rw[e,zd]at d;cases d
  rw[ze i]at d;have l:kp'≠st':=λe=>by rw[e,zd]at d;cases d
  rw[ze l,ze i]at d;have v:p≠st':=λe=>by rw[<-e,n.p]at g;cases g
  have u:p≠kp':=λe=>by rw[<-e,n.p]at d;cases d
  refine⟨C,dx,_,(ze (Ne.symm i)).trans zd,T.st.cl,T.st.n_kept,by show 17<1000;lia,T.st.cl,T.st.n_last,by show 17<1000;lia,.inl (h st' kp' _ g d ⟨zd,?_,?_,?_⟩ λb m s t=>?_)⟩
  .rw[ze (Ne.symm n.xp),ze u,ze (Ne.symm n.xp),ze v,ze (Ne.symm n.xp)];exact n.p
  .rw[ze j,ze (Ne.symm l),ze j,zd];rfl
  .rw[ze i,zd];rfl
  .rw[ze m,ze t,ze m,ze s,ze m]
def Kn(F:Fun K "__init__" "State.__init__" vM f fd)(T:Txt P w K mg C bw)(t:Cal P w K mg base 3 "blank_picture" [.int 0] (liftSp K sBlankPic))(s:CalT P w K mg base 2 "begin" C (liftSp K (QU C))):F.k T base 4 qU (sInit C):=by
 apply F.okG qU f!"l" (λz=>(zc (fs K (pv 0) (zg t z (qc (pv 1) (qc (pv 2) qn)))) (zc (fs K (pv 0) (pv 1)) (zc (fs K (pv 0) (pv 2)) (za (zm (zQ s (z.mono ∅) (pv 0))))))))
 .walk_at "ref"
 rintro _ gQ _ O R ⟨x,dx,a,b,rfl,hx,u,v,B,D,h⟩;apply gQ;walk_at "wd";refine⟨a,b,0,rfl,u,v,B,D,λp n=>?_⟩;have j:p≠x:=λe=>by rw[e,hx]at n;cases n
 simp[ze (Ne.symm j),hx,zpr,zps,zpt,zeu,oY,yM,T.st.cl,T.st.n_picture,T.st.n_wide,T.st.n_high,T.st.n_row,T.st.n_column,T.st.n_late,T.st.n_ink,T.st.n_wrap,T.st.n_putting,T.st.n_home,T.st.n_top,T.st.n_bottom,T.st.n_left,T.st.n_right,T.st.n_stops,T.st.n_kept,T.st.n_last,ya,xc,xf,xz,yn,yX,xB,yY,yb,yZ,xC,yo,y0,yC,yr,y6,xD,xi,yd,yI,xj,yJ,zY,yK,xm,ye,yL,yt,y7];refine⟨by rintro c d (⟨rfl,_⟩|⟨rfl,_⟩|⟨rfl,_⟩)<;>decide,.inl ⟨x,dx,p,a,b,rfl,zd,u,v,λst o O' i g E G H y=>.inl ?_⟩⟩;have r:st≠x:=λe=>by rw[e,zd]at i;cases i
 rw[ze r]at i;have m:st≠p:=λe=>by rw[e,zd]at i;cases i
 rw[ze m]at i;have q:o≠x:=λe=>by rw[e,zd]at g;cases g
 rw[ze q]at g;have l:o≠p:=λe=>by rw[e,zd]at g;cases g
 rw[ze l]at g;refine h p st o O' n i g ⟨E,?_,G,H⟩ λc A I J L=>?_
 .rw[y p j (Ne.symm m) (Ne.symm l),ze j,zd];rfl
 .rw[y c A J L,ze A,ze I]
def zfJ(F:Fun K "roll_up" "roll_up" (top 61) f fd)(T:Txt P w K mg C bw)(ad:T.c base 2 "roll_rows" (sRoll C)):F.k T base 3 U1 (sRoll C):=by
 apply F.okG U1 f!"l" (λg=>(za (zm (zg ad g (qc (pv 0) (qc (pv 1) (qc (pv 2) qn)))))))
 .walk_at "ref"
 rintro _ gQ _ O R ⟨a,s,l,m,x,dx,p,st,j,S,rfl,i,e,h⟩;apply gQ;walk_at "wd";exact⟨a,s,l,m,x,dx,p,st,j,S,rfl,i,e,λO' b d=>.inl (h O' b d)⟩
def Ko(F:Fun K "move_cells" "move_cells" (top 45) f fd)(T:Txt P w K mg C bw)(vy:T.c base 1 "edges" (sEdges C))(L:T.c base 1 "blank_of" (sBlankOf C)):F.k T base 2 qF (sMvC C):=by
 have m:=qF.nd;apply F.okG qF f!"l" (λI=>(zc (zo 2 m (zp (zt (K:=K) rfl) (zg vy I (qc (pv 0) qn)) zb)) (zc (zo 3 m (zp (xx (K:=K) rfl) (fl K (pv 0)) (fl K (pv 0)))) (zc (zo 4 m (zE (Ue (K:=K) rfl) (by rfl) T.n_list rfl (QA.pa (qc (pv 3) qn)))) (zc (yD m6 rfl (Z4 rfl T.n_range (QA.pa (qc (fl K (pv 0)) (qc (zf zw (pv 2) zb) qn)))) (zy (i:=5) m rfl (Or.inl rfl)) (zc (zo 6 m (zf zw (pv 5) (pv 1))) (zc (zo 7 m (uH yF yF (fl K (pv 0)) (pv 6) (pv 2))) (za (V4 (yA (xy (pv 7)) (zp (xx (K:=K) rfl) (pv 4) (pv 6)) (zg L I (qc (pv 0) qn))) (V3 (pv 3) (pv 5) Zs)))))) (za (fs K (pv 0) zT)))))))
 .walk_at "ref"
 rintro _ gQ _ O R ⟨s,s1,s2,x,dx,p,st,E,S,rfl,r,b,h⟩;apply gQ;have hx:=r.x;have:=b.h2;have:=b.w2;have:=b.r0;have:=b.r1;have:=b.c0;have X:=jW b;have M:=jV r.p;rw[Zz]at M;have Q:atI ((List.range S.h).map (W.row p)) S.row=some (W.row p S.row.toNat):=qo b.r0 b.r1;have y:=zaR r.p (i:=S.row.toNat) ⋯;have z:zZ ((List.range S.w).map λj=>W.d (celD (S.pic S.row.toNat j)))=some ((List.range S.w).map λj=>celD (S.pic S.row.toNat j)):=by have:=zV ((List.range S.w).map λj=>celD (S.pic S.row.toNat j));rw[lT]at this;exact this
 have U:seqD O (W.row p S.row.toNat)=some ((List.range S.w).map λj=>celD (S.pic S.row.toNat j)):=by simp[seqD,zU,y,z]
 generalize hN:mvP S.pic S.ink S.row S.row S.col (eR S) 0 s=N;walk_at "go";refine⟨x,dx,p,st,E,S,rfl,r,?_⟩;walk_at "go"
 .refine zS.rng (λj ρ O'=>Ex3 λn o q=>An3 (ρ=[some (.own x),some (.d (.int s)),some (.d (.int (eR S))),some (.row p S.row.toNat),some (.d (.list ((List.range S.w).map λj=>celD (S.pic S.row.toNat j)))),n,o,q]) (But O O' x p) (StAt O' C x dx p st E { S with pic:=goP N S.pic S.row S.col 0 j })) ⟨_,_,_,rfl,But.refl,?_⟩ ?_ ?_
  .rw[zaU (λu v Z=>by rw[<-hN];exact vW ⋯)];exact r
  .rintro j _ t hj ⟨n,o,q,rfl,B,a⟩ R2 A;have zs:=a.x;have G:∀c,N S.row.toNat (S.col+(j:Int)).toNat=c->qw t (.row p S.row.toNat) (S.col+j) (.d (celD c))=some (updO t p (.grid (genG S.h S.w (goP N S.pic S.row S.col 0 (j+1))))):=by
    rintro _ rfl;rw[Vw a.p (by simp only;lia) ⋯ (by simp only;lia),zaV ⋯ ⋯]
   have J:=λn o q=>A [some (.own x),some (.d (.int s)),some (.d (.int (eR S))),some (.row p S.row.toNat),some (.d (.list ((List.range S.w).map λj=>celD (S.pic S.row.toNat j)))),n,o,q] _ ⟨n,o,q,rfl,B.trans But.up,a.pic (f:=goP N S.pic S.row S.col 0 (j+1))⟩;have e5:=Uq (O:=t) (ds:=(List.range S.w).map λj=>celD (S.pic S.row.toNat j));walk_at "go";refine znE (λe=>?_) (λe=>?_)
   .rw[mI,nr,nr]at e;replace e:S.col<=S.col+j+s/\S.col+j+s<=eR S:=e;have V:=G (S.pic S.row.toNat (S.col+j+s).toNat) (by rw[<-hN,UP ⋯ ⋯ ⟨⋯,⋯,⋯,⋯⟩,l9 ⟨⋯,⋯,e.1,e.2⟩,Int.add_zero]);have e6:=zaT (g:=S.pic S.row.toNat) (show 0<=S.col+j+s by lia) (show S.col+j+s<S.w by lia);walk_at "go";exact J _ _ _
   .have V:=G (blank S.ink) (by rw[<-hN,UP ⋯ ⋯ ⟨⋯,⋯,⋯,⋯⟩,l7 λh=>by rw[lM h.2.2.1,lM h.2.2.2]at e;cases e]);walk_at "go";refine⟨x,dx,p,st,E,_,rfl,a,?_⟩;walk_at "go";exact J _ _ _
  .rintro ρ O2 ⟨n,o,q,rfl,D,l⟩;rw[zc8 (λu v H Y=>by rw[<-hN];exact vW ⋯) (λu v H Y=>by rw[<-hN];exact vW ⋯),zc9 (λu v H=>by rw[<-hN];exact vW ⋯),<-hN]at l;have ys:=l.x;walk_at "go";exact .inl (h _ (l.fld rfl rfl rfl) (D.trans But.ux))
 .exact⟨⋯,⋯,⋯,⋯⟩
def zcl(F:Fun K "put_cells" "put_cells" (top 46) f fd)(T:Txt P w K mg C bw)(m:T.c base 1 "at_least_one" qx)(d:T.c base 2 "move_cells" (sMvC C)):F.k T base 3 YN (sPutC C):=by
 apply F.okG YN f!"l" (λb=>(za (zm (zg d b (qc (pv 0) (qc (zdU zfT (zg m b (qc (pv 1) qn))) qn))))))
 .walk_at "ref"
 rintro _ gQ _ O R ⟨n,a,x,dx,p,st,l,S,rfl,j,i,h⟩;apply gQ;have o:=@vV n;have q:=Xn a;walk_at "wd";exact⟨a,_,⋯,⋯,x,dx,p,st,l,S,rfl,j,i,λO' e g=>.inl (h O' e g)⟩
def zcO(F:Fun K "line_end" "line_end" (top 74) f fd)(T:Txt P w K mg C bw)(s:T.c base 2 "to_left_edge" (sLeft C))(l:T.c base 3 "roll_up" (sRoll C)):F.k T base 4 XU (sLineE C):=by
 apply F.okG XU f!"l" (λi=>(zc (zm (zg s i (qc (pv 0) qn))) (za (zn (zl zx (fl K (pv 0)) (fl K (pv 0))) (za (zm (zg l i (qc (pv 0) (qc (fl K (pv 0)) (qc zb qn)))))) (za (zn (zl Y8 (fl K (pv 0)) (zf yi (fl K (pv 0)) zb)) (za (fs K (pv 0) (zf zw (fl K (pv 0)) zb))) zr))))))
 .walk_at "ref"
 rintro _ gQ _ O R ⟨x,dx,p,st,j,S,rfl,q,o,h⟩;apply gQ;have b:=o.left;have:=b.tb;walk_at "go";refine⟨x,dx,p,st,j,S,rfl,q,trivial,λt a d=>?_⟩;have r:=a.x;simp only[lineE]at h;walk_at "go";refine j4 (λe=>?_) (λe=>?_)
 .rw[l9 e]at h;walk_at "go";exact⟨_,1,∅,∅,x,dx,p,st,j,_,rfl,a,⟨b,b.t0,f!"i"⟩,λO' m n=>.inl (h O' m (d.trans n))⟩
 .rw[l7 e]at h;walk_at "go";refine j4 (λg=>?_) (λg=>?_)
  .rw[l9 g]at h;walk_at "go";exact .inl (h _ (a.fld rfl rfl rfl) (d.trans But.ux))
  .rw[l7 g]at h;exact .inl (h _ a d)
def zcP(F:Fun K "put_sign" "put_sign" (top 75) f fd)(T:Txt P w K mg C bw)(J:T.c base 4 "line_end" (sLineE C))(Z:T.c base 3 "put_cells" (sPutC C))(Y:T.c base 1 "edges" (sEdges C)):F.k T base 5 XV (sPutSign C):=by
 apply F.okG XV f!"l" (λE=>(zc (zn (PW.pt (V0 (xy (fl K (pv 0))) (Y6 (xy (fl K (pv 0)))))) (za (zm (zg J E (qc (pv 0) qn)))) zr) (zc (fs K (pv 0) zT) (zc (zn (xy (fl K (pv 0))) (za (zm (zg Z E (qc (pv 0) (qc zb qn))))) zr) (zc (V4 (zC (qc (pv 1) (qc (fl K (pv 0)) qn))) (V3 (zp (xx (K:=K) rfl) (fl K (pv 0)) (fl K (pv 0))) (fl K (pv 0)) Zs)) (zc (fs K (pv 0) (pv 1)) (za (zn (zl Y8 (fl K (pv 0)) (zp (zt (K:=K) rfl) (zg Y E (qc (pv 0) qn)) zb)) (za (fs K (pv 0) (zf zw (fl K (pv 0)) zb))) (za (fs K (pv 0) (fl K (pv 0))))))))))))
 .walk_at "ref"
 rintro _ gQ _ O R ⟨c,x,dx,p,st,l,S,rfl,G,H,h⟩;apply gQ;have hx:=G.x;rw[vJ]at h;refine yO (λb O'=>An3 (b=[some (.own x),some (.d (.str c))]) (But O O' x p) (StAt O' C x dx p st l (pA S))) (λt a=>?_) ?_
 .walk_at "go";refine UQ (λe=>?_) (λe=>?_)
  .rw[mI]at e;rw[pA,l9 e]at a;walk_at "go";exact⟨x,dx,p,st,l,S,rfl,G,H,λO' u v=>a _ _ ⟨rfl,v,u⟩⟩
  .rw[pA,l7 λz=>by rw[z.1,z.2]at e;cases e]at a;exact a _ _ ⟨rfl,But.refl,G⟩
 rintro _ gQ _ O1 ⟨rfl,A,r⟩;apply gQ;have y:Bds (pA S):=H.pA;refine yO (λb O'=>An3 (b=[some (.own x),some (.d (.str c))]) (But O O' x p) (StAt O' C x dx p st l (pB (pA S)))) (λt a=>?_) ?_
 .have N:=r.x;walk_at "go";exact a _ _ ⟨rfl,A.trans But.ux,r.fld (S':=pB (pA S)) rfl rfl rfl⟩
 rintro _ gQ _ O2 ⟨rfl,o,m⟩;apply gQ;have n:=y.pB;generalize pB (pA S)=S2 at *;refine yO (λb O'=>An3 (b=[some (.own x),some (.d (.str c))]) (But O O' x p) (StAt O' C x dx p st l (pC S2))) (λt a=>?_) ?_
 .have Q:=m.x;walk_at "go";refine UQ (λe=>?_) (λe=>?_)
  .rw[pC,l9 e]at a;walk_at "go";exact⟨.int 1,⟨∅,∅⟩,x,dx,p,st,l,S2,rfl,m,n,λO' u v=>a _ _ ⟨rfl,o.trans v,u⟩⟩
  .rw[pC,l7 (by rw[e];decide)]at a;exact a _ _ ⟨rfl,o,m⟩
 rintro _ gQ _ I ⟨rfl,B,i⟩;apply gQ;have g:=n.pC;generalize pC S2=S3 at *;refine yO (λb O'=>An3 (b=[some (.own x),some (.d (.str c))]) (But O O' x p) (StAt O' C x dx p st l (pD c S3))) (λt a=>?_) ?_
 .have U:=i.x;have:=g.r0;have:=g.r1;have L:=jV i.p;rw[Zz]at L;have e2:atI ((List.range S3.h).map (W.row p)) S3.row=some (W.row p S3.row.toNat):=qo g.r0 g.r1;have e3:qw I (.row p S3.row.toNat) S3.col (.d (.tuple [.str c,.int S3.ink]))=_:=Vw (c:=(c,S3.ink)) i.p ⋯ g.c0 g.c1;walk_at "go";exact a _ _ ⟨rfl,B.trans But.up,i.pic⟩
 rintro _ gQ _ O4 ⟨rfl,D,s⟩;apply gQ;have M:Bds (pD c S3):=g.pD;generalize pD c S3=S4 at *;have V:=s.x;refine yO (λb O'=>An3 (b=[some (.own x),some (.d (.str c))]) (But O O' x p) (StAt O' C x dx p st l (pE c S4))) (λt a=>?_) ?_
 .walk_at "go";exact a _ _ ⟨rfl,D.trans But.ux,s.fld (S':=pE c S4) rfl rfl rfl⟩
 rintro _ gQ _ O5 ⟨rfl,q,j⟩;apply gQ;generalize pE c S4=S5 at *;have X:=j.x;simp only[pF]at h;walk_at "go";refine⟨x,dx,p,st,l,S5,rfl,j,?_⟩;walk_at "go";refine j4 (λe=>?_) (λe=>?_)
 .rw[l9 e]at h;walk_at "go";exact .inl (h _ (j.fld rfl rfl rfl) (q.trans But.ux))
 .rw[l7 e]at h;walk_at "go";exact .inl (h _ (j.fld rfl rfl rfl) (q.trans But.ux))
seal PE PS PSs PT PA in
def zcm(F:Fun K "roll_down" "roll_down" (top 62) f fd)(T:Txt P w K mg C bw)(ad:T.c base 2 "roll_rows" (sRoll C)):F.k T base 3 YQ (sRollD C):=by
 apply F.okG YQ f!"l" (λg=>(za (zm (zg ad g (qc (pv 0) (qc (pv 1) (qc (zdU zfT (pv 2)) qn)))))))
 .walk_at "ref"
 rintro _ gQ _ O R ⟨a,s,l,m,x,dx,p,st,j,S,rfl,i,e,h⟩;apply gQ;walk_at "go";exact⟨a,_,⋯,⋯,x,dx,p,st,j,S,rfl,i,e,λO' b d=>.inl (h O' b d)⟩
seal PE PS PSs PT PA in
def zcn(F:Fun K "put_lines" "put_lines" (top 64) f fd)(T:Txt P w K mg C bw)(q:T.c base 1 "at_least_one" qx)(i:T.c base 3 "roll_down" (sRollD C)):F.k T base 4 YR (sPutL C):=by
 apply F.okG YR f!"l" (λg=>(zc (zn (vF yF yF (fl K (pv 0)) (fl K (pv 0)) (fl K (pv 0))) (za (zm (zg i g (qc (pv 0) (qc (fl K (pv 0)) (qc (zg q g (qc (pv 1) qn)) qn)))))) zr) (za (fs K (pv 0) zT))))
 .walk_at "ref"
 rintro _ gQ _ O R ⟨n,l,x,dx,p,st,o,S,rfl,a,d,h⟩;apply gQ;have hx:=a.x;have r:=@vV n;have s:=Xn l;have:=d.r0;simp only[lineS]at h;walk_at "go";refine zhb (λe=>?_) (λe=>?_)
 .rw[l9 e]at h;walk_at "go";refine⟨_,_,⋯,⋯,x,dx,p,st,o,S,rfl,a,⟨d,⋯,e.2⟩,λO' b j=>?_⟩;have m:=b.x;walk_at "go";exact .inl (h _ (b.fld rfl rfl rfl) (j.trans But.ux))
 .rw[l7 e]at h;walk_at "go";exact .inl (h _ (a.fld rfl rfl rfl) But.ux)
seal PE PS PSs PT PA in
def zco(F:Fun K "cut_lines" "cut_lines" (top 65) f fd)(T:Txt P w K mg C bw)(q:T.c base 1 "at_least_one" qx)(i:T.c base 3 "roll_up" (sRoll C)):F.k T base 4 YS (sCutL C):=by
 apply F.okG YS f!"l" (λg=>(zc (zn (vF yF yF (fl K (pv 0)) (fl K (pv 0)) (fl K (pv 0))) (za (zm (zg i g (qc (pv 0) (qc (fl K (pv 0)) (qc (zg q g (qc (pv 1) qn)) qn)))))) zr) (za (fs K (pv 0) zT))))
 .walk_at "ref"
 rintro _ gQ _ O R ⟨n,l,x,dx,p,st,o,S,rfl,a,d,h⟩;apply gQ;have hx:=a.x;have r:=@vV n;have s:=Xn l;have:=d.r0;simp only[lineS]at h;walk_at "go";refine zhb (λe=>?_) (λe=>?_)
 .rw[l9 e]at h;walk_at "go";refine⟨_,_,f!"i",f!"i",x,dx,p,st,o,S,rfl,a,⟨d,f!"i",e.2⟩,λO' b j=>?_⟩;have m:=b.x;walk_at "go";exact .inl (h _ (b.fld rfl rfl rfl) (j.trans But.ux))
 .rw[l7 e]at h;walk_at "go";exact .inl (h _ (a.fld rfl rfl rfl) But.ux)
end
/---/abbrev EF(K:W.Frag)(mg:Str->Option Value)(x:Str)(st:Stmt):Prop:=∃f fd,Fun K x x st f fd/\mg x=some (.ref f)
def fk{g kV doc j b e:Value}{i d:Option Addr}{m:Array (Option Value)}(X:K.In h)(G:h.Ns mainGlobals mg)
  (a:W.nsIn K mainGlobals x=some (some (.ref f)):=by k_is)(l:K.lookup f=some ⟨g,i,.func (W.fnOf x x (defArgs st) (defBody st) (defScope st) .none kV doc j d b e),m⟩:=by k_is)(c:W.codeIn K b x=true:=by k_is)(k:W.keepIn K (.ref f)=true:=by k_is) :
  EF K mg x st:=⟨f,_,zag (st:=st) l c k,W.mg_of X G a⟩
def fkD{D:Addr}{i kV doc m b g:Value}{j d:Option Addr}{o:Array (Option Value)}{oD:Obj}{ds:List Value}(X:K.In h)(G:h.Ns mainGlobals mg)
  (a:W.nsIn K mainGlobals x=some (some (.ref f)):=by k_is)(l:K.lookup f=some ⟨i,j,.func (W.fnOf x x (defArgs st) (defBody st) (defScope st) (.ref D) kV doc m d b g),o⟩:=by k_is)(c:W.codeIn K b x=true:=by k_is)(k:W.keepIn K (.ref f)=true:=by k_is)
  (t:K.lookup D=some oD:=by k_is)(e:oD.data=.seq ds.toArray n:=by rfl):∃f fd,FunD K x x st ds f fd/\mg x=some (.ref f):=⟨f,_,⟨⟨i,j,kV,doc,m,d,b,g,o,D,oD,n,rfl,l,c,t,e⟩,k⟩,W.mg_of X G a⟩
def lx1(e:us.length= 1):∃a,us=[a]:=lU.1 e
def lx2(e:us.length= 2):∃a b,us=[a,b]:=by
 cases us with
 |nil=>cases e
 |cons a us=>obtain⟨b,rfl⟩:=lx1 (Nat.succ.inj e);exact⟨a,b,rfl⟩
def lx3(e:us.length= 3):∃a b c,us=[a,b,c]:=by
 cases us with
 |nil=>cases e
 |cons a us=>obtain⟨b,c,rfl⟩:=lx2 (Nat.succ.inj e);exact⟨a,b,c,rfl⟩
def lx4(e:us.length= 4):∃a b c d,us=[a,b,c,d]:=by
 cases us with
 |nil=>cases e
 |cons a us=>obtain⟨b,c,d,rfl⟩:=lx3 (Nat.succ.inj e);exact⟨a,b,c,d,rfl⟩
def zjq{q:Str}{b:List Str}(i:b.length= 1)(g:∀kV doc f d a e c,bindArgs (W.fnOf x q (defArgs st) (defBody st) (defScope st) .none kV doc f d a e) ⟨[c],[]⟩=pure (b.zip [c])):∀kV doc f d a e us,us.length=b.length->bindArgs (W.fnOf x q (defArgs st) (defBody st) (defScope st) .none kV doc f d a e) ⟨us,[]⟩=pure (b.zip us):=λ_ _ _ _ _ _ us h=>by
 obtain⟨c,rfl⟩:=lx1 (h.trans i);exact g _ _ _ _ _ _ _
def zjr{q:Str}{b:List Str}(j:b.length= 2)(i:∀kV doc g e a f c d,bindArgs (W.fnOf x q (defArgs st) (defBody st) (defScope st) .none kV doc g e a f) ⟨[c,d],[]⟩=pure (b.zip [c,d])):∀kV doc g e a f us,us.length=b.length->bindArgs (W.fnOf x q (defArgs st) (defBody st) (defScope st) .none kV doc g e a f) ⟨us,[]⟩=pure (b.zip us):=λ_ _ _ _ _ _ us h=>by
 obtain⟨c,d,rfl⟩:=lx2 (h.trans j);exact i _ _ _ _ _ _ _ _
def zjs{q:Str}{b:List Str}(k:b.length= 3)(j:∀kV doc i f a g c d e,bindArgs (W.fnOf x q (defArgs st) (defBody st) (defScope st) .none kV doc i f a g) ⟨[c,d,e],[]⟩=pure (b.zip [c,d,e])):∀kV doc i f a g us,us.length=b.length->bindArgs (W.fnOf x q (defArgs st) (defBody st) (defScope st) .none kV doc i f a g) ⟨us,[]⟩=pure (b.zip us):=λ_ _ _ _ _ _ us h=>by
 obtain⟨c,d,e,rfl⟩:=lx3 (h.trans k);exact j _ _ _ _ _ _ _ _ _
def zjt{q:Str}{b:List Str}(l:b.length= 4)(k:∀kV doc j g a i c d e f,bindArgs (W.fnOf x q (defArgs st) (defBody st) (defScope st) .none kV doc j g a i) ⟨[c,d,e,f],[]⟩=pure (b.zip [c,d,e,f])):∀kV doc j g a i us,us.length=b.length->bindArgs (W.fnOf x q (defArgs st) (defBody st) (defScope st) .none kV doc j g a i) ⟨us,[]⟩=pure (b.zip us):=λ_ _ _ _ _ _ us h=>by
 obtain⟨c,d,e,f,rfl⟩:=lx4 (h.trans l);exact k _ _ _ _ _ _ _ _ _ _
def zk(P:Program)(w:World)(a:Heap){k:Nat}{b:List Str}{sp:Sp}(e:EF K mg x st)(i:∀{f fd},Fun K x x st f fd->FnOk P w K mg a CX0 k f fd b sp)(h:∀kV doc j d c g us,us.length=b.length->bindArgs (W.fnOf x x (defArgs st) (defBody st) (defScope st) .none kV doc j d c g) ⟨us,[]⟩=pure (b.zip us):=by first|exact zjq rfl λ_ _ _ _ _ _ _=>rfl|exact zjr rfl λ_ _ _ _ _ _ _ _=>rfl|exact zjs rfl λ_ _ _ _ _ _ _ _ _=>rfl|exact zjt rfl λ_ _ _ _ _ _ _ _ _ _=>rfl):Cal P w K mg a k x [] sp:=by
 obtain⟨f,fd,F,m⟩:=e;exact⟨f,fd,b,[],i F,m,F.kp,F.binds h,.nil⟩
/---/abbrev EM(K:W.Frag)(C:Addr)(x q:Str)(st:Stmt):Prop:=∃f fd,Meth K C x f/\Fun K x q st f fd
/---/abbrev EI(K:W.Frag)(C:Addr)(q:Str)(st:Stmt):Prop:=∃f fd,Mk K C f/\Fun K "__init__" q st f fd
def z6{a:Heap}{k:Nat}{q:Str}{b:List Str}{sp:Sp}(i:Cls K C)(e:EM K C x q st)(j:∀{f fd},Fun K x q st f fd->FnOk P w K mg a CX0 k f fd b sp)(h:∀kV doc l d c g us,us.length=b.length->bindArgs (W.fnOf x q (defArgs st) (defBody st) (defScope st) .none kV doc l d c g) ⟨us,[]⟩=pure (b.zip us):=by first|exact zjq rfl λ_ _ _ _ _ _ _=>rfl|exact zjr rfl λ_ _ _ _ _ _ _ _=>rfl|exact zjs rfl λ_ _ _ _ _ _ _ _ _=>rfl|exact zjt rfl λ_ _ _ _ _ _ _ _ _ _=>rfl):CalT P w K mg a k x C sp:=by
 obtain⟨f,fd,M,F⟩:=e;exact⟨f,fd,b,i,M,j F,F.binds h⟩
def Zm(P:Program)(w:World)(a:Heap){k:Nat}{q:Str}{b:List Str}{sp:Sp}(i:mg x=some (.ref C))(e:EI K C q st)(j:∀{f fd},Fun K "__init__" q st f fd->FnOk P w K mg a CX0 k f fd b sp)(h:∀kV doc l d c g us,us.length=b.length->bindArgs (W.fnOf "__init__" q (defArgs st) (defBody st) (defScope st) .none kV doc l d c g) ⟨us,[]⟩=pure (b.zip us):=by first|exact zjq rfl λ_ _ _ _ _ _ _=>rfl|exact zjr rfl λ_ _ _ _ _ _ _ _=>rfl|exact zjs rfl λ_ _ _ _ _ _ _ _ _=>rfl|exact zjt rfl λ_ _ _ _ _ _ _ _ _ _=>rfl):CalM P w K mg a k x C sp:=by
 obtain⟨f,fd,M,F⟩:=e;exact⟨f,fd,b,M,j F,i,F.binds h⟩
def ei_mk{q:Str}{j kV doc n a e:Value}{m d:Option Addr}{o:Array (Option Value)}(i:W.makesIn K C=true:=by k_is)(b:W.findIn K (.ref C) "__init__" =some (some (.ref f)):=by k_is)(g:W.isFn K (.ref f)=true:=by k_is)(h:W.keepIn K (.ref C)=true:=by k_is)
  (l:K.lookup f=some ⟨j,m,.func (W.fnOf "__init__" q (defArgs st) (defBody st) (defScope st) .none kV doc n d a e),o⟩:=by k_is)(c:W.codeIn K a q=true:=by k_is)(k:W.keepIn K (.ref f)=true:=by k_is):EI K C q st:=⟨f,_,⟨i,b,g,h⟩,zag (st:=st) l c k⟩
def em_mk{q:Str}{h kV doc j a e:Value}{i d:Option Addr}{m:Array (Option Value)}(b:W.findIn K (.ref C) x=some (some (.ref f)):=by k_is)(g:W.isFn K (.ref f)=true:=by k_is)
  (l:K.lookup f=some ⟨h,i,.func (W.fnOf x q (defArgs st) (defBody st) (defScope st) .none kV doc j d a e),m⟩:=by k_is)(c:W.codeIn K a q=true:=by k_is)(k:W.keepIn K (.ref f)=true:=by k_is):EM K C x q st:=⟨f,_,⟨b,g,k⟩,zag (st:=st) l c k⟩
def zcp{d:Value}(F:FunD K "blank_row" "blank_row" (top 23) [d] f fd):Binds K fd ["wide","ink"] []:=
 F.binds λT kV doc h e a g us c=>by
  have b:us.length= 2:=by simpa using c
  obtain⟨_,_,rfl⟩:=lx2 b;exact⟨_,rfl,rfl⟩
def Kp{d:Value}(F:FunD K "blank_row" "blank_row" (top 23) [d] f fd):Binds K fd ["wide","ink"] [d]:=
 F.binds λT kV doc h e a g us c=>by
  have b:us.length= 1:=by simpa using c
  obtain⟨_,rfl⟩:=lx1 b;exact⟨_,rfl,rfl⟩
def VZ{d:Value}(F:FunD K "blank_picture" "blank_picture" (top 24) [d] f fd):Binds K fd ["wide","high","ink"] []:=
 F.binds λT kV doc h e a g us c=>by
  have b:us.length= 3:=by simpa using c
  obtain⟨_,_,_,rfl⟩:=lx3 b;exact⟨_,rfl,rfl⟩
def XD{d:Value}(F:FunD K "blank_picture" "blank_picture" (top 24) [d] f fd):Binds K fd ["wide","high","ink"] [d]:=
 F.binds λT kV doc h e a g us c=>by
  have b:us.length= 2:=by simpa using c
  obtain⟨_,_,rfl⟩:=lx2 b;exact⟨_,rfl,rfl⟩
def zhC{d:Value}(F:FunD K "ink_of" "ink_of" (top 12) [d] f fd):Binds K fd ["fore","back","marks"] []:=
 F.binds λT kV doc h e a g us c=>by
  have b:us.length= 3:=by simpa using c
  obtain⟨_,_,_,rfl⟩:=lx3 b;exact⟨_,rfl,rfl⟩
def zfK{d:Value}(F:FunD K "ink_of" "ink_of" (top 12) [d] f fd):Binds K fd ["fore","back","marks"] [d]:=
 F.binds λT kV doc h e a g us c=>by
  have b:us.length= 2:=by simpa using c
  obtain⟨_,_,rfl⟩:=lx2 b;exact⟨_,rfl,rfl⟩
def zcQ{d b c:Value}(F:FunD K "signs_of" "signs_of" (top 95) [d,b,c] f fd):Binds K fd ["way","row","column","ink"] []:=
 F.binds λT kV doc j h a i us g=>by
  have e:us.length= 4:=by simpa using g
  obtain⟨_,_,_,_,rfl⟩:=lx4 e;exact⟨_,rfl,rfl⟩
def zcq{d a b:Value}(F:FunD K "signs_of" "signs_of" (top 95) [d,a,b] f fd):Binds K fd ["way","row","column","ink"] [d,a,b]:=
 F.binds λT kV doc j h c i us g=>by
  have e:us.length= 1:=by simpa using g
  obtain⟨_,rfl⟩:=lx1 e;exact⟨_,rfl,rfl⟩
def all_mk{fa c o R S k b cD:Addr}(T:Txt P w K mg C bw)(d:TxtR K mg c)(D:Dds K mg cD o R S k)(N:TxtS K mg b)(TB:TxtB mg)(j:CalN K mg "Line" R)(l:CalN K mg "Tab" S)(X:mg "law" =some (.ref fa))
  (tm:EM K C "begin" "State.begin" qD)
  (tl:EI K C "State.__init__" vM)
  (ul:EI K c "Reader.__init__" vn)
  (uS:EI K b "Screen.__init__" vt)
  (up:EM K c "open_row" "Reader.open_row" vp)
  (un:EM K c "end_row" "Reader.end_row" vN)
  (uB:EM K c "read_sign" "Reader.read_sign" x0)
  (ux:EM K c "read" "Reader.read" qN)
  (tj:EI K o "Sign.__init__" uu)
  (uC:EI K k "Row.__init__" uW)
  (tk:EM K o "do" "Sign.do" YU)
  (uj:EM K R "do" "Line.do" YV)
  (tn:EM K S "do" "Tab.do" VQ)
  (uD:EM K k "do" "Row.do" VR)
  (uU:EM K b "feed" "Screen.feed" qO)
  (tf:EM K b "told_picture" "Screen.told_picture" xE)
  (tb:EM K b "many_kept" "Screen.many_kept" x6)
  (th:EM K b "told_stops" "Screen.told_stops" xQ)
  (uR:EM K k "signs" "Row.signs" kL)
  (ta:EM K b "is_late" "Screen.is_late" vO)
  (td:EM K b "open_row" "Screen.open_row" vw)
  (uT:EM K b "cursor" "Screen.cursor" uw)
  (te:EM K b "told_ink" "Screen.told_ink" vv)
  (tc:EM K b "modes" "Screen.modes" uZ)
  (ti:EM K b "window" "Screen.window" uy)
  (vu:∃t f fd,FunD K "blank_row" "blank_row" (top 23) [.int 0 t] f fd/\mg "blank_row" =some (.ref f))
  (vr:∃t f fd,FunD K "blank_picture" "blank_picture" (top 24) [.int 0 t] f fd/\mg "blank_picture" =some (.ref f))
  (tW:∃t f fd,FunD K "ink_of" "ink_of" (top 12) [.int 0 t] f fd/\mg "ink_of" =some (.ref f))
  (tz:∃t t2 t3 f fd,FunD K "signs_of" "signs_of" (top 95) [.int 0 t,.int 0 t2,.int 0 t3] f fd/\mg "signs_of" =some (.ref f))
  (wI:EF K mg "_law_cell_at" (top 108))
  (wQ:EF K mg "_law_mixed" (top 109))
  (wN:EF K mg "_law_ink" (top 110))
  (wU:EF K mg "_law_sign" (top 111))
  (wT:EF K mg "_law_row" (top 112))
  (wR:EF K mg "_law_picture" (top 113))
  (sb:EF K mg "is_whole" (top 8))
  (sa:EF K mg "is_size" (top 22))
  (tT:EF K mg "first_stops" (top 29))
  (tZ:EF K mg "is_letter" (top 101))
  (sk:EF K mg "parted" (top 102))
  (tY:EF K mg "is_figure" (top 100))
  (ty:EF K mg "sign_alone" (top 103))
  (ww:EF K mg "deed_of" (top 88))
  (tS:EF K mg "edges" (top 30))
  (tH:EF K mg "to_left_edge" (top 35))
  (vE:EF K mg "copied" (top 25))
  (vo:EF K mg "blank_of" (top 32))
  (sr:EF K mg "roll_rows" (top 60))
  (tu:EF K mg "roll_up" (top 61))
  (se:EF K mg "line_end" (top 74))
  (wZ:EF K mg "at_least_one" (top 31))
  (sg:EF K mg "move_cells" (top 45))
  (sm:EF K mg "put_cells" (top 46))
  (so:EF K mg "put_sign" (top 75))
  (wY:EF K mg "asked" (top 58))
  (si:EF K mg "number_at" (top 78))
  (tx:EF K mg "set_stop" (top 41))
  (tE:EF K mg "take_stop" (top 42))
  (tF:EF K mg "take_stops" (top 43))
  (sc:EF K mg "keep" (top 53))
  (tD:EF K mg "take_back" (top 54))
  (vl:EF K mg "begin_anew" (top 55))
  (wF:EF K mg "do_without_number" (top 79))
  (tV:EF K mg "go" (top 34))
  (sj:EF K mg "on_tab" (top 39))
  (vi:EF K mg "back_tab" (top 40))
  (wX:EF K mg "again" (top 76))
  (sp:EF K mg "roll" (top 63))
  (sq:EF K mg "roll_down" (top 62))
  (sn:EF K mg "put_lines" (top 64))
  (wv:EF K mg "cut_lines" (top 65))
  (wt:EF K mg "cut_cells" (top 47))
  (tN:EF K mg "wipe_cells" (top 49))
  (tM:EF K mg "wipe" (top 50))
  (wD:EF K mg "do_with_one" (top 80))
  (ui:EF K mg "counted" (top 36))
  (tI:EF K mg "to_place" (top 37))
  (tA:EF K mg "span" (top 67))
  (tG:EF K mg "to_home" (top 38))
  (tw:EF K mg "set_rows" (top 68))
  (tv:EF K mg "set_columns" (top 69))
  (wE:EF K mg "do_with_two" (top 81))
  (tQ:EF K mg "with_mark" (top 15))
  (tR:EF K mg "without_mark" (top 16))
  (tL:EF K mg "turned_marks" (top 17))
  (vb:EF K mg "back_of" (top 10))
  (sf:EF K mg "marks_of" (top 11))
  (tP:EF K mg "with_fore" (top 13))
  (tU:EF K mg "fore_of" (top 9))
  (tO:EF K mg "with_back" (top 14))
  (wH:EF K mg "dyed" (top 70))
  (wG:EF K mg "dye" (top 71))
  (tJ:EF K mg "turn_modes" (top 72))
  (wB:EF K mg "do_with_all" (top 82))
  (tp:EF K mg "_law_at" (top 125))
  (wO:EF K mg "_law_inked" (top 124))
  (wP:EF K mg "_law_made" (top 126))
  (wW:EF K mg "_law_stirring" (top 122))
  (wM:EF K mg "_law_drawn" (top 123))
  (wJ:EF K mg "_law_copied" (top 115))
  (wK:EF K mg "_law_cut" (top 116))
  (wS:EF K mg "_law_put" (top 117))
  (wL:EF K mg "_law_deed" (top 118))
  (sh:EF K mg "moving_signs" (top 93))
  (sl:EF K mg "place_signs" (top 92))
  (tX:EF K mg "ink_signs" (top 91))
  (wA:EF K mg "deed_signs" (top 94))
  (wV:EF K mg "_law_signs" (top 127))
  (sd:EF K mg "law" (top 128)) :
  ∃fd:FuncData,(∀(s:Shared) (v:Value),BindsTo s fd ⟨[v],[]⟩ [("_law_script",v)])/\∀a:Heap,K.In a->a.Ns mainGlobals mg->FnOk P w K mg a CX0 11 fa fd ["_law_script"] (liftSp K sLaw30):=by
 obtain⟨sy,ys,A,I⟩:=sd;obtain⟨tr,M,x,e,G⟩:=vu;obtain⟨tq,L,u,i,F⟩:=vr;obtain⟨ts,O,y,g,H⟩:=tW;obtain⟨tt,u2,u3,Q,z,h,J⟩:=tz;rw[X]at I;cases I;refine⟨ys,λs v=>?_,λa _ _=>?_⟩
 .obtain⟨oc,od,kV,doc,pm,an,ss,ct,su,rfl,_⟩:=A.ex;exact .of_eq rfl
 have cn:=zk P w a wI (Q9 · T);have V:=zk P w a wQ (zb6 · T cn);have Z:=zk P w a wN (zfB · T);have wz:=zk P w a wU (zcL · T);have cp:=zk P w a wT (zfC · T Z wz);have cv:=zk P w a wR (Jn · T V cp);have af:=zk P w a sb (zcD · T);have ak:=zk P w a sa (zft · T af);have q:Cal P w K mg a 1 "blank_row" [] (liftSp K sBlankRow):=⟨M,x,_,[],Y4 e T,G,e.kp,zcp e,.nil⟩;have sv:Cal P w K mg a 1 "blank_row" [.int 0] (liftSp K sBlankRow):=⟨M,x,_,_,Y4 e T,G,e.kp,Kp e,.cons ⟨tr,rfl⟩ .nil⟩;have sx:Cal P w K mg a 3 "blank_picture" [] (liftSp K sBlankPic):=⟨L,u,_,[],jQ i T ak q,F,i.kp,VZ i,.nil⟩;have wr:Cal P w K mg a 3 "blank_picture" [.int 0] (liftSp K sBlankPic):=⟨L,u,_,_,jQ i T ak q,F,i.kp,XD i,.cons ⟨tq,rfl⟩ .nil⟩;have d6:=zk P w a tT (Jq · T);have wl:CalT P w K mg a 2 "begin" C (liftSp K (QU C)):=z6 T.st.cl tm (Jr · T d6);have cj:=Zm P w a T.mgC tl (Kn · T wr wl);have cm:=Zm P w a d.mgC ul (Je · d);have cu:=Zm P w a N.mgC uS (Jg · T N cj cm);have cf:=zk P w a tZ (zb5 · d);have ce:=zk P w a sk (zhp · d);have B:CalT P w K mg a 1 "open_row" c (liftSp K (Uz c)):=z6 d.st.cl up (YZ · d);have xd:CalT P w K mg a 2 "end_row" c (liftSp K (zeO c)):=z6 d.st.cl un (XB · d ce B);have cg:=zk P w a tY (zb4 · d);have ci:=zk P w a ty (Kh · d);have xk:CalT P w K mg a 3 "read_sign" c (liftSp K (zbb c)):=z6 d.st.cl uB (Z2 · d cf xd cg ci);have xe:CalT P w K mg a 4 "read" c (liftSp K (zbc c)):=z6 d.st.cl ux (Jf · d xk);have cc:=Zm P w a D.m_Sign tj (zb2 · T D);have U:=Zm P w a D.m_Row uC (zcJ · T D);have wx:=zk P w a ww (zfz · T D cc j l U);have p:=zk P w a tS (zjh · T);have wq:=zk P w a tH (U8 · T p);have wy:=zk P w a vE (zhB · T);have aa:=zk P w a vo (zcF · T);have ad:=zk P w a sr (zck · T wy aa);have ae:=zk P w a tu (zfJ · T ad);have d8:=zk P w a se (zcO · T wq ae);have m:=zk P w a wZ (U5 · T);have d7:=zk P w a sg (Ko · T p aa);have wu:=zk P w a sm (zcl · T m d7);have bt:=zk P w a so (zcP · T d8 wu p);have wk:CalT P w K mg a 6 "do" o (liftSp K (sDeedDo C (aS o))):=z6 D.k_S.cl tk (zfx · T D bt);have xb:CalT P w K mg a 1 "do" R (liftSp K sNo):=z6 D.k_L.cl uj (zfy · T);have wp:CalT P w K mg a 1 "do" S (liftSp K sNo):=z6 D.k_T.cl tn (zhn · T);have bu:=zk P w a wY (zjj · T);have ah:=zk P w a si (zb1 · T);have aw:=zk P w a tx (zcK · T);have ax:=zk P w a tE (zbZ · T);have ay:=zk P w a tF (Ke · T);have az:=zk P w a sc (zly · T);have b8:=zk P w a tD (zbY · T);have b9:=zk P w a vl (Kf · T);have bx:=zk P w a wF (ZX · T wq aw ax ay az b8 b9);have ba:=zk P w a tV (zpg · T m p);have bc:=zk P w a sj (zhm · T p m);have bd:=zk P w a vi (zcI · T);have be:=zk P w a wX (zji · T);have bf:=zk P w a sp (zlz · T);have d9:=zk P w a sq (zcm · T ad);have bh:=zk P w a sn (zcn · T m d9);have bi:=zk P w a wv (zco · T m ae);have bj:=zk P w a wt (zb0 · T);have bm:=zk P w a tN (Kg · T);have bn:=zk P w a tM (zlA · T);have bz:=zk P w a wD (Jb · T ba bc bd be bf bh bi wu bj bm bn);have wm:=zk P w a ui (zfs · T m);have wn:=zk P w a tI (zcG · T wm);have wo:=zk P w a tA (zlw · T m);have wa:=zk P w a tG (zfw · T wn);have bo:=zk P w a tw (zcH · T wo wa);have bp:=zk P w a tv (Ja · T wo wa);have c8:=zk P w a wE (Jc · T wn bo bp);have wf:=zk P w a tQ (zbV · T);have am:=zk P w a tR (U7 · T);have ao:=zk P w a tL (U6 · T);have r:Cal P w K mg a 1 "ink_of" [] (liftSp K jk):=⟨O,y,_,[],JX g T,H,g.kp,zhC g,.nil⟩;have sw:Cal P w K mg a 1 "ink_of" [.int 0] (liftSp K jk):=⟨O,y,_,_,JX g T,H,g.kp,zfK g,.cons ⟨ts,rfl⟩ .nil⟩;have wc:=zk P w a vb (zfv · T);have wj:=zk P w a sf (zcE · T);have aq:=zk P w a tP (zbW · T r wc wj);have we:=zk P w a tU (zfu · T);have ar:=zk P w a tO (zbX · T r we wj);have au:=zk P w a wH (zlx · T wf am ao aq ar);have bq:=zk P w a wG (znX · T au);have ag:=zk P w a tJ (Kd · T wa);have cb:=zk P w a wB (Jd · T bq ag);have xl:CalT P w K mg a 8 "do" k (liftSp K (sDeedDo C (aR3 k))):=z6 D.k_R.cl uD (zho · T D bu ah bx bz c8 cb);have E:CalT P w K mg a 9 "feed" b (liftSp K (sFeed b C c)):=z6 N.st.cl uU (Jh · T N D xe wx wk xb wp xl);have wb:=zk P w a tp (zhr · T);have Y:=zk P w a wO (zb9 · T);have cw:=zk P w a wP (zcN · T cu E wb Y);have wd:CalT P w K mg a 2 "told_picture" b (liftSp K (sTellN b C c tPic)):=z6 N.st.cl tf (kU · T N wy);have cx:=zk P w a wW (Qd · T V);have xr:CalT P w K mg a 1 "many_kept" b (liftSp K (sTellN b C c tKep)):=z6 N.st.cl tb (Z3 · T N);have wh:CalT P w K mg a 1 "told_stops" b (liftSp K (sTellN b C c tStp)):=z6 N.st.cl th (ZY · T N);have cy:=zk P w a wM (zcd · T V Z wz);have xo:=zk P w a wJ (Km · T);have cq:=zk P w a wK (zfH · T);have cr:=zk P w a wS (zfI · T);have d0:=zk P w a wL (zcM · T xo cq cr);have n:CalT P w K mg a 1 "signs" k (liftSp K (sSigns (aR k))):=z6 D.k_R.cl uR (zb3 · T D);have ai:=zk P w a sh (Qc · T D U n);have wg:=zk P w a sl (Jj · T D U n);have W:=zk P w a tX (zb8 · T D we wc wf U n);have aj:=zk P w a wA (Kk · T ai wg W);have zs:Cal P w K mg a 5 "signs_of" [] (liftSp K (exS sSignsOf)):=⟨Q,z,_,[],XY h TB aj wg W,J,h.kp,zcQ h,.nil⟩;have d4:Cal P w K mg a 5 "signs_of" [.int 0,.int 0,.int 0] (liftSp K (exS sSignsOf)):=⟨Q,z,_,_,XY h TB aj wg W,J,h.kp,zcq h,.cons ⟨tt,rfl⟩ (.cons ⟨u2,rfl⟩ (.cons ⟨u3,rfl⟩ .nil))⟩;have d5:=zk P w a wV (zca · T wb Y);have xq:CalT P w K mg a 1 "is_late" b (liftSp K (sTellN b C c tLate)):=z6 N.st.cl ta (XC · T N);have xA:CalT P w K mg a 2 "open_row" b (liftSp K (sTellN b C c tOpn)):=z6 N.st.cl td (Y1 · T N B);have xp:CalT P w K mg a 1 "cursor" b (liftSp K (sTellN b C c tCur)):=z6 N.st.cl uT (VT · T N);have xO:CalT P w K mg a 1 "told_ink" b (liftSp K (sTellN b C c tInk)):=z6 N.st.cl te (Y0 · T N);have xs:CalT P w K mg a 1 "modes" b (liftSp K (sTellN b C c tMod)):=z6 N.st.cl tc (U9 · T N);have wi:CalT P w K mg a 1 "window" b (liftSp K (sTellN b C c tWin)):=z6 N.st.cl ti (VU · T N);exact zoa A T V cv cw wd E cx xr wh cy xo d0 Z d4 zs d5 xq xA xp xO xs wi W Y
def mn(X:K.In h)(G:h.Ns mainGlobals mg)(a:W.nsIn K mainGlobals x=some none:=by k_is):mg x=none:=W.mg_none_of X G a
def mv{v:Value}(X:K.In h)(G:h.Ns mainGlobals mg)(a:W.nsIn K mainGlobals x=some (some v):=by k_is):mg x=some v:=W.mg_of X G a
def na(a:W.findIn K (.ref C) x=some none:=by k_is):NoAttr K C x:=a
def cls_mk(b:W.plainGet K C Str.empty=true:=by k_is)(a:W.hasDictIn K C=true:=by k_is)(c:W.plainOver K C=true:=by k_is)(d:W.findIn K (.ref C) "__setattr__" =some (some (.builtin "object.__setattr__")):=by k_is):Cls K C:=⟨b,a,c,d⟩
def isk_mk(e:W.plainGet K C Str.empty=true:=by k_is)(b:W.hasDictIn K C=true:=by k_is)(f:W.plainOver K C=true:=by k_is)(g:W.findIn K (.ref C) "__setattr__" =some (some (.builtin "object.__setattr__")):=by k_is)(a:W.findIn K (.ref C) "__class__" =some (some (.builtin "object.__class__")):=by k_is)(d:W.specialIn K (.builtin "object.__class__") "__get__" =some (some (.builtin "getset_descriptor.__get__")):=by k_is)(h:W.takesIn K (.builtin "object.__class__")=some true:=by k_is)(c:W.mroIn K C (.type "object")=some true:=by k_is):IsK K C:=⟨⟨e,b,f,g⟩,a,d,h,c⟩
def caln_mk(X:K.In h)(G:h.Ns mainGlobals mg)(a:W.nsIn K mainGlobals x=some (some (.ref C)):=by k_is)(d:W.makesIn K C=true:=by k_is)(b:W.findIn K (.ref C) "__init__" =some (some (.builtin "object.__init__")):=by k_is)(c:W.keepIn K (.ref C)=true:=by k_is):CalN K mg x C:=⟨⟨d,b,c⟩,W.mg_of X G a⟩
end K30
namespace PySem.W.Fast
def tw12510773916952988398:=()
def tw9016094388136003190:=()
def tw15893302237984001566:=()
def tw6966892365162887619:=()
def tw17782950199196952902:=()
def tw6705561288621556590:=()
def tw13999722570787642967:=()
def tw604680939611771929:=()
def tw15398156458599176892:=()
def tw5428288244962954675:=()
def tw12568643622630552881:=()
def tw3991728118693984745:=()
def tw14604923142114631796:=()
def tw17094886048993963539:=()
def tw7107659976581563113:=()
def tw2224322128895187461:=()
def tw5909835136915982974:=()
def tw10970796925251324124:=()
def tw16190807534047388485:=()
def tw15720426213694957858:=()
def tw7514400180650995448:=()
def tw12421709398727108476:=()
def tw3750235213110590702:=()
def tw13815373739084503175:=()
def tw16277312218072688618:=()
def tw9415544567784277244:=()
def tw11765032647954971827:=()
def tw4511296706128620831:=()
def tw18256272359554234106:=()
def tw18164571231807818740:=()
def tw12691668365168238389:=()
def tw12793442854851945888:=()
def tw15643116477333966026:=()
def tw2880652128128472584:=()
def tw13159096569573185261:=()
def tw8201897670766054658:=()
def tw2393104225520370996:=()
def tw15358927710405828663:=()
def tw11800385430982438012:=()
def tw598072208772758799:=()
def tw7095122811501728339:=()
def tw2697501848174379836:=()
def tw15192791223416255866:=()
def tw2680893974735076785:=()
def tw6797124446638612662:=()
def tw12673603475962720401:=()
def tw2187711273811719996:=()
def tw7759168797353600176:=()
def tw8188145271581858671:=()
def tw12329632361183953707:=()
def tw11380837473558064378:=()
def tw16528552520360402920:=()
def tw14518429980954889826:=()
def tw16941598936715079992:=()
def tw4831033372751593591:=()
def tw3460101297168247400:=()
def tw13400489156793740196:=()
def tw14776039598846565322:=()
def tw15441242820552536443:=()
def tw13069903724228237397:=()
def tw17517327238101566302:=()
def tw563307204568272937:=()
def tw2543617938408036777:=()
def tw3918557901350116971:=()
def tw15011972559909987510:=()
def tw5759949352169176838:=()
def tw10450558343951000959:=()
def tw9517118721866075864:=()
def tw10282825180419797601:=()
def tw1724174047810528328:=()
def tw12466032693526853324:=()
def tw5316664976427799868:=()
def tw3108320123801004651:=()
def tw14551783006362957524:=()
def tw1780639631071851360:=()
def tw14363725815581207544:=()
def tw3325844684896080669:=()
def tw18217968475003619538:=()
def tw11422888190495624145:=()
def tw15836579643677649121:=()
def tw9920662070262347447:=()
def tw12624907504561006705:=()
def tw7728786959985380593:=()
def tw3142032591899817062:=()
def tw7195057789927292340:=()
def tw15872344794421422384:=()
def tw11035228906923930583:=()
def tw1437019033823241611:=()
def tw15662766646839925999:=()
def tw7783990166133418159:=()
def tw11600885402241982322:=()
def tw14368596004815878845:=()
def tw14703374078023389762:=()
def tw17421035437295678009:=()
def tw15467141301687700584:=()
def tw15863886823213939927:=()
def tw7097031513001944518:=()
def tw8020726458634975951:=()
def tw7003256197772134750:=()
def tw8661545167649979058:=()
def tw18283511200094310530:=()
def tw17303826602195107625:=()
def tw13797561109197173187:=()
def tw5753035204831716725:=()
def tw10114951024186319728:=()
def tw17137142135574721460:=()
def tw441176063187644252:=()
def tw7439574018898752124:=()
def tw649976189470944657:=()
def tw12392729178895542091:=()
def tw11094548574029047056:=()
def tw15533320931503080559:=()
def tw1279532896096689569:=()
def tw17935750719279055348:=()
def tw9451867329787844844:=()
def tw2457387930584358119:=()
def tw16581869278343342238:=()
def tw8174395500161450234:=()
def tw6127483828860362738:=()
def tw16671457031184421721:=()
def tw8315060069052049499:=()
def tw8251412009083117902:=()
def tw12824980615373093760:=()
def tw17808006933955332527:=()
def tw15844754318578618826:=()
def tw13329492647340735073:=()
def tw5233033116765213790:=()
def tw7983746607075632165:=()
def tw14337399296267757155:=()
def tw305627610410055660:=()
def tw7529264091947675391:=()
def tw4818027396198760327:=()
def tw1589637088904835766:=()
def tw3261141463248285143:=()
def tw17570593571106655874:=()
def tw16545668763772467255:=()
def tw13590056518505405114:=()
def tw5046281627862863712:=()
def tw14857800557790078617:=()
def tw8891355004040663622:=()
def tw16905791156214164641:=()
def tw2856693236532337742:=()
def tw11374894192564979016:=()
def tw143064720754790002:=()
def tw2052399975629371994:=()
def tw892620207369601465:=()
def tw8621309112257985587:=()
def tw4440146280519632971:=()
def tw701067543127662117:=()
def tw8723356615996163616:=()
def tw7973966953011337200:=()
def tw11715695739482652478:=()
def tw7058894520868367833:=()
def tw12116392831614333453:=()
def tw8033042411731612428:=()
def tw15095664215540076996:=()
def tw2354047079504778156:=()
def tw1052370669204869640:=()
def tw9548867436078134421:=()
def tw8955366028104682983:=()
def tw3810243873380927448:=()
def tw16843616042482908992:=()
def tw15105275553490865801:=()
def tw15556712129875937431:=()
def tw10632426326000269279:=()
def tw16997309421708306656:=()
def tw16651510800470711912:=()
def tw808068289709985873:=()
def tw7894867610748029020:=()
def tw3232167688449966085:=()
def tw10269115315303127764:=()
def tw3443343849805373506:=()
def tw6576820753984432643:=()
def tw6411485844037999078:=()
def tw9481091822784447083:=()
def tw4109823390656408290:=()
def tw16959477140527037264:=()
def tw15885412353680602125:=()
def tw6798897314282903219:=()
def tw10667857419945111033:=()
def tw2204637391188283540:=()
def tw15626896739354640830:=()
def tw5527628412117583947:=()
def tw860990063259611914:=()
def tw7944496482743671927:=()
def tw14117032948058260438:=()
def tw10075604147801406183:=()
def tw7156981843471489487:=()
def tw12983109821926922798:=()
def tw8323925395328959565:=()
def tw5915438424849510166:=()
def tw4506891810526269779:=()
def tw12471563838809460365:=()
def tw4727825820989460864:=()
def tw9712530758236139433:=()
def tw2343869328794147911:=()
def tw1107079268920012843:=()
def tw84450997677716406:=()
def tw6806847085642863909:=()
def tw11052861092842988374:=()
def tw16732380637320291955:=()
def tw1685198243066988902:=()
def tw13670508803402227097:=()
def tw14824790889654657957:=()
def tw1500495656320559009:=()
def tw17873427659559056819:=()
def tw7982551733025446598:=()
def tw5701312741381245803:=()
def tw10876807467056554640:=()
def tw7110801229844507788:=()
def tw12780959633206710796:=()
def tw14634859444231375693:=()
def tw412183630816746863:=()
def tw15088755080506328028:=()
def tw7990643156377880525:=()
def tw15321923875154988422:=()
def tw12353573223862678631:=()
def tw10580788638344175748:=()
def tw8240823117026871285:=()
def tw13278870251685260022:=()
def tw12731887818645261003:=()
def tw13620435427699240057:=()
def tw17885889869295355779:=()
def tw10299060597737264016:=()
def tw4931740790493079673:=()
def tw6464771788719984590:=()
def tw3900417910805201750:=()
def tw13412367133754620572:=()
def tw16997143628588548893:=()
def tw18130672223650922380:=()
def tw9758829886597161360:=()
def tw10174422882634648157:=()
def tw6513390642236521519:=()
def tw3370217188567834251:=()
def tw12807759274287515567:=()
def tw4209563966262283009:=()
def tw14224573105262058654:=()
def tw15732116474266980749:=()
def tw16442290232873682063:=()
def tw7933705750308771669:=()
def tw7797109066596347956:=()
def tw4786495572089928556:=()
def tw17260888559355190869:=()
def tw15463372157566246262:=()
def tw9274555798235705547:=()
def tw6419618685739823500:=()
def tw1203457267749604033:=()
def tw11780688164808593950:=()
def tw2744769465366484131:=()
def tw8075457987330526476:=()
def tw7466292591433374923:=()
def tw15994733321359078949:=()
def tw3325853615535609444:=()
def tw8572716437005516207:=()
def tw16844587018397800921:=()
def tw2921635567983863182:=()
def tw5989679297022747117:=()
def tw10210347933955591543:=()
def tw10573700910535027393:=()
def tw6004883363469970411:=()
def tw3231081937307930377:=()
def tw6111458441647501046:=()
def tw17829035922859042871:=()
def tw94271643155933611:=()
def tw4670544715669950935:=()
def tw5720549211802476294:=()
def tw11840458634266522627:=()
def tw13846896130362596093:=()
def tw4319237840362961188:=()
def tw290123375702667560:=()
def tw8838624445969086238:=()
def tw18146272126358425472:=()
def tw5524002713398843719:=()
def tw2891212791092575564:=()
def tw4746490979860935263:=()
def tw14361032350362875191:=()
def tw13930045290734395105:=()
def tw1295273364662676975:=()
def tw16890055765652667588:=()
def tw14437484158422286432:=()
end PySem.W.Fast
open PySem PySem.W PyProof.Rows
set_option maxRecDepth 100000 in
set_option maxHeartbeats 0 in
theorem PySem.Challenge.cw_signscreen_k30_signs_lead_holds : PySem.Challenge.rw_signscreen_k30_signs_lead.Holds := by
 w_on;o_law;k_head;(case hw=>w_witness2)
 k_fill
 refine L2.walkW (l:=PySem.Challenge.rw_signscreen_k30_signs_lead) (n:=63) (k:=11) (x:="_law_script") (s:=K30.sLaw30) rfl (by decide) rfl ⟨rfl,by decide,by decide,rfl⟩ (fun w h Y=>PySem.W.kIn_of Y) ?F (fun ns O R f e c=>⟨ns,rfl,c⟩)
 case F=>
  intro w mg d h a G b
  refine' K30.all_mk ?T ?TR ?D ?SN ?TB ?n_Line ?n_Tab b ?_ ?_ ?_ ?_ ?_ ?_ ?_ ?_ ?_ ?_ ?_ ?_ ?_ ?_ ?_ ?_ ?_ ?_ ?_ ?_ ?_ ?_ ?_ ?_ ?_ ?_ ?_ ?_ ?_ ?_ ?_ ?_ ?_ ?_ ?_ ?_ ?_ ?_ ?_ ?_ ?_ ?_ ?_ ?_ ?_ ?_ ?_ ?_ ?_ ?_ ?_ ?_ ?_ ?_ ?_ ?_ ?_ ?_ ?_ ?_ ?_ ?_ ?_ ?_ ?_ ?_ ?_ ?_ ?_ ?_ ?_ ?_ ?_ ?_ ?_ ?_ ?_ ?_ ?_ ?_ ?_ ?_ ?_ ?_ ?_ ?_ ?_ ?_ ?_ ?_ ?_ ?_ ?_ ?_ ?_ ?_ ?_ ?_ ?_ ?_ ?_ ?_ ?_ ?_ ?_ ?_ ?_ ?_ ?_
  (case T=>exact⟨K30.mn a G,K30.mn a G,K30.mn a G,K30.mn a G,K30.mn a G,K30.mn a G,K30.mn a G,K30.mn a G,K30.mn a G,K30.mn a G,K30.mn a G,K30.mn a G,K30.mn a G,K30.mn a G,K30.mn a G,⟨_,K30.mv a G⟩,⟨_,K30.mv a G⟩,⟨_,K30.mv a G⟩,⟨_,K30.mv a G⟩,⟨_,K30.mv a G⟩,⟨_,K30.mv a G,by rfl⟩,K30.mv a G,L2.DS.of (by kernel_rfl) (by decide +kernel) (by kernel_rfl),K30.mv a G,⟨K30.cls_mk,K30.na,K30.na,K30.na,K30.na,K30.na,K30.na,K30.na,K30.na,K30.na,K30.na,K30.na,K30.na,K30.na,K30.na,K30.na,K30.na,K30.na⟩⟩)
  (case TR=>exact⟨K30.mn a G,K30.mn a G,K30.mn a G,K30.mn a G,⟨_,K30.mv a G⟩,⟨_,K30.mv a G⟩,⟨_,K30.mv a G⟩,K30.mv a G,⟨K30.cls_mk,K30.na⟩⟩)
  (case D=>exact⟨K30.mv a G,K30.mv a G,K30.mv a G,K30.mv a G,K30.mv a G,K30.isk_mk,K30.isk_mk,K30.isk_mk,K30.isk_mk,K30.na,K30.na,K30.na,by kit_is,by kit_is,by kit_is,by kit_is,by kit_is,by kit_is,by kit_is,by kit_is,by kit_is,by kit_is,by kit_is,by kit_is,by kit_is,by kit_is,by kit_is,by kit_is,by kit_is,by kit_is,by kit_is,by kit_is⟩)
  (case SN=>exact⟨K30.mv a G,⟨K30.cls_mk,K30.na,K30.na⟩⟩)
  (case TB=>exact⟨⟨_,K30.mv a G⟩⟩)
  (case n_Line=>exact K30.caln_mk a G)
  (case n_Tab=>exact K30.caln_mk a G)
  exact K30.em_mk
  exact K30.ei_mk
  exact K30.ei_mk
  exact K30.ei_mk
  exact K30.em_mk
  exact K30.em_mk
  exact K30.em_mk
  exact K30.em_mk
  exact K30.ei_mk
  exact K30.ei_mk
  exact K30.em_mk
  exact K30.em_mk
  exact K30.em_mk
  exact K30.em_mk
  exact K30.em_mk
  exact K30.em_mk
  exact K30.em_mk
  exact K30.em_mk
  exact K30.em_mk
  exact K30.em_mk
  exact K30.em_mk
  exact K30.em_mk
  exact K30.em_mk
  exact K30.em_mk
  exact K30.em_mk
  exact⟨_,K30.fkD a G⟩
  exact⟨_,K30.fkD a G⟩
  exact⟨_,K30.fkD a G⟩
  exact⟨_,_,_,K30.fkD a G⟩
  all_goals exact K30.fk a G
end
