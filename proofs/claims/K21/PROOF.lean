import PyProof.Rows.All
import Wide.All
import OpenK.AllK
import Wide.FinOn
import Lean
import PyProof.EqAt
import PyProof.EqKinds
import PyProof.TupleCall
import KE.KTryMore
import KE.KDictOf
import PyProof.AttrMissHeap
import PyProof.Seq
import PyProof.Rows.Tup
import KE.KDictSum
import PyProof.Rows.SortWalk
import PyProof.EnumStmt
import PyProof.EnumMake
import PyProof.EnumFor
import PyProof.Rows.Range3
import PyProof.ReprRoads
import PyProof.Rows.MinMaxN
import KE.KMinBuiltin
import PyProof.Rows.CallKwBuiltin
import KE.KTabLook
import KE.KDictList
import PyProof.ListRange
import PyProof.ZipIter
import PyProof.Draws
import PyProof.StrLoop
import PyProof.ListNew
import PyProof.CollectWalk
import KE.LcSums
import KE.KIntText
import PyProof.Rows.StrIndexOr
import PyProof.FString5
import PyProof.StrBlockH
import PyProof.SliceStr2
import PyProof.StrLawsChain
import PyProof.StrLawsTight
import KE.IntTextLaws
import PyProof.Rows.StrSplitAre
import PyProof.Rows.ReprOcc
import PyProof.Rows.StrFin3
import PyProof.StrCalls
import PyProof.DictItems
import KE.KPairComp
import PyProof.MeetsSeq2
import PyProof.Rows.FStr
import PyProof.Rows.StrInSeq3
import PyProof.Rows.StrNews2
import PyProof.FactsAll.zip
import KE.KEqDict
import PyProof.DictUpdate
import PyProof.DictFindH
import PyProof.TupleKey
import KE.RegKTryMore
import KE.RegKIsAll
import PySem.Challenge.RW_signscreen_k21_deeds_and_their_signs
set_option compiler.extract_closed false
set_option bootstrap.genMatcherCode false
set_option Elab.async false
set_option linter.all false
set_option maxRecDepth 100000
set_option maxHeartbeats 4000000
section
local macro_rules | `(tactic| walk_at $s:str) => do
 unless s.getString.startsWith "!" do Lean.Macro.throwUnsupported
 let a <- ((((s.getString.drop 1).toString++" and_assoc zJ T.st.cl T.st.n_picture T.st.n_wide T.st.n_high T.st.n_row T.st.n_column T.st.n_late T.st.n_ink T.st.n_wrap T.st.n_putting T.st.n_home T.st.n_top T.st.n_bottom T.st.n_left T.st.n_right T.st.n_stops T.st.n_kept T.st.n_last zh zA zB zQ zm zC zN zD zi zE zR zn zF zr zp zw zG zO zl zx zP zy zg zH zS zo zI zt zK").splitOn " ").filter (·!="")).toArray.mapM fun n=>`(Lean.Parser.Tactic.simpLemma|$(Lean.mkIdent n.toName):ident)
 `(tactic|simp[$a,*])
namespace L2
open PySem PySem.Spec PyProof.Rows
noncomputable abbrev Key:=Sum Int Str
noncomputable def qi:Key->Value->Bool
 |.inl k,v=>Value.isInt k v
 |.inr x,v=>Value.isStrOf x v
noncomputable def zkF(w:World):Key->Int
 |.inl k=>hashInt k
 |.inr x=>hashStr w x
variable {K:W.Frag}{E Q:Value->Shared->Prop}{mg:Str->Option Value}{pins:List (Addr×Obj)}{s:Shared}{P prog:Program}{C a f p dx b:Addr}{ds:List PyData}{A:Around}{fd:FuncData}{pos:Pos}{x:Str}{es:List Expr}{us:List Value}{n i:Nat}{e tg:Expr}{u:Value}{N:List Str}{base h:Heap}{st:Stmt}
theorem yE:∀{k:Key}{v:Value},qi k v=true->(∃i t,k=Sum.inl i/\v=Value.int i t)\/(∃x t,k=Sum.inr x/\v=Value.str x t)
 |.inl i,v,h=>by
  obtain⟨t,e⟩:=Value.isInt_shape (k:=i) (v:=v) h;exact .inl ⟨i,t,rfl,e⟩
 |.inr x,v,h=>by
  obtain⟨t,e⟩:=Value.isStrOf_shape (x:=x) (v:=v) h;exact .inr ⟨x,t,rfl,e⟩
theorem zau(i:Int)(t:Tok):qi (.inl i) (.int i t)=true:=by simp[qi,Value.isInt]
theorem zav(x:Str)(t:Tok):qi (.inr x) (.str x t)=true:=by simp[qi,Value.isStrOf]
theorem zg6(a b:Int):decide ((Sum.inl a:Key)=Sum.inl b)=(a==b):=by
 by_cases e:a=b
 .subst e;simp
 .have h:¬(Sum.inl a:Key)=Sum.inl b:=λq=>e (Sum.inl.inj q)
  rw[decide_eq_false h];exact(beq_eq_false_iff_ne.mpr e).symm
theorem zg7(a b:Str):decide ((Sum.inr a:Key)=Sum.inr b)=decide (a=b):=by
 by_cases e:a=b
 .subst e;simp
 .have h:¬(Sum.inr a:Key)=Sum.inr b:=λq=>e (Sum.inr.inj q)
  rw[decide_eq_false h,decide_eq_false e]
theorem zg8(a:Int)(b:Str):decide ((Sum.inl a:Key)=Sum.inr b)=false:=decide_eq_false (λq=>nomatch q)
theorem zg9(a:Str)(b:Int):decide ((Sum.inr a:Key)=Sum.inl b)=false:=decide_eq_false (λq=>nomatch q)
noncomputable def yk(prog:Program)(w:World):PySem.KeyKind prog w Key where
 is:=qi
 hash:=zkF w
 inj:=λv a b ha hb=>by
  rcases yE ha with⟨i,t,rfl,rfl⟩|⟨x,t,rfl,rfl⟩
  .rcases yE hb with⟨j,u,rfl,e⟩|⟨y,u,rfl,e⟩
   .injection e with e1 _;rw[e1]
   .exact nomatch e
  .rcases yE hb with⟨j,u,rfl,e⟩|⟨y,u,rfl,e⟩
   .exact nomatch e
   .injection e with e1 _;rw[e1]
 byValue:=λk v h=>by
  rcases yE h with⟨i,t,rfl,rfl⟩|⟨x,t,rfl,rfl⟩<;>rfl
 pyHash:=λhv h=>by
  rcases yE hv with⟨i,t,rfl,rfl⟩|⟨x,t,rfl,rfl⟩
  .exact wpAny_pyHash_int h
  .exact wpAny_pyHash_str h
 eqBool:=λhu hv h=>by
  rcases yE hu with⟨i,t,rfl,rfl⟩|⟨x,t,rfl,rfl⟩
  .rcases yE hv with⟨j,u,rfl,rfl⟩|⟨y,u,rfl,rfl⟩
   .rw[zg6]at h;exact wpAny_eqBool_int h
   .rw[zg8]at h;exact SeqAt.EqAt.int_str i t y u _ _ _ _ h
  .rcases yE hv with⟨j,u,rfl,rfl⟩|⟨y,u,rfl,rfl⟩
   .rw[zg9]at h;exact SeqAt.EqAt.str_int x t j u _ _ _ _ h
   .rw[zg7]at h;exact wpAny_eqBool_str h
 «strs»:=λk x t v h=>by
  rcases yE h with⟨i,u,rfl,e⟩|⟨y,u,rfl,e⟩
  .exact nomatch e
  .injection e with e1 _
   subst e1
   cases v<;>rfl
theorem QS(prog:Program)(w:World)(i:Int)(t:Tok):(yk prog w).is (.inl i) (.int i t)=true:=zau i t
theorem QT(prog:Program)(w:World)(x:Str)(t:Tok):(yk prog w).is (.inr x) (.str x t)=true:=zav x t
inductive V where
 |non|bl (b:Bool)|int (i:Int)|str (x:Str)|byt (b:Array UInt8)|flt (b:UInt64)|ref (a:Addr)|ty (n:String)
 deriving DecidableEq
variable {kvs:List (Key×V)}{vs:List V}{v:V}
noncomputable def RelV:V->Value->Prop
 |.non,u=>u=Value.none
 |.bl b,u=>u=Value.bool b
 |.int i,u=>∃t,u=Value.int i t
 |.str x,u=>∃t,u=Value.str x t
 |.byt b,u=>∃t,u=Value.bytes b t
 |.flt b,u=>∃t,u=Value.float b t
 |.ref a,u=>u=Value.ref a
 |.ty n,u=>u=Value.type n
noncomputable abbrev Vals:List V->List Value->Prop:=Paired RelV
theorem Vals.length{xs:List V}(r:Vals xs us):xs.length=us.length:=Paired.length r
theorem Vals.get:∀{xs:List V}{us:List Value}{i:Nat}{x:V},Vals xs us->xs[i]? =some x->∃u,us[i]? =some u/\RelV x u
 |_,_,_,_,.nil,e=>by simp at e
 |_,_,0,_,.cons r _,e=>by simp at e;subst e;exact⟨_,rfl,r⟩
 |_,_,i+1,x,.cons _ t,e=>by
  obtain⟨u,h1,h2⟩:=Vals.get (i:=i) (x:=x) t (by simpa using e);exact⟨u,by simpa using h1,h2⟩
theorem Vals.set{x:V}(r:RelV x u):∀{xs:List V}{us:List Value}(i:Nat),Vals xs us->Vals (xs.set i x) (us.set i u)
 |_,_,_,.nil=>.nil
 |_,_,0,.cons _ t=>.cons r t
 |_,_,i+1,.cons q t=>.cons q (Vals.set r i t)
theorem Vals.append:∀{xs ys:List V}{us ws:List Value},Vals xs us->Vals ys ws->Vals (xs++ys) (us++ws)
 |_,_,_,_,.nil,s=>s
 |_,_,_,_,.cons r t,s=>.cons r (Vals.append t s)
theorem Vals.take:∀{xs:List V}{us:List Value}(n:Nat),Vals xs us->Vals (xs.take n) (us.take n)
 |_,_,0,_=>.nil
 |_,_,_+1,.nil=>.nil
 |_,_,n+1,.cons r t=>.cons r (Vals.take n t)
theorem Vals.drop:∀{xs:List V}{us:List Value}(n:Nat),Vals xs us->Vals (xs.drop n) (us.drop n)
 |_,_,0,r=>r
 |_,_,_+1,.nil=>.nil
 |_,_,n+1,.cons _ t=>Vals.drop n t
noncomputable def xz:Option V->Option Value->Prop
 |some v,some u=>RelV v u
 |none,none=>True
 |_,_=>False
noncomputable def KV{κ:Type}:List (κ×V)->List (κ×Value)->Prop:=Paired λ(p:κ×V) (q:κ×Value)=>p.1=q.1/\RelV p.2 q.2
noncomputable def kV:Key->V
 |.inl i=>.int i
 |.inr x=>.str x
inductive HO where
 |lst (xs:List V)
 |tup (xs:List V)
 |dK (kvs:List (Key×V))|dT (kvs:List (List Key×V))
 |set (S:Int->Bool) (n:Nat)
 |ins (C dx:Addr) (fs:List (Str×V))
 |own (x:Addr)
 |xd (fs:List (Str×V))
 |met (f x:Addr)
 |rng (lo hi:Int)
 |frz (o:Obj) (u:HO)
 |tbl (ps:Array Value)
 |ext (φ:Heap->Prop)
noncomputable abbrev Hp:=Addr->Option HO
variable {H:Hp}
noncomputable def upd(H:Hp)(a:Addr)(o:HO):Hp:=λb=>if b=a then some o else H b
theorem zX{o:HO}:upd H a o a=some o:=by unfold upd;rw[if_pos rfl]
theorem zv{o:HO}(h:b≠a):upd H a o b=H b:=by unfold upd;rw[if_neg h]
theorem YV{o u:HO}:upd (upd H a o) a u=upd H a u:=by
 funext b;unfold upd;split<;>rfl
theorem zjM{o u:HO}(h:H a=some o)(h':H b=some u)(d:o≠u):a≠b:=by
 intro e;subst e;rw[h]at h';exact d (Option.some.inj h')
theorem yu{o:HO}(h:H a=some o)(h':H b=none):a≠b:=by
 intro e;subst e;rw[h]at h';cases h'
section
variable (P:Program)(w:World)
noncomputable def ym(H:Hp)(h:Heap)(a:Addr):HO->Prop
 |.lst xs=>xs.length<=sizeLine/\∃(its:List Value) (n:Nat),Vals xs its/\h.get? a=some { cls:=.type "list",data:=.seq its.toArray n }
 |.tup xs=>xs.length<=sizeLine/\∃its:List Value,Vals xs its/\IsTup h a its.toArray
 |.dK kvs=>kvs.length<=sizeLine/\(a==sysModules)=false/\∃vs,KV kvs vs/\h.DictOf (yk P w) a vs
 |.dT kvs=>kvs.length<=sizeLine/\(a==sysModules)=false/\∃xs:List (List Key×Addr×Value),
   Paired (λ(p:List Key×V) (q:List Key×Addr×Value)=>p.1=q.1/\H q.2.1=some (.tup (p.1.map kV))/\RelV p.2 q.2.2) kvs xs/\
   ∃o es ep,h.get? a=some o/\o.ExactDict/\o.data=.dict es ep/\es.toList=xs.map (entryOfKey (tupleKind (yk P w)))/\(xs.map (·.1)).Nodup
 |.set S n=>h.SetOf (intKind P w) a S n
 |.ins C dx fs=>H dx=some (.own a)/\fs.length<=1000/\dx≠a/\h.get? a=some (PySem.W.instObj C dx)/\
   ∃mA,h.Ns1 dx mA/\(∀f,xz (fs.lookup f) (mA f))/\PySem.Within mA (fs.map (·.1))
 |.own _=>∃o,h.get? a=some o
 |.xd fs=>∃mA,h.Ns1 a mA/\∀f,xz (fs.lookup f) (mA f)
 |.rng lo hi=>∃t u v,h.get? a=some { cls:=.type "range",data:=.fields #[.int lo t,.int hi u,.int 1 v] }
 |.frz o u=>h.get? a=some o/\ym H h a u
 |.tbl ps=>h.get? a=some { cls:=.none,data:=.fields ps }
 |.met f x=>h.get? a=some (PySem.W.methodObj (.ref f) (.ref x))
 |.ext φ=>φ h/\(∃o,h.get? a=some o)/\∀h1 h2:Heap,φ h1->(∀o,h1.get? a=some o->h2.get? a=some o)->φ h2
noncomputable def HOk(H:Hp)(h:Heap):Prop:=∀a o,H a=some o->ym P w H h a o
end
section
variable {w:World}{H':Hp}{h':Heap}{o:HO}
theorem ym.lt(x:ym P w H h a o):a<h.objs.size:=by
 cases o with
 |lst xs=>obtain⟨_,_,_,_,e⟩:=x;exact Heap.lt_size e
 |tup xs=>obtain⟨_,_,_,p⟩:=x;exact p.lt
 |dK kvs=>obtain⟨_,_,_,_,o,_,_,e,_⟩:=x;exact Heap.lt_size e
 |dT kvs=>obtain⟨_,_,_,_,o,_,_,e,_⟩:=x;exact Heap.lt_size e
 |set S n=>obtain⟨o,_,_,_,e,_⟩:=x;exact Heap.lt_size e
 |ins C dx fs=>obtain⟨_,_,_,e,_⟩:=x;exact Heap.lt_size e
 |own y=>obtain⟨_,e⟩:=x;exact Heap.lt_size e
 |xd fs=>obtain⟨_,⟨_,_,_,e,_⟩,_⟩:=x;exact Heap.lt_size e
 |rng lo hi=>obtain⟨_,_,_,e⟩:=x;exact Heap.lt_size e
 |frz ob u=>obtain⟨e,_⟩:=x;exact Heap.lt_size e
 |tbl ps=>exact Heap.lt_size (show h.get? a=some _ from x)
 |met f y=>exact Heap.lt_size (show h.get? a=some _ from x)
 |ext φ=>obtain⟨_,⟨_,e⟩,_⟩:=x;exact Heap.lt_size e
theorem Paired.mapP{α β:Type}{F G:α->β->Prop}:∀{l₁:List α}{l₂:List β},Paired F l₁ l₂->(∀a b,F a b->G a b)->Paired G l₁ l₂
 |_,_,.nil,_=>.nil
 |_,_,.cons r t,f=>.cons (f _ _ r) (Paired.mapP t f)
theorem Paired.imp'{α β:Type}{F G:α->β->Prop}(f:∀a b,F a b->G a b){l₁:List α}{l₂:List β}(r:Paired F l₁ l₂):Paired G l₁ l₂:=Paired.mapP r f
theorem ym.stay(x:ym P w H h a o)(k:∀b u,(b=a\/H b=some (.own a))->h.get? b=some u->h'.get? b=some u)
  (ho:∀b,H b=some (.own a)->H' b=some (.own a))(ht:∀b xs,H b=some (.tup xs)->H' b=some (.tup xs)):ym P w H' h' a o:=by
 induction o with
 |lst xs=>obtain⟨z,its,n,r,e⟩:=x;exact⟨z,its,n,r,k _ _ (.inl rfl) e⟩
 |tup xs=>obtain⟨z,its,r,ob,e,c⟩:=x;exact⟨z,its,r,ob,k _ _ (.inl rfl) e,c⟩
 |dK kvs=>obtain⟨z,y,vs,r,ob,es,ep,e,c⟩:=x;exact⟨z,y,vs,r,ob,es,ep,k _ _ (.inl rfl) e,c⟩
 |dT kvs=>
  obtain⟨z,y,xs,r,ob,es,ep,e,c⟩:=x;exact⟨z,y,xs,Paired.mapP r λp q z=>⟨z.1,ht _ _ z.2.1,z.2.2⟩,ob,es,ep,k _ _ (.inl rfl) e,c⟩
 |set S n=>obtain⟨ob,es,ep,t,e,c⟩:=x;exact⟨ob,es,ep,t,k _ _ (.inl rfl) e,c⟩
 |ins C dx fs=>
  obtain⟨d,z,ne,e,mA,⟨od,es,ep,e2,c⟩,r⟩:=x;exact⟨ho _ d,z,ne,k _ _ (.inl rfl) e,mA,⟨od,es,ep,k _ _ (.inr d) e2,c⟩,r⟩
 |own y=>obtain⟨ob,e⟩:=x;exact⟨ob,k _ _ (.inl rfl) e⟩
 |xd fs=>obtain⟨mA,⟨od,es,ep,e,c⟩,r⟩:=x;exact⟨mA,⟨od,es,ep,k _ _ (.inl rfl) e,c⟩,r⟩
 |rng lo hi=>obtain⟨t,u,v,e⟩:=x;exact⟨t,u,v,k _ _ (.inl rfl) e⟩
 |frz ob u ih=>obtain⟨e,q⟩:=x;exact⟨k _ _ (.inl rfl) e,ih q⟩
 |tbl ps=>
  have e:h.get? a=some { cls:=.none,data:=.fields ps }:=x;show h'.get? a=some { cls:=.none,data:=.fields ps };exact k a _ (.inl rfl) e
 |met f y=>
  have e:h.get? a=some (PySem.W.methodObj (.ref f) (.ref y)):=x;show h'.get? a=some (PySem.W.methodObj (.ref f) (.ref y));exact k a _ (.inl rfl) e
 |ext φ=>obtain⟨p,⟨o,e⟩,st⟩:=x;exact⟨st _ _ p λo q=>k _ _ (.inl rfl) q,⟨o,k _ _ (.inl rfl) e⟩,st⟩
theorem HOk.lt(x:HOk P w H h)(e:H a=some o):a<h.objs.size:=(x a o e).lt
theorem HOk.fresh(x:HOk P w H h)(e:h.objs.size<=a):H a=none:=by
 cases q:H a with
 |none=>rfl
 |some u=>exact absurd (Nat.lt_of_lt_of_le (x.lt q) e) (Nat.lt_irrefl _)
theorem HOk.kept(x:HOk P w H h)(k:∀b u,h.get? b=some u->h'.get? b=some u):HOk P w H h':=λa o e=>
 (x a o e).stay (λb u _ q=>k b u q) (λ_ q=>q) λ_ _ q=>q
theorem HOk.laid(x:HOk P w H h)(k:∀b u,h.get? b=some u->h'.get? b=some u)(hp:h.objs.size<=a)(new:ym P w (upd H a o) h' a o):HOk P w (upd H a o) h':=λb u e=>by
 have hn:=x.fresh hp;by_cases hb:b=a
 .subst hb;rw[zX]at e;cases e;exact new
 .rw[zv hb]at e
  exact(x b u e).stay (λc v _ q=>k c v q) (λc q=>by rw[zv (yu q hn)];exact q) λc xs q=>by rw[zv (yu q hn)];exact q
end
noncomputable def Rd(H:Hp)(a:Addr)(u:HO):Prop:=H a=some u\/∃o,H a=some (.frz o u)
theorem Rd.of{u:HO}(h:H a=some u):Rd H a u:=.inl h
theorem Rd.ok{w:World}{u:HO}(r:Rd H a u)(x:HOk P w H h):ym P w H h a u:=by
 rcases r with r|⟨o,r⟩
 .exact x a u r
 .obtain⟨_,q⟩:=x a _ r
  exact q
noncomputable def Mut:Option HO->Prop
 |some (.lst _)=>True
 |some (.dK _)=>True
 |some (.dT _)=>True
 |some (.set _ _)=>True
 |some (.ins _ _ _)=>True
 |some (.ext _)=>True
 |_=>False
section
variable {w:World}{h':Heap}{x e:Addr}{o':HO}
theorem HOk.write(ok:HOk P w H h)(mu:Mut (H x))(he:e=x\/H e=some (.own x))(k:∀b u,b≠e->h.get? b=some u->h'.get? b=some u)(heo:∃u,h'.get? e=some u)
  (new:ym P w (upd H x o') h' x o'):HOk P w (upd H x o') h':=λb u q=>by
 have nown:∀c y,H c=some (.own y)->c≠x:=λc y r z=>by subst z;rw[r]at mu;exact mu
 have ntup:∀c xs,H c=some (.tup xs)->c≠x:=λc xs r z=>by subst z;rw[r]at mu;exact mu
 by_cases hb:b=x
 .subst hb;rw[zX]at q;cases q;exact new
 .rw[zv hb]at q
  by_cases hbe:b=e
  .have q':H b=some (.own x):=by
    rcases he with z|z
    .exact absurd (hbe.trans z) hb
    .rw[hbe];exact z
   rw[q]at q';cases q';obtain⟨v,hv⟩:=heo;exact⟨v,by rw[hbe];exact hv⟩
  .refine(ok b u q).stay (λc v hc r=>k c v ?_ r) (λc r=>by rw[zv (nown c b r)];exact r) λc xs r=>by rw[zv (ntup c xs r)];exact r
   rcases hc with rfl|hc
   .exact hbe
   .rintro rfl
    rcases he with z|z
    .exact nown c b hc z
    .rw[hc]at z;cases z;exact hb rfl
end
structure Un (fs ex:List Addr) (H H':Hp) (h h':Heap):Prop where
 keep:∀b o,h.get? b=some o->H b=none->b∉fs->b∉ex->h'.get? b=some o
 slot:∀b o,h.get? b=some o->H b=none->b∈fs->b∉ex->∃sl,h'.get? b=some { o with slots:=sl }
 free:∀b o,h.get? b=some o->H b=none->b∉ex->H' b=none
 there:∀b o,h.get? b=some o->b∉ex->∃o',h'.get? b=some o'
 tups:∀b xs,H b=some (.tup xs)->H' b=some (.tup xs)
 frzs:∀b o u,H b=some (.frz o u)->H' b=some (.frz o u)
 tbls:∀b ps,H b=some (.tbl ps)->∃more,H' b=some (.tbl (ps++more))
section
variable {fs fs' ex ex':List Addr}{H1 H2:Hp}{h1 h2 h':Heap}{x e:Addr}{o:HO}
theorem Un.any(u:Un fs ex H H1 h h1){ob:Obj}(q:h.get? b=some ob)(n:H b=none)(hx:b∉ex):∃sl,h1.get? b=some { ob with slots:=sl }:=by
 by_cases hb:b∈fs
 .exact u.slot b ob q n hb hx
 .exact⟨ob.slots,u.keep b ob q n hb hx⟩
theorem Un.kept(k:∀b u,h.get? b=some u->h'.get? b=some u):Un fs ex H H h h':=
 ⟨λb ob q _ _ _=>k b ob q,λb ob q _ _ _=>⟨ob.slots,k b ob q⟩,λ_ _ _ n _=>n,λb ob q _=>⟨ob,k b ob q⟩,λ_ _ q=>q,λ_ _ _ q=>q,λ_ ps q=>⟨#[],by rw[q];simp⟩⟩
theorem Un.refl:Un fs ex H H h h:=Un.kept λ_ _ q=>q
theorem Un.laid(k:∀b u,h.get? b=some u->h'.get? b=some u)(hp:h.objs.size<=a)(hn:H a=none):Un fs ex H (upd H a o) h h' where
 keep:=λb u q _ _ _=>k b u q
 slot:=λb u q _ _ _=>⟨u.slots,k b u q⟩
 free:=λb u q n _=>by rw[zv (Nat.ne_of_lt (Nat.lt_of_lt_of_le (Heap.lt_size q) hp))];exact n
 there:=λb u q _=>⟨u,k b u q⟩
 tups:=λb xs q=>by rw[zv (yu q hn)];exact q
 frzs:=λb u xs q=>by rw[zv (yu q hn)];exact q
 tbls:=λb ps q=>⟨#[],by rw[zv (yu q hn),q];simp⟩
theorem Un.write(mu:Mut (H x))(he:e=x\/H e=some (.own x))(k:∀b u,b≠e->h.get? b=some u->h'.get? b=some u)(heo:∃u,h'.get? e=some u):Un fs ex H (upd H x o) h h':=by
 have hx:∀b,H b=none->b≠x:=λb n z=>by subst z;rw[n]at mu;exact mu
 have hb:∀b,H b=none->b≠e:=λb n z=>by
  subst z;rcases he with r|r
  .exact hx b n r
  .rw[n]at r;cases r
 have hm:∀b u,H b=some u->¬Mut (some u)->b≠x:=λb u q nm z=>by subst z;rw[q]at mu;exact nm mu
 refine⟨fun b u q n _ _=>k b u (hb b n) q,fun b u q n _ _=>⟨u.slots,k b u (hb b n) q⟩,fun b u q n _=>by rw [zv (hx b n)];exact n,fun b u q _=>?_,
  λb xs q=>by rw[zv (hm b _ q λz=>z)];exact q,λb u xs q=>by rw[zv (hm b _ q λz=>z)];exact q,λb ps q=>⟨#[],by rw[zv (hm b _ q λz=>z),q];simp⟩⟩
 by_cases hbe:b=e
 .subst hbe;exact heo
 .exact⟨u,k b u hbe q⟩
end
noncomputable def trk(h:Heap)(H:Hp):List Addr:=(List.range h.objs.size).filter λa=>(H a).isSome
noncomputable def jp(h:Heap)(H:Hp):Heap:=PySem.W.hideAll h (trk h H)
theorem zaw(h:Heap)(H:Hp):(jp h H).objs.size=h.objs.size:=PySem.W.hideAll_size _ _
theorem zcp{o:Obj}(e:h.get? b=some o)(n:H b=none):(jp h H).get? b=some o:=
 PySem.W.hideAll_get _ e λhm=>by
  have q:(H b).isSome=true:=(List.mem_filter.mp hm).2;rw[n]at q;simp at q
theorem zfh{o:Obj}(e:(jp h H).get? b=some o):h.get? b=some o/\H b=none:=by
 have e':h.get? b=some o:=PySem.W.of_hideAll (trk h H) e;refine⟨e',?_⟩;cases q:H b with
 |none=>rfl
 |some x=>
  have hm:b∈trk h H:=List.mem_filter.mpr ⟨List.mem_range.mpr (Heap.lt_size e'),by simp[q]⟩;have z:(jp h H).get? b=none:=PySem.W.hideAll_none (trk h H) hm;rw[z]at e;cases e
noncomputable def zfi(g h:Heap)(L:Addr):List (Addr×Obj):=(List.range h.objs.size).filterMap λa=>if a=L\/(g.get? a).isSome=true then none else(h.get? a).map λo=>(a,o)
noncomputable def y6(g h:Heap)(L d:Addr):List (Addr×Obj):=(zfi g h L).filter λp=>decide (p.1≠d)
structure Mod (K:W.Frag) (mg:Str->Option Value) (base:Heap):Prop where
 kin:K.In base
 glob:base.Ns mainGlobals mg
 blt:∃mb,base.Ns builtinsNs mb/\∀x:Str,x≠"__name__"->mb x=bootBuiltins x
 nolimit:base.NoLimit
structure Cx where
 prog:Program
 w:World
 K:W.Frag
 mg:Str->Option Value
 base:Heap
 A:Around
 N:List Str
 s₀:Shared
 H₀:Hp
 env:Env
 outer:List Env
 stack:List Env
 ex:List Addr
 fn:Str->Bool
 calm:Bool
 pn:List (Addr×Obj)
 xe:Value->Shared->Prop
variable {X:Cx}
noncomputable def frs(l:List Env):List Addr:=l.filterMap (·.frame)
noncomputable abbrev Cx.fs(X:Cx):List Addr:=frs X.outer
noncomputable def Vis(sc:Scope)(x:Str):Prop:=sc.names.lookup x=some .local\/sc.names.lookup x=some .cell\/sc.names.lookup x=some .free
noncomputable def Loc(sc:Scope)(x:Str):Prop:=sc.names.lookup x=some .local\/sc.names.lookup x=some .cell
noncomputable def Look(env:Env)(h:Heap)(m:Str->Option Value)(x:Str)(u:Value):Prop:=
 (env.kindOf x=some .local/\m x=some u)\/((env.kindOf x=some .cell\/env.kindOf x=some .free)/\∃c,env.cells.lookup x=some c/\h.IsCell c (some u))
structure Cx.Ok (X:Cx):Prop where
 mod:Mod X.K X.mg X.base
 kind:X.env.scope.kind=.function
 glob:X.env.globals=mainGlobals
 blt:X.env.builtins=builtinsNs
 above:X.s₀.heap.objs.size<=X.env.locals
 inj:∀x y c,X.env.cells.lookup x=some c->X.env.cells.lookup y=some c->x=y
 has:∀x,(X.env.kindOf x=some .cell\/X.env.kindOf x=some .free)->∃c,X.env.cells.lookup x=some c
 cab:∀x c,X.fn x=true->X.env.cells.lookup x=some c->X.s₀.heap.objs.size<=c
 hd:X.calm=true->X.A.handled=none
 frames:X.A.frames=some X.stack
 stk:X.stack=X.outer\/(X.stack=X.env::X.outer/\X.env.frame=some X.env.locals)
 exf:∀b∈X.ex,b≠X.env.locals/\∀x c,X.env.cells.lookup x=some c->c≠b
 bs:∀b o,X.base.get? b=some o->X.s₀.heap.get? b=some o/\X.H₀ b=none
 bsz:X.base.objs.size<=X.s₀.heap.objs.size
 noex:∀b o,X.base.get? b=some o->b∉X.ex
 exfs:∀b∈X.ex,b∉X.fs
 funs:X.s₀.heap.FunFrames X.base X.outer
 frf:∀b∈X.fs,X.H₀ b=none
structure Inv (X:Cx) (pins:List (Addr×Obj)) (σ:List (Option V)) (H:Hp) (s:Shared):Prop where
 ok:X.Ok
 os:s.os=X.s₀.os
 bare:AllBare s.gens
 base:Un X.fs X.ex X.H₀ H X.s₀.heap s.heap
 loc:∃m,s.heap.Ns X.env.locals m/\∀(i:Nat) (x:Str) (v:V),X.N[i]? =some x->σ[i]? =some (some v)->Vis X.env.scope x->∃u,RelV v u/\Look X.env s.heap m x u
 cell:∀x c,X.env.cells.lookup x=some c->∃v,s.heap.IsCell c v
 free:H X.env.locals=none
 freeC:∀x c,X.env.cells.lookup x=some c->H c=none
 pin:∀p∈X.pn++pins,s.heap.get? p.1=some p.2/\H p.1=none/\p.1≠X.env.locals/\p.1∉X.fs/\∀v,p.2.data≠.cell v
 hok:HOk X.prog X.w H s.heap
 len:σ.length=X.N.length
section
variable {σ:List (Option V)}{H':Hp}{h':Heap}
theorem Cx.Ok.nofr(ok:X.Ok){o:Obj}(e:X.base.get? b=some o):b∉X.fs:=λhb=>by
 have:=(ok.funs.mem hb).1;rw[e]at this;cases this
theorem Inv.bs(I:Inv X pins σ H s):∀b o,X.base.get? b=some o->s.heap.get? b=some o/\H b=none:=λb o e=>
 ⟨I.base.keep b o (I.ok.bs b o e).1 (I.ok.bs b o e).2 (I.ok.nofr e) (I.ok.noex b o e),I.base.free b o (I.ok.bs b o e).1 (I.ok.bs b o e).2 (I.ok.noex b o e)⟩
theorem Inv.bk(I:Inv X pins σ H s):∀b o,X.base.get? b=some o->s.heap.get? b=some o:=λb o e=>(I.bs b o e).1
theorem Inv.mod(I:Inv X pins σ H s):Mod X.K X.mg X.base:=I.ok.mod
theorem Inv.kIn(I:Inv X pins σ H s):X.K.In s.heap:=I.ok.mod.kin.keeps I.bk
theorem Inv.lt(I:Inv X pins σ H s):X.env.locals<s.heap.objs.size:=let⟨_,hn,_⟩:=I.loc;hn.lt
theorem Inv.sz(I:Inv X pins σ H s):X.s₀.heap.objs.size<=s.heap.objs.size:=Nat.le_trans I.ok.above (Nat.le_of_lt I.lt)
theorem Inv.nofs(I:Inv X pins σ H s)(h:s.heap.objs.size<=a):a∉X.fs:=λhb=>by
 obtain⟨_,o,ho,_⟩:=I.ok.funs.mem hb;exact absurd (Nat.lt_of_lt_of_le (Heap.lt_size ho) (Nat.le_trans I.sz h)) (Nat.lt_irrefl _)
theorem Inv.cne(I:Inv X pins σ H s):∀x c,X.env.cells.lookup x=some c->c≠X.env.locals:=λx c e z=>by
 obtain⟨v,o,ho,hd⟩:=I.cell x c e;obtain⟨m,⟨o',es,ep,ho',hd',_⟩,_⟩:=I.loc;rw[z,ho']at ho;cases ho;rw[hd']at hd;cases hd
theorem Inv.funs(I:Inv X pins σ H s):s.heap.FunFrames X.base X.outer:=by
 have all:∀(l:List Env),(∀b∈frs l,b∈X.fs)->X.s₀.heap.FunFrames X.base l->s.heap.FunFrames X.base l:=by
  intro l
  induction l with
  |nil=>intro _ _;trivial
  |cons env r ih=>
   intro hs hl;obtain⟨hk,⟨L,o,hf,hn,ho,hd⟩,hr⟩:=hl;have hL:L∈X.fs:=hs L (by unfold frs;rw[List.filterMap_cons,hf];exact List.mem_cons_self);obtain⟨sl,e⟩:=I.base.slot L o ho (I.ok.frf L hL) hL λz=>I.ok.exfs L z hL;exact⟨hk,⟨L,_,hf,hn,e,hd⟩,ih (λb hb=>hs b (by unfold frs;rw[List.filterMap_cons,hf];exact List.mem_cons_of_mem _ hb)) hr⟩
 exact all X.outer (λ_ hb=>hb) I.ok.funs
theorem Inv.stack(I:Inv X pins σ H s):s.heap.FunFrames X.base X.stack:=by
 rcases I.ok.stk with e|⟨e,hf⟩
 .rw[e];exact I.funs
 .rw[e]
  obtain⟨m,hn,_⟩:=I.loc;refine .cons (by rw[I.ok.kind];decide) hf hn ?_ I.funs;exact Heap.get?_none_of_le (Nat.le_trans I.ok.bsz I.ok.above)
theorem Inv.stkSub(I:Inv X pins σ H s):∀b∈frs X.stack,b∈X.env.locals::X.fs:=λb hb=>by
 rcases I.ok.stk with e|⟨e,hf⟩
 .rw[e]at hb;exact List.mem_cons_of_mem _ hb
 .rw[e]at hb
  unfold frs at hb;rw[List.filterMap_cons,hf]at hb;exact hb
theorem Inv.stkFree(I:Inv X pins σ H s):∀b∈frs X.stack,H b=none:=λb hb=>by
 rcases List.mem_cons.mp (I.stkSub b hb)with e|hb
 .rw[e];exact I.free
 .obtain⟨_,o,ho,_⟩:=I.ok.funs.mem hb
  exact I.base.free b o ho (I.ok.frf b hb) λz=>I.ok.exfs b z hb
theorem Inv.step{g':Array GenState}{t':Nat}{d':Drawn}{ch:List Addr}(I:Inv X pins σ H s)
  (hch:∀b∈ch,(b∈X.ex\/X.s₀.heap.objs.size<=b)/\b≠X.env.locals/\(∀x c,X.env.cells.lookup x=some c->c≠b)/\∀p∈X.pn++pins,p.1≠b)
  (keep:∀b o,b≠X.env.locals->b∉X.fs->b∉ch->s.heap.get? b=some o->H b=none->h'.get? b=some o)
  (slot:∀b o,b≠X.env.locals->b∈X.fs->b∉ch->s.heap.get? b=some o->H b=none->∃sl,h'.get? b=some { o with slots:=sl })(free:∀b o,b∉ch->s.heap.get? b=some o->H b=none->H' b=none)
  (there:∀b o,b∉ch->s.heap.get? b=some o->∃o',h'.get? b=some o')
  (tups:∀b xs,H b=some (.tup xs)->H' b=some (.tup xs))(frzs:∀b o u,H b=some (.frz o u)->H' b=some (.frz o u))(tbls:∀b ps,H b=some (.tbl ps)->∃more,H' b=some (.tbl (ps++more)))
  (ns:∀m,s.heap.Ns X.env.locals m->h'.Ns X.env.locals m)(hok:HOk X.prog X.w H' h')(hg:AllBare g') :
  Inv X pins σ H' { s with heap:=h',gens:=g',drawn:=d',toks:=t' }:=by
 have neL:∀b o,X.s₀.heap.get? b=some o->b≠X.env.locals:=λb o e=>Nat.ne_of_lt (Nat.lt_of_lt_of_le (Heap.lt_size e) I.ok.above);have neC:∀b o,X.s₀.heap.get? b=some o->b∉X.ex->b∉ch:=λb o e hx hb=>by
  rcases(hch b hb).1 with z|z
  .exact hx z
  .exact absurd (Nat.lt_of_lt_of_le (Heap.lt_size e) z) (Nat.lt_irrefl _)
 have K0:∀x c,X.env.cells.lookup x=some c->∀v,s.heap.IsCell c v->h'.IsCell c v:=λx c e v ⟨o,ho,hd⟩=>by
  have nch:c∉ch:=λz=>(hch c z).2.2.1 x c e rfl;by_cases hc:c∈X.fs
  .obtain⟨sl,q⟩:=slot c o (I.cne x c e) hc nch ho (I.freeC x c e)
   exact⟨_,q,hd⟩
  .exact⟨o,keep c o (I.cne x c e) hc nch ho (I.freeC x c e),hd⟩
 refine⟨I.ok,I.os,hg,⟨λb o e n hb hx=>?_,λb o e n hb hx=>?_,λb o e n hx=>?_,λb o e hx=>?_,λb xs e=>tups b xs (I.base.tups b xs e),λb o xs e=>frzs b o xs (I.base.frzs b o xs e),λb ps e=>?_⟩,?_,λx c e=>?_,?_,λx c e=>?_,λp hp=>?_,hok,I.len⟩
 .exact keep b o (neL b o e) hb (neC b o e hx) (I.base.keep b o e n hb hx) (I.base.free b o e n hx)
 .obtain⟨sl,e1⟩:=I.base.slot b o e n hb hx
  obtain⟨sl',e2⟩:=slot b _ (neL b o e) hb (neC b o e hx) e1 (I.base.free b o e n hx);exact⟨sl',e2⟩
 .obtain⟨o',e1⟩:=I.base.there b o e hx
  exact free b o' (neC b o e hx) e1 (I.base.free b o e n hx)
 .obtain⟨o',e1⟩:=I.base.there b o e hx
  exact there b o' (neC b o e hx) e1
 .obtain⟨m1,e1⟩:=I.base.tbls b ps e
  obtain⟨m2,e2⟩:=tbls b _ e1;exact⟨m1++m2,by rw[e2,Array.append_assoc]⟩
 .obtain⟨m,hn,hl⟩:=I.loc
  refine⟨m,ns m hn,λi x v e1 e2 e3=>?_⟩;obtain⟨u,r,l⟩:=hl i x v e1 e2 e3;refine⟨u,r,?_⟩;rcases l with l|⟨k,c,e,z⟩
  .exact .inl l
  .exact .inr ⟨k,c,e,K0 x c e _ z⟩
 .obtain⟨v,z⟩:=I.cell x c e
  exact⟨v,K0 x c e v z⟩
 .obtain⟨m,⟨o,_,_,ho,_⟩,_⟩:=I.loc
  exact free _ o (λz=>(hch _ z).2.1 rfl) ho I.free
 .obtain⟨v,o,ho,hd⟩:=I.cell x c e
  exact free c o (λz=>(hch c z).2.2.1 x c e rfl) ho (I.freeC x c e)
 .obtain⟨e,n,ne,nf,d⟩:=I.pin p hp
  have nch:p.1∉ch:=λz=>(hch p.1 z).2.2.2 p hp rfl;exact⟨keep p.1 p.2 ne nf nch e n,free p.1 p.2 nch e n,ne,nf,d⟩
theorem Inv.un{t':Nat}(I:Inv X pins σ H s)(u:Un X.fs [] H H' s.heap h')(hok:HOk X.prog X.w H' h'):Inv X pins σ H' { s with heap:=h',toks:=t' }:=by
  obtain⟨m,⟨o,es,ep,ho,r⟩,_⟩:=id I.loc;obtain⟨sl,hL⟩:=u.any ho I.free (by simp);exact I.step (g':=s.gens) (d':=s.drawn) (ch:=[]) (fun _ z=>nomatch z) (fun b o _ hb _ e n=>u.keep b o e n hb (by simp)) (fun b o _ hb _ e n=>u.slot b o e n hb (by simp)) (fun b o _ e n=>u.free b o e n (by simp)) (fun b o _ e=>u.there b o e (by simp)) u.tups u.frzs u.tbls (fun m' hm=>by
    obtain⟨o',es',ep',ho',r'⟩:=hm;rw[ho]at ho';cases ho';exact⟨_,es',ep',hL,r'⟩) hok I.bare
theorem Inv.call{g':Array GenState}{t':Nat}{d':Drawn}{ch:List Addr}(I:Inv X pins σ H s)(u:Un (frs X.stack) ch H H' s.heap h')(hok:HOk X.prog X.w H' h')(hg:AllBare g')
    (hch:∀b∈ch,(b∈X.ex\/X.s₀.heap.objs.size<=b)/\b≠X.env.locals/\(∀x c,X.env.cells.lookup x=some c->c≠b)/\∀p∈X.pn++pins,p.1≠b) :
    Inv X pins σ H' { s with heap:=h',gens:=g',drawn:=d',toks:=t' }:=by
  obtain⟨m,⟨o,es,ep,ho,r⟩,_⟩:=id I.loc;obtain⟨sl,hL⟩:=u.any ho I.free λz=>(hch _ z).2.1 rfl;exact I.step (ch:=ch) hch (fun b o hL hb hc e n=>u.keep b o e n (fun z=>(List.mem_cons.mp (I.stkSub b z)).elim hL hb) hc) (fun b o _ _ hc e n=>u.any e n hc) (fun b o hc e n=>u.free b o e n hc) (fun b o hc e=>u.there b o e hc) u.tups u.frzs u.tbls (fun m' hm=>by
    obtain⟨o',es',ep',ho',r'⟩:=hm;rw[ho]at ho';cases ho';exact⟨_,es',ep',hL,r'⟩) hok hg
theorem Inv.turned{t':Nat}{it:Addr}(I:Inv X pins σ H s)(k:∀b o,b≠it->s.heap.get? b=some o->h'.get? b=some o)(hn:H it=none)(hL:it≠X.env.locals)
  (h1:it∈X.ex\/X.s₀.heap.objs.size<=it)(h2:∀x c,X.env.cells.lookup x=some c->c≠it)(h3:∀p∈X.pn++pins,p.1≠it):Inv X pins σ H { s with heap:=h',toks:=t' }:=by
 have nit:∀b u,H b=some u->b≠it:=λb u e z=>by rw[z,hn]at e;cases e
 refine I.step (g':=s.gens) (d':=s.drawn) (ch:=[it]) (λb hb=>?_) (λb o _ _ hc e _=>k b o (λz=>hc (by simp[z])) e) (λb o _ _ hc e _=>⟨o.slots,k b o (λz=>hc (by simp[z])) e⟩) (λ_ _ _ _ n=>n)
  (λb o hc e=>⟨o,k b o (λz=>hc (by simp[z])) e⟩) (λ_ _ e=>e) (λ_ _ _ e=>e) (λb ps e=>⟨#[],by rw[e];simp⟩) (λm hm=>?_) (λb u e=>?_) I.bare
 .have e:b=it:=by simpa using hb
  subst e;exact⟨h1,hL,h2,h3⟩
 .obtain⟨o,es,ep,ho,r⟩:=hm
  exact⟨o,es,ep,k _ o (Ne.symm hL) ho,r⟩
 .refine(I.hok b u e).stay (λc v hc q=>k c v ?_ q) (λ_ q=>q) λ_ _ q=>q
  rcases hc with z|z
  .rw[z];exact nit b u e
  .exact nit c _ z
theorem Inv.tok(I:Inv X pins σ H s)(t:Nat):Inv X pins σ H { s with toks:=t }:=I.un (h':=s.heap) (t':=t) Un.refl I.hok
theorem Inv.kept{t':Nat}(I:Inv X pins σ H s)(k:∀b u,s.heap.get? b=some u->h'.get? b=some u):Inv X pins σ H { s with heap:=h',toks:=t' }:=I.un (Un.kept k) (I.hok.kept k)
theorem Inv.laid{o:HO}{t':Nat}(I:Inv X pins σ H s)(k:∀b u,s.heap.get? b=some u->h'.get? b=some u)(hp:s.heap.objs.size<=a)(new:ym X.prog X.w (upd H a o) h' a o) :
  Inv X pins σ (upd H a o) { s with heap:=h',toks:=t' }:=I.un (Un.laid k hp (I.hok.fresh hp)) (I.hok.laid k hp new)
theorem Inv.write{x e:Addr}{o:HO}{t':Nat}(I:Inv X pins σ H s)(mu:Mut (H x))(he:e=x\/H e=some (.own x))(k:∀b u,b≠e->s.heap.get? b=some u->h'.get? b=some u)(heo:∃u,h'.get? e=some u)
  (new:ym X.prog X.w (upd H x o) h' x o):Inv X pins σ (upd H x o) { s with heap:=h',toks:=t' }:=I.un (Un.write mu he k heo) (I.hok.write mu he k heo new)
theorem Inv.pins_of{pins':List (Addr×Obj)}(I:Inv X pins σ H s)(h:∀p∈pins',s.heap.get? p.1=some p.2/\H p.1=none/\p.1≠X.env.locals/\p.1∉X.fs/\∀v,p.2.data≠.cell v):Inv X pins' σ H s:=
 ⟨I.ok,I.os,I.bare,I.base,I.loc,I.cell,I.free,I.freeC,λp hp=>(List.mem_append.mp hp).elim (λz=>I.pin p (List.mem_append_left _ z)) (h p),I.hok,I.len⟩
theorem VM(hN:N.Nodup){j:Nat}(a:N[i]? =some x)(b:N[j]? =some x):i=j:=by
 obtain⟨h1,e1⟩:=List.getElem?_eq_some_iff.mp a;obtain⟨h2,e2⟩:=List.getElem?_eq_some_iff.mp b;exact(List.getElem_inj hN).mp (e1.trans e2.symm)
theorem XG{M:Model}{Q:Unit->Shared->Prop}(I:Inv X pins σ H s)(hN:X.N.Nodup)(hi:X.N[i]? =some x)(hx:Loc X.env.scope x)(r:RelV v u)
  (h:∀s',Inv X pins (σ.set i (some v)) H s'->(∃a,Heap.SameBut a s.heap s'.heap/\(a=X.env.locals\/X.env.cells.lookup x=some a))->Q () s')(hf:X.fn x=true\/X.env.scope.names.lookup x=some .local:=by first|exact .inl rfl|exact .inr rfl|assumption):wpAny M A (storeName X.env x u) Q E s:=by
 obtain⟨m,hn,hl⟩:=id I.loc;have hcls:(X.env.scope.kind == .class||(X.env.scope.kind == .module&&X.env.locals != X.env.globals))=false:=by rw[I.ok.kind];rfl
 have hiσ:i<σ.length:=by rw[I.len];exact(List.getElem?_eq_some_iff.mp hi).1
 have cne:=I.cne;have tracked:∀{a:Addr}{h':Heap},(∃o,s.heap.get? a=some o/\H a=none)->Heap.SameBut a s.heap h'->HOk X.prog X.w H h':=λ{a h'} ha hs b ob e=>by
  obtain⟨_,_,hfree⟩:=ha;refine(I.hok b ob e).stay (λc w' hc q=>(hs.2 c ?_).trans q) (λ_ q=>q) λ_ _ q=>q;rintro rfl;rcases hc with rfl|hc
  .rw[hfree]at e;cases e
  .rw[hfree]at hc;cases hc
 rcases hx with hk|hk
 .refine wpAny_storeName_local hk hn (λh' hn' hs=>?_) hcls
  obtain⟨oL,_,_,hoL,_⟩:=id hn;refine h _ ⟨I.ok,I.os,I.bare,⟨λb o e n hb hx=>?_,λb o e n hb hx=>?_,I.base.free,λb o e hx=>?_,I.base.tups,I.base.frzs,I.base.tbls⟩,⟨_,hn',λj y v' e1 e2 e3=>?_⟩,λy c e=>?_,I.free,I.freeC,λp hp=>?_,tracked ⟨oL,hoL,I.free⟩ hs,by simpa using I.len⟩ ⟨_,hs,.inl rfl⟩
  .exact(hs.2 b (Nat.ne_of_lt (Nat.lt_of_lt_of_le (Heap.lt_size e) I.ok.above))).trans (I.base.keep b o e n hb hx)
  .obtain⟨sl,e1⟩:=I.base.slot b o e n hb hx
   exact⟨sl,(hs.2 b (Nat.ne_of_lt (Nat.lt_of_lt_of_le (Heap.lt_size e) I.ok.above))).trans e1⟩
  .obtain⟨o',e1⟩:=I.base.there b o e hx
   exact⟨o',(hs.2 b (Nat.ne_of_lt (Nat.lt_of_lt_of_le (Heap.lt_size e) I.ok.above))).trans e1⟩
  .by_cases hj:j=i
   .subst hj
    rw[hi]at e1;cases e1;rw[List.getElem?_set_self hiσ]at e2;cases e2;exact⟨u,r,.inl ⟨hk,by simp⟩⟩
   .rw[List.getElem?_set_ne (Ne.symm hj)]at e2
    obtain⟨u',r',q⟩:=hl j y v' e1 e2 e3;refine⟨u',r',?_⟩;rcases q with⟨k,e⟩|⟨k,c,e,z⟩
    .refine .inl ⟨k,?_⟩
     have:y≠x:=λe=>hj (VM hN e1 (e▸hi));simp[this,e]
    .exact .inr ⟨k,c,e,z.sameBut hs (cne y c e)⟩
  .obtain⟨w',z⟩:=I.cell y c e
   exact⟨w',z.sameBut hs (cne y c e)⟩
  .obtain⟨e,n,ne,nf,d⟩:=I.pin p hp
   exact⟨(hs.2 p.1 ne).trans e,n,ne,nf,d⟩
 .have hfn:X.fn x=true:=by
   rcases hf with z|z
   .exact z
   .rw[z]at hk;cases hk
  obtain⟨c,hc⟩:=I.ok.has x (.inl hk);obtain⟨w',z⟩:=I.cell x c hc;refine wpAny_storeName_cell I.ok.kind hk hc z (λh' hc' hs=>?_);obtain⟨oc,hoc,hocd⟩:=id z;refine h { s with heap:=h' } ⟨I.ok,I.os,I.bare,⟨λb o e n hb hx=>?_,λb o e n hb hx=>?_,I.base.free,λb o e hx=>?_,I.base.tups,I.base.frzs,I.base.tbls⟩,⟨m,hn.sameBut hs (Ne.symm (cne x c hc)),λj y v' e1 e2 e3=>?_⟩,λy c' e=>?_,I.free,I.freeC,λp hp=>?_,tracked ⟨oc,hoc,I.freeC x c hc⟩ hs,by simpa using I.len⟩ ⟨c,hs,.inr hc⟩
  .exact(hs.2 b (Nat.ne_of_lt (Nat.lt_of_lt_of_le (Heap.lt_size e) (I.ok.cab x c hfn hc)))).trans (I.base.keep b o e n hb hx)
  .obtain⟨sl,e1⟩:=I.base.slot b o e n hb hx
   exact⟨sl,(hs.2 b (Nat.ne_of_lt (Nat.lt_of_lt_of_le (Heap.lt_size e) (I.ok.cab x c hfn hc)))).trans e1⟩
  .obtain⟨o',e1⟩:=I.base.there b o e hx
   exact⟨o',(hs.2 b (Nat.ne_of_lt (Nat.lt_of_lt_of_le (Heap.lt_size e) (I.ok.cab x c hfn hc)))).trans e1⟩
  .by_cases hj:j=i
   .subst hj
    rw[hi]at e1;cases e1;rw[List.getElem?_set_self hiσ]at e2;cases e2;exact⟨u,r,.inr ⟨.inl hk,c,hc,hc'⟩⟩
   .rw[List.getElem?_set_ne (Ne.symm hj)]at e2
    obtain⟨u',r',q⟩:=hl j y v' e1 e2 e3;refine⟨u',r',?_⟩;rcases q with q|⟨k,c',e,z'⟩
    .exact .inl q
    .refine .inr ⟨k,c',e,z'.sameBut hs ?_⟩
     rintro rfl;exact hj (VM hN e1 (I.ok.inj _ _ _ e hc▸hi))
  .by_cases hcc:c'=c
   .subst hcc;exact⟨_,hc'⟩
   .obtain⟨w2,z2⟩:=I.cell y c' e
    exact⟨w2,z2.sameBut hs hcc⟩
  .obtain⟨e,n,ne,nf,d⟩:=I.pin p hp
   refine⟨(hs.2 p.1 ?_).trans e,n,ne,nf,d⟩;intro q;rw[q,hoc]at e;have q':oc=p.2:=Option.some.inj e;exact d w' (by rw[<-q'];exact hocd)
theorem VN{M:Model}{Q:Unit->Shared->Prop}(I:Inv X pins σ H s)(hN:X.N.Nodup)(hi:X.N[i]? =some x)(hx:Loc X.env.scope x)(r:RelV v u)
  (h:∀s',Inv X pins (σ.set i (some v)) H s'->Q () s')(hf:X.fn x=true\/X.env.scope.names.lookup x=some .local:=by first|exact .inl rfl|exact .inr rfl|assumption):wpAny M A (storeName X.env x u) Q E s:=
 XG I hN hi hx r (λs' I' _=>h s' I') hf
theorem Inv.call'{s':Shared}{ch:List Addr}(I:Inv X pins σ H s)(ho:s'.os=s.os)(u:Un (frs X.stack) ch H H' s.heap s'.heap)(hok:HOk X.prog X.w H' s'.heap)(hg:AllBare s'.gens)
  (hch:∀b∈ch,(b∈X.ex\/X.s₀.heap.objs.size<=b)/\b≠X.env.locals/\(∀x c,X.env.cells.lookup x=some c->c≠b)/\∀p∈X.pn++pins,p.1≠b):Inv X pins σ H' s':=by
 obtain⟨h',g',d',t',o'⟩:=s';have e:o'=s.os:=ho;subst e;exact I.call (g':=g') (t':=t') (d':=d') u hok hg hch
end
noncomputable abbrev XK:=Value->Option Addr->Hp->Prop
noncomputable abbrev St:=List (Option V)
variable {σ:St}
noncomputable abbrev VK:=V->Hp->Prop
noncomputable abbrev TE:=St->Hp->VK->Prop
variable {ta:TE}
noncomputable abbrev TT:=St->Hp->(Bool->Hp->Prop)->Prop
noncomputable abbrev TA:=St->Hp->(List V->Hp->Prop)->Prop
variable {t:TA}
structure Ends where
 nx:St->Hp->Prop
 rt:VK
 bk:St->Hp->Prop:=λ_ _=>False
 ct:St->Hp->Prop:=λ_ _=>False
noncomputable abbrev TS:=Ends->St->Hp->Prop
noncomputable def EP(X:Cx)(pins:List (Addr×Obj))(σ:St)(Q:VK)(u:Value)(s':Shared):Prop:=∃v H',Inv X pins σ H' s'/\RelV v u/\Q v H'
noncomputable def TP(X:Cx)(pins:List (Addr×Obj))(σ:St)(Q:Bool->Hp->Prop)(b:Bool)(s':Shared):Prop:=∃H',Inv X pins σ H' s'/\Q b H'
noncomputable def AP(X:Cx)(pins:List (Addr×Obj))(σ:St)(Q:List V->Hp->Prop)(us:List Value)(s':Shared):Prop:=∃vs H',Inv X pins σ H' s'/\Vals vs us/\Q vs H'
noncomputable def SP(X:Cx)(pins:List (Addr×Obj))(D:Ends)(f:Flow)(s':Shared):Prop:=
 match f with
 |.next=>∃σ' H',Inv X pins σ' H' s'/\D.nx σ' H'
 |.brk=>∃σ' H',Inv X pins σ' H' s'/\D.bk σ' H'
 |.cont=>∃σ' H',Inv X pins σ' H' s'/\D.ct σ' H'
 |.ret u=>∃v σ' H',Inv X pins σ' H' s'/\RelV v u/\D.rt v H'
noncomputable def PE(X:Cx)(e:Expr)(t:TE):Prop:=
 ∀(pins:List (Addr×Obj)) (s:Shared) (σ:St) (H:Hp) (Q:VK),Inv X pins σ H s->t σ H Q->wpAny (model X.prog X.w) X.A (eval e X.env) (EP X pins σ Q) X.xe s
noncomputable def PT(X:Cx)(e:Expr)(t:TT):Prop:=
 ∀(pins:List (Addr×Obj)) (s:Shared) (σ:St) (H:Hp) (Q:Bool->Hp->Prop),Inv X pins σ H s->t σ H Q->wpAny (model X.prog X.w) X.A (isTrue e X.env (eval e X.env)) (TP X pins σ Q) X.xe s
noncomputable def PW(X:Cx)(e:Expr)(t:TT):Prop:=
 ∀(whole:Sem Value) (pins:List (Addr×Obj)) (s:Shared) (σ:St) (H:Hp) (Q:Bool->Hp->Prop),Inv X pins σ H s->t σ H Q->wpAny (model X.prog X.w) X.A (isTrue e X.env whole) (TP X pins σ Q) X.xe s
theorem PW.pt{t:TT}(h:PW X e t):PT X e t:=h _
noncomputable def PA(X:Cx)(es:List Expr)(t:TA):Prop:=
 ∀(pos:Pos) (pins:List (Addr×Obj)) (s:Shared) (σ:St) (H:Hp) (Q:List V->Hp->Prop),Inv X pins σ H s->t σ H Q->wpAny (model X.prog X.w) X.A (spliced (backTo pos (starEach es X.env))) (AP X pins σ Q) X.xe s
noncomputable def PS(X:Cx)(st:Stmt)(t:TS):Prop:=
 ∀(pins:List (Addr×Obj)) (s:Shared) (σ:St) (H:Hp) (D:Ends),Inv X pins σ H s->t D σ H->wpAny (model X.prog X.w) X.A (exec st X.env) (SP X pins D) X.xe s
noncomputable def PSs(X:Cx)(st:List Stmt)(t:TS):Prop:=
 ∀(pins:List (Addr×Obj)) (s:Shared) (σ:St) (H:Hp) (D:Ends),Inv X pins σ H s->t D σ H->wpAny (model X.prog X.w) X.A (execs st X.env) (SP X pins D) X.xe s
theorem thn{α:Type}{t:Sem α}{Q Q':α->Shared->Prop}{M:Model}(h:wpAny M A t Q E s)(hQ:∀a s,Q a s->Q' a s):wpAny M A t Q' E s:=wpAny_mono h hQ λ_ _ x=>x
section
noncomputable def JY(i:Nat):TE:=λσ H Q=>∃v,σ[i]? =some (some v)/\Q v H
noncomputable def tC(v:V):TE:=λ_ H Q=>Q v H
theorem zha(hN:X.N[i]? =some x)(hv:Vis X.env.scope x)(hd:(x==("__debug__":Str))=false:=by decide)(hcd:(x==("__classdict__":Str))=false:=by decide):PE X (.Name x pos) (JY i):=by
 intro pins s σ H Q I h;obtain⟨v,e,h⟩:=h;obtain⟨m,hn,hl⟩:=I.loc;obtain⟨u,r,l⟩:=hl i x v hN e hv;have fin:EP X pins σ Q u s:=⟨v,H,I,r,h⟩;rcases l with⟨hk,hm⟩|⟨hk,c,hc,hcell⟩
 .exact wpAny_Name (wpAny_loadName_local I.ok.kind hk hn hm fin) hd
 .rcases hk with hk|hk
  .exact wpAny_Name (wpAny_loadName_cell I.ok.kind hk hc hcell fin) hd
  .exact wpAny_Name (wpAny_loadName_free I.ok.kind hk hc hcell fin hcd) hd
theorem zc{i j pos}:PE X (.Constant (.int i) j pos) (tC (.int i)):=λ_ _ _ H _ I h=>wpAny_Constant_int ⟨.int i,H,I.tok _,⟨_,rfl⟩,h⟩
theorem yq{b j pos}:PE X (.Constant (.bool b) j pos) (tC (.bl b)):=λ_ _ _ H _ I h=>Constant_bool ⟨.bl b,H,I,rfl,h⟩
theorem yF{j pos}:PE X (.Constant .none j pos) (tC .non):=λ_ _ _ H _ I h=>Constant_none ⟨.non,H,I,rfl,h⟩
theorem zk{x j pos}:PE X (.Constant (.str x) j pos) (tC (.str x)):=λ_ _ _ H _ I h=>Calls.Constant_str ⟨.str x,H,I.tok _,⟨_,rfl⟩,h⟩
noncomputable def Gl(X:Cx)(x:Str):Prop:=X.env.kindOf x=some .globalImplicit
theorem qY(I:Inv X pins σ H s)(hg:Gl X x)(hm:X.mg x=some u)(h:Q u s)
  (hd:(x==("__debug__":Str))=false:=by decide):wpAny (model X.prog X.w) X.A (eval (.Name x pos) X.env) Q E s:=
 Calls.Name_function_global I.ok.kind hg (Calls.loadGlobal_global (by rw[I.ok.glob];exact I.mod.glob.keeps I.bk) hm h) hd
theorem vX(I:Inv X pins σ H s)(hg:Gl X x)(hm:X.mg x=none)(hv:bootBuiltins x=some u)(h:Q u s)
  (hn:x≠"__name__":=by decide)(hd:(x==("__debug__":Str))=false:=by decide):wpAny (model X.prog X.w) X.A (eval (.Name x pos) X.env) Q E s:=by
 obtain⟨mb,h1,h2⟩:=I.mod.blt;exact Calls.Name_function_global I.ok.kind hg (Calls.loadGlobal_builtin (by rw[I.ok.glob];exact I.mod.glob.keeps I.bk) hm (by rw[I.ok.blt];exact h1.keeps I.bk) ((h2 x hn).trans hv) h) hd
theorem uK(hg:Gl X x)(hm:X.mg x=some u)(r:RelV v u)(hd:(x==("__debug__":Str))=false:=by decide):PE X (.Name x pos) (tC v):=
 λ_ _ _ H _ I h=>qY I hg hm ⟨v,H,I,r,h⟩ hd
theorem YW(hg:Gl X x)(hm:X.mg x=none)(hv:bootBuiltins x=some u)(r:RelV v u)(hn:x≠"__name__":=by decide)(hd:(x==("__debug__":Str))=false:=by decide):PE X (.Name x pos) (tC v):=
 λ_ _ _ H _ I h=>vX I hg hm hv ⟨v,H,I,r,h⟩ hn hd
variable {a b:Expr}{tb:TE}
noncomputable def tB(t:TE):TT:=λσ H Q=>t σ H λx H1=>∃c,x=.bl c/\Q c H1
theorem yL{t:TE}(h:PE X e t)(he:∀whole,isTrue e X.env whole=(do let v<-whole;standAt e.pos;holding [v] (truthy v)):=by intro _;rfl):PT X e (tB t):=by
 intro pins s σ H Q I hw;refine isTrue_plain (thn (h pins s σ H _ I hw) λv s1 ⟨x,H1,I1,r1,q1⟩=>?_) (he _);obtain⟨d,rfl,q⟩:=q1;cases r1;exact wpAny_truthy_bool ⟨H1,I1,q⟩
variable {tA tB':TT}{y6:List Expr}
noncomputable def zhb(t u:TT):TT:=λσ H Q=>t σ H λc H1=>if c=true then u σ H1 Q else Q false H1
noncomputable def tOr(t u:TT):TT:=λσ H Q=>t σ H λc H1=>if c=true then Q true H1 else u σ H1 Q
noncomputable def zhc(t:TT):TT:=λσ H Q=>t σ H λc H1=>Q (!c) H1
theorem qZ(ha:PT X a tA):PW X (.BoolOp .And [a] pos) tA:=by
 intro wh pins s σ H Q I h;refine isTrue_and (thn (ha pins s σ H Q I h) λc s1 e=>?_);cases c with
 |true=>exact isTrue_and_nil e
 |false=>exact e
theorem vY(ha:PT X a tA):PW X (.BoolOp .Or [a] pos) tA:=by
 intro wh pins s σ H Q I h;refine isTrue_or (thn (ha pins s σ H Q I h) λc s1 e=>?_);cases c with
 |false=>exact isTrue_or_nil e
 |true=>exact e
theorem j3(ha:PT X a tA)(hb:PW X (.BoolOp .And (b::y6) pos) tB'):PW X (.BoolOp .And (a::b::y6) pos) (zhb tA tB'):=by
 intro wh pins s σ H Q I h;refine isTrue_and (thn (ha pins s σ H _ I h) λc s1 ⟨H1,I1,q1⟩=>?_);cases c with
 |true=>exact hb wh pins s1 σ H1 Q I1 q1
 |false=>exact⟨H1,I1,q1⟩
theorem uC(ha:PT X a tA)(hb:PW X (.BoolOp .Or (b::y6) pos) tB'):PW X (.BoolOp .Or (a::b::y6) pos) (tOr tA tB'):=by
 intro wh pins s σ H Q I h;refine isTrue_or (thn (ha pins s σ H _ I h) λc s1 ⟨H1,I1,q1⟩=>?_);cases c with
 |true=>exact⟨H1,I1,q1⟩
 |false=>exact hb wh pins s1 σ H1 Q I1 q1
theorem uQ(ha:PT X a tA):PT X (.UnaryOp .Not a pos) (zhc tA):=by
 intro pins s σ H Q I h;exact isTrue_not (ha pins s σ H (λc H1=>Q (!c) H1) I h)
noncomputable def zee(ta tb:TE):TE:=λσ H Q=>ta σ H λx H1=>∃c,x=.bl c/\if c=true then tb σ H1 Q else Q (.bl false) H1
noncomputable def zhd(ta tb:TE):TE:=λσ H Q=>ta σ H λx H1=>∃c,x=.bl c/\if c=true then Q (.bl true) H1 else tb σ H1 Q
noncomputable def zef(ta:TE):TE:=λσ H Q=>ta σ H λx H1=>∃c,x=.bl c/\Q (.bl (!c)) H1
theorem j4{op}{t:TE}(h:PE X a t):PE X (.BoolOp op [a] pos) t:=λpins s σ H Q I hw=>BoolOp_one (h pins s σ H Q I hw)
theorem j5(ha:PE X a ta)(hb:PE X (.BoolOp .And (b::y6) pos) tb):PE X (.BoolOp .And (a::b::y6) pos) (zee ta tb):=by
 intro pins s σ H Q I h;refine BoolOp_and (thn (ha pins s σ H _ I h) λv s1 ⟨x,H1,I1,r1,q1⟩=>?_);obtain⟨c,rfl,q1⟩:=q1;cases r1;refine wpAny_truthy_bool ?_;cases c with
 |true=>exact hb pins s1 σ H1 Q I1 q1
 |false=>exact⟨.bl false,H1,I1,rfl,q1⟩
theorem zeg(ha:PE X a ta)(hb:PE X (.BoolOp .Or (b::y6) pos) tb):PE X (.BoolOp .Or (a::b::y6) pos) (zhd ta tb):=by
 intro pins s σ H Q I h;refine BoolOp_or (thn (ha pins s σ H _ I h) λv s1 ⟨x,H1,I1,r1,q1⟩=>?_);obtain⟨c,rfl,q1⟩:=q1;cases r1;refine wpAny_truthy_bool ?_;cases c with
 |false=>exact hb pins s1 σ H1 Q I1 q1
 |true=>exact⟨.bl true,H1,I1,rfl,q1⟩
theorem zhe(ha:PE X a ta):PE X (.UnaryOp .Not a pos) (zef ta):=by
 intro pins s σ H Q I h;refine UnaryOp_ (thn (ha pins s σ H _ I h) λv s1 ⟨x,H1,I1,r1,q1⟩=>?_);obtain⟨c,rfl,q1⟩:=q1;cases r1;exact not_of (wpAny_truthy_bool ⟨.bl (!c),H1,I1,rfl,q1⟩)
noncomputable def tIf(t:TT)(ta tb:TE):TE:=λσ H Q=>t σ H λc H1=>if c=true then ta σ H1 Q else tb σ H1 Q
theorem yr{c:Expr}(hc:PT X c tA)(ha:PE X a ta)(hb:PE X b tb):PE X (.IfExp c a b pos) (tIf tA ta tb):=by
 intro pins s σ H Q I h;refine wpAny_IfExp (thn (hc pins s σ H _ I h) λd s1 ⟨H1,I1,q1⟩=>?_);cases d with
 |true=>exact ha pins s1 σ H1 Q I1 q1
 |false=>exact hb pins s1 σ H1 Q I1 q1
end
noncomputable def SqL(K:W.Frag)(H:Hp)(a:Addr)(xs:List V):Prop:=
 Rd H a (.lst xs)\/
  ∃(o:Obj) (its:Array Value) (n:Nat),K.lookup a=some o/\o.cls=.type "list"/\o.dict=none/\o.data=.seq its n/\its.size<=sizeLine/\Vals xs its.toList
noncomputable def SqT(K:W.Frag)(H:Hp)(a:Addr)(xs:List V):Prop:=
 Rd H a (.tup xs)\/
  ∃(o:Obj) (its:Array Value) (n:Nat),K.lookup a=some o/\o.cls=.type "tuple"/\o.data=.seq its n/\its.size<=sizeLine/\Vals xs its.toList
noncomputable def zkG:Value->Option V
 |.none=>some .non
 |.bool b=>some (.bl b)
 |.int i _=>some (.int i)
 |.str x _=>some (.str x)
 |.bytes b _=>some (.byt b)
 |.float b _=>some (.flt b)
 |.ref a=>some (.ref a)
 |.type n=>some (.ty n)
 |_=>none
theorem RelV.abs{x:V}(r:RelV x u):zkG u=some x:=by
 cases x with
 |non=>cases r;rfl
 |bl _=>cases r;rfl
 |int _=>obtain⟨t,rfl⟩:=r;rfl
 |str _=>obtain⟨t,rfl⟩:=r;rfl
 |byt _=>obtain⟨t,rfl⟩:=r;rfl
 |flt _=>obtain⟨t,rfl⟩:=r;rfl
 |ref _=>cases r;rfl
 |ty _=>cases r;rfl
theorem RelV.inj{x y:V}(r:RelV x u)(q:RelV y u):x=y:=Option.some.inj (r.abs.symm.trans q.abs)
theorem Vals.inj:∀{xs ys:List V}{us:List Value},Vals xs us->Vals ys us->xs=ys
 |_,_,_,.nil,.nil=>rfl
 |_,_,_,.cons r t,.cons r' t'=>by rw[r.inj r',Vals.inj t t']
section
variable {xs ys:List V}
theorem SqL.of(h:H a=some (.lst xs)):SqL K H a xs:=.inl (.inl h)
theorem SqT.of(h:H a=some (.tup xs)):SqT K H a xs:=.inl (.inl h)
theorem Inv.list(I:Inv X pins σ H s)(h:SqL X.K H a xs):∃its:List Value,Vals xs its/\PlainL s.heap a its.toArray/\xs.length<=sizeLine:=by
 rcases h with h|⟨o,its,n,hk,hc,hd,hs,hz,r⟩
 .obtain⟨z,its,n,r,e⟩:=h.ok I.hok
  exact⟨its,r,⟨_,n,e,rfl,rfl,rfl⟩,z⟩
 .refine⟨its.toList,r,⟨o,n,I.kIn a o hk,hc,hd,by simpa using hs⟩,?_⟩
  have e:=r.length;simp only[Array.length_toList]at e;omega
theorem Inv.tuple(I:Inv X pins σ H s)(h:SqT X.K H a xs):∃its:List Value,Vals xs its/\IsTup s.heap a its.toArray/\xs.length<=sizeLine:=by
 rcases h with h|⟨o,its,n,hk,hc,hs,hz,r⟩
 .obtain⟨z,its,r,p⟩:=h.ok I.hok
  exact⟨its,r,p,z⟩
 .refine⟨its.toList,r,⟨o,I.kIn a o hk,hc,n,by simpa using hs⟩,?_⟩
  have e:=r.length;simp only[Array.length_toList]at e;omega
theorem Inv.list_inj(I:Inv X pins σ H s)(h:SqL X.K H a xs)(h':SqL X.K H a ys):xs=ys:=by
 obtain⟨its,r,⟨o,n,e,_,_,d⟩,_⟩:=I.list h;obtain⟨its',r',⟨o',n',e',_,_,d'⟩,_⟩:=I.list h';rw[e]at e';cases e';rw[d]at d';injection d' with d1 _;have:its=its':=by simpa using congrArg Array.toList d1
 subst this;exact r.inj r'
theorem Inv.tuple_inj(I:Inv X pins σ H s)(h:SqT X.K H a xs)(h':SqT X.K H a ys):xs=ys:=by
 obtain⟨its,r,⟨o,e,_,n,d⟩,_⟩:=I.tuple h;obtain⟨its',r',⟨o',e',_,n',d'⟩,_⟩:=I.tuple h';rw[e]at e';cases e';rw[d]at d';injection d' with d1 _;have:its=its':=by simpa using congrArg Array.toList d1
 subst this;exact r.inj r'
end
noncomputable abbrev Cx.wish(X:Cx)(E:Value->Shared->Prop):Cx:={ X with xe:=E }
noncomputable abbrev Cx.nox(X:Cx):Cx:=X.wish λ_ _=>False
theorem Cx.Ok.wish(ok:X.Ok)(E:Value->Shared->Prop):(X.wish E).Ok:=
 ⟨ok.mod,ok.kind,ok.glob,ok.blt,ok.above,ok.inj,ok.has,ok.cab,ok.hd,ok.frames,ok.stk,ok.exf,ok.bs,ok.bsz,ok.noex,ok.exfs,ok.funs,ok.frf⟩
theorem Cx.Ok.unwish(ok:(X.wish E).Ok):X.Ok:=
 ⟨ok.mod,ok.kind,ok.glob,ok.blt,ok.above,ok.inj,ok.has,ok.cab,ok.hd,ok.frames,ok.stk,ok.exf,ok.bs,ok.bsz,ok.noex,ok.exfs,ok.funs,ok.frf⟩
theorem Inv.wish(I:Inv X pins σ H s)(E:Value->Shared->Prop):Inv (X.wish E) pins σ H s:=⟨I.ok.wish E,I.os,I.bare,I.base,I.loc,I.cell,I.free,I.freeC,I.pin,I.hok,I.len⟩
theorem Inv.unwish(I:Inv (X.wish E) pins σ H s):Inv X pins σ H s:=⟨I.ok.unwish,I.os,I.bare,I.base,I.loc,I.cell,I.free,I.freeC,I.pin,I.hok,I.len⟩
theorem SP.unwish{D:Ends}{f:Flow}{s':Shared}(h:SP (X.wish E) pins D f s'):SP X pins D f s':=by
 cases f with
 |next=>obtain⟨σ',H',I,q⟩:=h;exact⟨σ',H',I.unwish,q⟩
 |brk=>obtain⟨σ',H',I,q⟩:=h;exact⟨σ',H',I.unwish,q⟩
 |cont=>obtain⟨σ',H',I,q⟩:=h;exact⟨σ',H',I.unwish,q⟩
 |ret u=>obtain⟨v,σ',H',I,r,q⟩:=h;exact⟨v,σ',H',I.unwish,r,q⟩
theorem PSs.nox{st:List Stmt}{t:TS}(h:PSs X.nox st t):PSs X st t:=λpins s σ H D I hw=>
 wpAny_mono (h pins s σ H D (I.wish _) hw) (λ_ _ q=>q.unwish) λ_ _ z=>False.elim z
section
variable {y6:List Stmt}{t u:TS}{te:TE}
noncomputable def zeh:TS:=λD σ H=>D.nx σ H
noncomputable def zhf(t u:TS):TS:=λD σ H=>t { D with nx:=u D } σ H
theorem zV:PSs X [] zeh:=λ_ _ σ H _ I h=>wpAny_execs_nil ⟨σ,H,I,h⟩
theorem zd(h1:PS X st t)(h2:PSs X y6 u):PSs X (st::y6) (zhf t u):=by
 intro pins s σ H D I h;refine wpAny_execs_cons (thn (h1 pins s σ H { D with nx:=u D } I h) λf s1 q=>?_);cases f with
 |next=>
  obtain⟨σ',H',I',q⟩:=q;exact h2 pins s1 σ' H' D I' q
 |ret v=>exact q
 |brk=>exact q
 |cont=>exact q
theorem za(h1:PS X st t):PSs X [st] t:=by
 intro pins s σ H D I h;refine wpAny_execs_cons (thn (h1 pins s σ H D I h) λf s1 q=>?_);cases f with
 |next=>exact wpAny_execs_nil q
 |ret v=>exact q
 |brk=>exact q
 |cont=>exact q
theorem Inv.quiet(I:Inv X pins σ H s):interactive X.env=false:=by simp[interactive,I.ok.kind]
noncomputable def zei(te:TE):TS:=λD σ H=>te σ H λ_ H1=>D.nx σ H1
theorem zq(he:PE X e te)(hs:swapsWith e none pos.line X.env=pure false:=by rfl):PS X (.Expr e pos) (zei te):=by
 intro pins s σ H D I h;exact wpAny_Expr_any (thn (he pins s σ H _ I h) λv s1 ⟨x,H1,I1,r1,q1⟩=>⟨σ,H1,I1,q1⟩) I.quiet hs
noncomputable def zhg(te:TE):TS:=λD σ H=>te σ H D.rt
theorem zL(he:PE X e te):PS X (.Return (some e) pos) (zhg te):=by
 intro pins s σ H D I h;exact wpAny_Return_some (thn (he pins s σ H _ I h) λv s1 ⟨x,H1,I1,r1,q1⟩=>⟨x,σ,H1,I1,r1,q1⟩)
noncomputable def zhh(c:TT)(t u:TS):TS:=λD σ H=>c σ H λb H1=>if b=true then t D σ H1 else u D σ H1
theorem zz{c:Expr}{a b:List Stmt}{tc:TT}(hc:PT X c tc)(ha:PSs X a t)(hb:PSs X b u):PS X (.If c a b pos) (zhh tc t u):=by
 intro pins s σ H D I h;refine wpAny_If (thn (hc pins s σ H _ I h) λd s1 ⟨H1,I1,q1⟩=>?_);cases d with
 |true=>exact ha pins s1 σ H1 D I1 q1
 |false=>exact hb pins s1 σ H1 D I1 q1
noncomputable def zax:TS:=λ_ _ _=>False
theorem zcq:PS X st zax:=λ_ _ _ _ _ _ h=>h.elim
end
noncomputable abbrev TG:=V->St->Hp->(St->Hp->Prop)->Prop
noncomputable abbrev TGs:=List V->St->Hp->(St->Hp->Prop)->Prop
noncomputable def PG(X:Cx)(target:Expr)(t:TG):Prop:=
 ∀(pins:List (Addr×Obj)) (s:Shared) (σ:St) (H:Hp) (v:V) (u:Value) (Q:St->Hp->Prop),Inv X pins σ H s->RelV v u->t v σ H Q->
  wpAny (model X.prog X.w) X.A (assign target X.env u) (λ_ s'=>∃σ' H',Inv X pins σ' H' s'/\Q σ' H') X.xe s
noncomputable def PGs(X:Cx)(ts:List Expr)(t:TGs):Prop:=
 ∀(pins:List (Addr×Obj)) (s:Shared) (σ:St) (H:Hp) (vs:List V) (us:List Value) (Q:St->Hp->Prop),Inv X pins σ H s->Vals vs us->t vs σ H Q->
  wpAny (model X.prog X.w) X.A (assignInOrder ((assignEach ts X.env).map (·.2)) us) (λ_ s'=>∃σ' H',Inv X pins σ' H' s'/\Q σ' H') X.xe s
noncomputable abbrev zcr:=V->V->V->Hp->(Hp->Prop)->Prop
noncomputable def zhi(X:Cx)(t:zcr):Prop:=
 ∀(pins:List (Addr×Obj)) (s:Shared) (σ:St) (H:Hp) (o i v:V) (ov iv u:Value) (Q:Hp->Prop),Inv X pins σ H s->RelV o ov->RelV i iv->RelV v u->t o i v H Q->
  wpAny (model X.prog X.w) X.A (setItem ov iv u) (λ_ s'=>∃H',Inv X pins σ H' s'/\Q H') X.xe s
noncomputable def qj(i:Nat):TG:=λv σ H Q=>Q (σ.set i (some v)) H
theorem z6(hN:X.N.Nodup)(hi:X.N[i]? =some x)(hx:Loc X.env.scope x)(hf:X.fn x=true\/X.env.scope.names.lookup x=some .local:=by first|exact .inl rfl|exact .inr rfl|assumption):PG X (.Name x pos) (qj i):=by
 intro pins s σ H v u Q I r h;exact wpAny_assign_Name (VN I hN hi hx r (λs' I'=>⟨_,H,I',h⟩) hf)
noncomputable def zhj:TGs:=λvs σ H Q=>vs=[]/\Q σ H
noncomputable def zej(t:TG)(u:TGs):TGs:=λvs σ H Q=>∃v r,vs=v::r/\t v σ H λσ' H'=>u r σ' H' Q
theorem vF:PGs X [] zhj:=by
 intro pins s σ H vs us Q I r h;obtain⟨e,h⟩:=h;subst e;cases r;exact assignInOrder_nil ⟨σ,H,I,h⟩
theorem yI{t:TG}{u:TGs}(h1:PG X e t)(h2:PGs X es u)
  (hs:(assignEach (e::es) X.env).map (·.2)=assign e X.env::(assignEach es X.env).map (·.2):=by rfl):PGs X (e::es) (zej t u):=by
 intro pins s σ H vs us Q I r h;obtain⟨v,vr,e1,h⟩:=h;subst e1;cases r with
 |cons r rr=>
  rw[hs];refine assignInOrder_cons (thn (h1 pins s σ H _ _ _ I r h) λ_ s1 ⟨σ1,H1,I1,q1⟩=>?_);exact h2 pins s1 σ1 H1 _ _ Q I1 rr q1
noncomputable def zcs(K:W.Frag)(n:Nat)(t:TGs):TG:=λv σ H Q=>∃a xs,v=.ref a/\SqT K H a xs/\xs.length=n/\t xs σ H Q
theorem zhk{k:Nat}{t:TGs}(hc:X.calm=true)(h:PGs X es t)
  (hn:(assignEach es X.env).length=n:=by rfl)(hst:(assignEach es X.env).findIdx? (·.1)=none:=by rfl):PG X (.Tuple es k pos) (zcs X.K n t):=by
 intro pins s σ H v u Q I r hw;obtain⟨a,xs,e1,hq,hl,hw⟩:=hw;subst e1;cases r;obtain⟨its,rv,ht,hz⟩:=I.tuple hq;refine assign_Tuple_tuple (I.ok.hd hc) ht (by simp[hn,<-hl,rv.length]) hst λh' hx=>?_;have I1:Inv X pins σ H { s with heap:=h' }:=I.kept (t':=s.toks) λb o e=>hx b o (Nat.ne_of_lt (Heap.lt_size e)) e;exact h pins _ σ H xs _ Q I1 (by simpa using rv) hw
noncomputable def zhl(to ti:TE)(t:zcr):TG:=λv σ H Q=>to σ H λo H1=>ti σ H1 λi H2=>t o i v H2 λH3=>Q σ H3
theorem Z8{o i:Expr}{to ti:TE}{t:zcr}(ho:PE X o to)(hi:PE X i ti)(hs:zhi X t)
    (ha:∀ v,assign (.Subscript o i pos) X.env v=(do
      let ov<-holding [v] (eval o X.env)
      let iv<-holding [v,ov] (eval i X.env)
      standAt pos
      holding [v,ov,iv] (setItem ov iv v)
      release [v,ov,iv] []):=by intro _;rfl):PG X (.Subscript o i pos) (zhl to ti t):=by
  intro pins s σ H v u Q I r h;rw[ha];refine wpAny_bind (wpAny_holding (thn (ho pins s σ H _ I h) λov s1 ⟨x,H1,I1,r1,q1⟩=>?_));refine wpAny_bind (wpAny_holding (thn (hi pins s1 σ H1 _ I1 q1) λiv s2 ⟨y,H2,I2,r2,q2⟩=>?_));refine wpAny_bind (wpAny_standAt (wpAny_bind (wpAny_holding (thn (hs pins s2 σ H2 x y v ov iv u _ I2 r1 r2 r q2) λ_ s3 ⟨H3,I3,q3⟩=>?_))));exact wpAny_release ⟨σ,H3,I3,q3⟩
noncomputable def ZJ(te:TE)(g:TG):TS:=λD σ H=>te σ H λx H1=>g x σ H1 D.nx
theorem vZ{te:TE}{g:TG}(he:PE X e te)(hg:PG X tg g)(hs:swapsWithSole [tg] e pos.line X.env=pure false:=by rfl)(hw:swappedStores [tg] e X.env=pure none:=by rfl)
  (h1:(assignEach [tg] X.env).map (·.2)=[assign tg X.env]:=by rfl):PS X (.Assign [tg] e pos) (ZJ te g):=by
 intro pins s σ H D I h;refine wpAny_Assign_stores (thn (he pins s σ H _ I h) λv s1 ⟨x,H1,I1,r1,q1⟩=>?_) hs hw;rw[h1];exact thn (hg pins s1 σ H1 x v _ I1 r1 q1) λ_ s2 q=>q
theorem zhm{te:TE}{pos':Pos}(hN:X.N.Nodup)(hi:X.N[i]? =some x)(hx:Loc X.env.scope x)(he:PE X e te)(hs:swapsWith e (some (.Name x pos')) pos.line X.env=pure false:=by rfl)(hf:X.fn x=true\/X.env.scope.names.lookup x=some .local:=by first|exact .inl rfl|exact .inr rfl|assumption) :
  PS X (.Assign [.Name x pos'] e pos) (ZJ te (qj i)):=by
 intro pins s σ H D I h;refine wpAny_Assign_Name (thn (he pins s σ H _ I h) λv s1 ⟨y,H1,I1,r1,q1⟩=>?_) hs;exact VN I1 hN hi hx r1 (λs2 I2=>⟨_,H1,I2,q1⟩) hf
structure It where
 go:Nat->Hp->Prop
 yld:Nat->Hp->V->Hp->Prop
 stop:Nat->Hp->Prop
noncomputable def FpOk(X:Cx)(pins:List (Addr×Obj))(H:Hp)(b:Addr):Prop:=
 H b=none/\b≠X.env.locals/\b∉X.fs/\(b∈X.ex\/X.s₀.heap.objs.size<=b)/\(∀x c,X.env.cells.lookup x=some c->c≠b)/\∀p∈X.pn++pins,p.1≠b
theorem Inv.fpOk{H':Hp}(I:Inv X pins σ H s)(hb:s.heap.objs.size<=b)(hn:H' b=none):FpOk X pins H' b:=by
 refine⟨hn,Nat.ne_of_gt (Nat.lt_of_lt_of_le I.lt hb),I.nofs hb,.inr (Nat.le_trans I.sz hb),λx c e z=>?_,λp hp z=>?_⟩
 .obtain⟨v,q⟩:=I.cell x c e
  exact absurd (Nat.lt_of_lt_of_le q.lt (by rw[z];exact hb)) (Nat.lt_irrefl _)
 .exact absurd (Nat.lt_of_lt_of_le (Heap.lt_size (I.pin p hp).1) (by rw[z];exact hb)) (Nat.lt_irrefl _)
structure Turn (P:Program) (w:World) (K:W.Frag) (tg:Expr) (J:It) (fp:List Addr) (it:Addr) (tn:Nat->Heap->Prop):Prop where
  mem:it∈fp
  obj:∀i h,tn i h->∀b∈fp,∃o,h.get? b=some o/\∀v,o.data≠.cell v
  keep:∀i h h',tn i h->(∀b∈fp,∀o,h.get? b=some o->h'.get? b=some o)->tn i h'
  item:∀(X:Cx),X.prog=P->X.w=w->X.K=K->X.calm=true->∀(i:Nat) (pins:List (Addr×Obj)) (s:Shared) (σ:St) (H:Hp) (E:Value->Shared->Prop),Inv X pins σ H s->(∀b∈fp,FpOk X pins H b)->tn i s.heap->J.go i H->
    wpAny (model P w) X.A (pyNext (.ref it)) (fun r s1=>∃ u,r=some u/\
      wpAny (model P w) X.A (letOwnedTupleGo tg (.ref it) u) (λ_ s2=>∃x H',Inv X pins σ H' s2/\RelV x u/\J.yld i H x H'/\tn (i+1) s2.heap/\∀b∈fp,H' b=none) E s1) E s
  done:∀(X:Cx),X.prog=P->X.w=w->X.K=K->X.calm=true->∀(i:Nat) (pins:List (Addr×Obj)) (s:Shared) (σ:St) (H:Hp) (E:Value->Shared->Prop),Inv X pins σ H s->(∀b∈fp,FpOk X pins H b)->tn i s.heap->J.stop i H->
    wpAny (model P w) X.A (pyNext (.ref it)) (λr s1=>r=none/\Inv X pins σ H s1) E s
  self:∀(A:Around) (i:Nat) (s:Shared) (Q:Value->Shared->Prop) (E:Value->Shared->Prop),tn i s.heap->Q (.ref it) s->wpAny (model P w) A (pyIter (.ref it)) Q E s
noncomputable abbrev TI:=St->Hp->(It->Hp->Prop)->Prop
noncomputable def PIE(X:Cx)(pins:List (Addr×Obj))(σ:St)(tg:Expr)(R:It->Hp->Prop)(itv:Value)(s2:Shared):Prop:=
 ∃(it:Addr) (fp:List Addr) (tn:Nat->Heap->Prop) (J:It) (H':Hp),itv=.ref it/\Inv X pins σ H' s2/\Turn X.prog X.w X.K tg J fp it tn/\tn 0 s2.heap/\(∀b∈fp,FpOk X pins H' b)/\R J H'
noncomputable def PI(X:Cx)(tg iter:Expr)(wi:TI):Prop:=
 ∀(pins:List (Addr×Obj)) (s:Shared) (σ:St) (H:Hp) (R:It->Hp->Prop),Inv X pins σ H s->wi σ H R->
  wpAny (model X.prog X.w) X.A (eval iter X.env) (λv s1=>wpAny (model X.prog X.w) X.A (pyIter v) (PIE X pins σ tg R) X.xe s1) X.xe s
theorem Ze{M:Model}{it:Addr}{o:Obj}{n:String}{vs:Array Value}{Q:Unit->Shared->Prop}(ho:s.heap.get? it=some o)(hc:o.cls=.type n)(hd:o.data=.fields vs)
    (hn:["enumerate","zip","dict_itemiterator","dict_reverseitemiterator","odict_iterator","itertools.zip_longest","itertools.pairwise"].contains n=false)(hQ:Q () s):wpAny M A (letOwnedTupleGo tg (.ref it) u) Q E s:=by
  unfold letOwnedTupleGo;cases tg<;>first
    |exact wpAny_pure hQ
    | (cases u <;> first
        |exact wpAny_pure hQ
        | (refine wpAny_bind (wpAny_load ho ?_)
           rw[hc,hd];show wpAny M A (if(["enumerate","zip","dict_itemiterator","dict_reverseitemiterator","odict_iterator","itertools.zip_longest","itertools.pairwise"].contains n&&vs[0]? == some (rawInt _))=true then _ else _) Q E s;rw[if_neg (by intro h;rw[hn,Bool.false_and]at h;cases h)];exact wpAny_pure hQ))
noncomputable def Itl(K:W.Frag)(a:Addr):It:=
 ⟨λi H=>∃xs x,SqL K H a xs/\xs[i]? =some x,λi H x H'=>H'=H/\∀xs,SqL K H a xs->xs[i]? =some x,λi H=>∃xs,SqL K H a xs/\xs.length<=i⟩
noncomputable def Itt(K:W.Frag)(a:Addr):It:=
 ⟨λi H=>∃xs x,SqT K H a xs/\xs[i]? =some x,λi H x H'=>H'=H/\∀xs,SqT K H a xs->xs[i]? =some x,λi H=>∃xs,SqT K H a xs/\xs.length<=i⟩
noncomputable def Itr(lo:Int)(n:Nat):It:=⟨λi _=>i<n,λi H x H'=>H'=H/\x=.int (lo+i),λi _=>n<=i⟩
theorem zay{w:World}(a it:Addr):Turn P w K tg (Itl K a) [it] it (λi h=>h.IsListIter it a i) where
 mem:=by simp
 obj:=λi h st b hb=>by
  have e:b=it:=by simpa using hb
  subst e;obtain⟨o,e,c,d⟩:=st;exact⟨o,e,λv z=>by rw[d]at z;cases z⟩
 keep:=λi h h' st k=>st.at λo e=>k it (by simp) o e
 item:=by
  intro X hP hw hK hc i pins s σ H E I hf st hg;subst hP hw hK;obtain⟨xs,x,hq,hx⟩:=hg;obtain⟨its,rv,p,hz⟩:=I.list hq;obtain⟨u,hu,ru⟩:=rv.get hx;obtain⟨f0,f1,f2,f3,f4,f5⟩:=hf it (by simp);refine wpAny_pyNext_list_item st p.isList (x:=u) (by simpa using hu) λh' st' sb=>?_;have I1:Inv X pins σ H { s with heap:=h' }:=I.turned (t':=s.toks) (λb o hb e=>(sb.2 b hb).trans e) f0 f1 f3 f4 f5;obtain⟨o,e,c,d⟩:=id st';exact⟨u,rfl,Ze (s:={ s with heap:=h' }) e c d (by decide) ⟨x,H,I1,ru,⟨rfl,λys hy=>by rw[I.list_inj hy hq];exact hx⟩,st',λb hb=>(hf b hb).1⟩⟩
 done:=by
  intro X hP hw hK hc i pins s σ H E I hf st hg;subst hP hw hK;obtain⟨xs,hq,hx⟩:=hg;obtain⟨its,rv,p,hz⟩:=I.list hq;obtain⟨f0,f1,f2,f3,f4,f5⟩:=hf it (by simp);have hl:=rv.length;exact wpAny_pyNext_list_end (I.ok.hd hc) st p.isList (by simp;omega) λh' eb=>⟨rfl,I.turned (t':=s.toks) (λb o hb e=>eb b o hb e) f0 f1 f3 f4 f5⟩
 self:=λ_ _ _ _ _ st h=>wpAny_pyIter_listiter st h
theorem JZ{w:World}(a it:Addr):Turn P w K tg (Itt K a) [it] it (λi h=>h.IsTupleIter it a i) where
 mem:=by simp
 obj:=λi h st b hb=>by
  have e:b=it:=by simpa using hb
  subst e;obtain⟨o,e,c,d⟩:=st;exact⟨o,e,λv z=>by rw[d]at z;cases z⟩
 keep:=λi h h' st k=>st.at λo e=>k it (by simp) o e
 item:=by
  intro X hP hw hK hc i pins s σ H E I hf st hg;subst hP hw hK;obtain⟨xs,x,hq,hx⟩:=hg;obtain⟨its,rv,p,hz⟩:=I.tuple hq;obtain⟨u,hu,ru⟩:=rv.get hx;obtain⟨f0,f1,f2,f3,f4,f5⟩:=hf it (by simp);refine wpAny_pyNext_tuple_item st (show s.heap.IsTuple a its.toArray from p) (x:=u) (by simpa using hu) λh' st' sb=>?_;have I1:Inv X pins σ H { s with heap:=h' }:=I.turned (t':=s.toks) (λb o hb e=>(sb.2 b hb).trans e) f0 f1 f3 f4 f5;obtain⟨o,e,c,d⟩:=id st';exact⟨u,rfl,Ze (s:={ s with heap:=h' }) e c d (by decide) ⟨x,H,I1,ru,⟨rfl,λys hy=>by rw[I.tuple_inj hy hq];exact hx⟩,st',λb hb=>(hf b hb).1⟩⟩
 done:=by
  intro X hP hw hK hc i pins s σ H E I hf st hg;subst hP hw hK;obtain⟨xs,hq,hx⟩:=hg;obtain⟨its,rv,p,hz⟩:=I.tuple hq;obtain⟨f0,f1,f2,f3,f4,f5⟩:=hf it (by simp);have hl:=rv.length;exact wpAny_pyNext_tuple_end (I.ok.hd hc) st (show s.heap.IsTuple a its.toArray from p) (by simp;omega) λh' eb=>⟨rfl,I.turned (t':=s.toks) (λb o hb e=>eb b o hb e) f0 f1 f3 f4 f5⟩
 self:=λ_ _ _ _ _ st h=>wpAny_pyIter_tupleiter st h
theorem J0{w:World}(it:Addr)(lo:Int)(n:Nat):Turn P w K tg (Itr lo n) [it] it (λi h=>IsRangeIter h it (lo+(i:Nat)*1) ((n:Int)-(i:Nat)) 1) where
 mem:=by simp
 obj:=λi h st b hb=>by
  have e:b=it:=by simpa using hb
  subst e;exact⟨_,st,fun v z=>by
   have z':Data.fields _=Data.cell v:=z;cases z'⟩
 keep:=λi h h' st k=>k it (by simp) _ st
 item:=by
  intro X hP hw hK hc i pins s σ H E I hf st hg;subst hP hw hK;obtain⟨f0,f1,f2,f3,f4,f5⟩:=hf it (by simp);have W:=Walks.range (prog:=X.prog) (w:=X.w) (I.ok.hd hc) it lo 1 n;refine W.item i s _ _ hg st λv h' tk hv st' kk=>?_;obtain⟨t,rfl⟩:=hv;have I1:Inv X pins σ H { s with heap:=h',toks:=tk }:=I.turned (λb o hb e=>kk b o (by simpa using hb) e) f0 f1 f3 f4 f5;refine⟨_,rfl,Ze (s:={ s with heap:=h',toks:=tk }) (n:="range_iterator") st' rfl rfl (by decide) ⟨.int (lo+i),H,I1,⟨t,?_⟩,⟨rfl,rfl⟩,st',λb hb=>(hf b hb).1⟩⟩;rw[Int.mul_one]
 done:=by
  intro X hP hw hK hc i pins s σ H E I hf st hg;subst hP hw hK;obtain⟨f0,f1,f2,f3,f4,f5⟩:=hf it (by simp);exact wpAny_pyNext_range_end (I.ok.hd hc) st (by have:n<=i:=hg;omega) λh' eb=>⟨rfl,I.turned (t':=s.toks) (λb o hb e=>eb b o hb e) f0 f1 f3 f4 f5⟩
 self:=λ_ _ _ _ _ st h=>wpAny_pyIter_rangeiter st h
noncomputable def J1(K:W.Frag)(tl:TE):TI:=λσ H R=>tl σ H λx H1=>∃a,x=.ref a/\(∃xs,SqL K H1 a xs)/\R (Itl K a) H1
noncomputable def zct(K:W.Frag)(tl:TE):TI:=λσ H R=>tl σ H λx H1=>∃a,x=.ref a/\(∃xs,SqT K H1 a xs)/\R (Itt K a) H1
theorem zfj{l:Expr}{tl:TE}(hl:PE X l tl):PI X tg l (J1 X.K tl):=by
 intro pins s σ H R I h;refine thn (hl pins s σ H _ I h) λv s1 ⟨x,H1,I1,r1,q1⟩=>?_;obtain⟨a,e,⟨xs,hq⟩,q⟩:=q1;subst e;cases r1;obtain⟨its,rv,p,hz⟩:=I1.list hq;refine wpAny_pyIter_list p.isList ?_;refine⟨s1.heap.objs.size,[s1.heap.objs.size],_,_,H1,rfl,I1.kept (t':=s1.toks) λb o e=>Heap.get?_push_of_some _ e,zay a _,⟨_,Heap.get?_push_size _ rfl,rfl,rfl⟩,λb hb=>?_,q⟩;have e:b=s1.heap.objs.size:=by simpa using hb
 subst e;exact I1.fpOk (Nat.le_refl _) (I1.hok.fresh (Nat.le_refl _))
theorem zhn{l:Expr}{tl:TE}(hl:PE X l tl):PI X tg l (zct X.K tl):=by
 intro pins s σ H R I h;refine thn (hl pins s σ H _ I h) λv s1 ⟨x,H1,I1,r1,q1⟩=>?_;obtain⟨a,e,⟨xs,hq⟩,q⟩:=q1;subst e;cases r1;obtain⟨its,rv,p,hz⟩:=I1.tuple hq;refine wpAny_pyIter_tuple (show s1.heap.IsTuple a its.toArray from p) ?_;refine⟨s1.heap.objs.size,[s1.heap.objs.size],_,_,H1,rfl,I1.kept (t':=s1.toks) λb o e=>Heap.get?_push_of_some _ e,JZ a _,⟨_,Heap.get?_push_size _ rfl,rfl,rfl⟩,λb hb=>?_,q⟩;have e:b=s1.heap.objs.size:=by simpa using hb
 subst e;exact I1.fpOk (Nat.le_refl _) (I1.hok.fresh (Nat.le_refl _))
theorem VO{R:It->Hp->Prop}{lo hi:Int}{t u v:Tok}{tk:Nat}(I:Inv X pins σ H s)(h1:-(2 ^ 62)<=lo)(h2:lo<2 ^ 62)(h3:-(2 ^ 62)<=hi)(h4:hi<2 ^ 62)
  (q:R (Itr lo (hi-lo).toNat) H):wpAny (model X.prog X.w) X.A (pyIter (.ref s.heap.objs.size)) (PIE X pins σ tg R) E { s with heap:=s.heap.push { cls:=.type "range",data:=.fields #[.int lo t,.int hi u,.int 1 v] },toks:=tk }:=by
 refine wpAny_pyIter_range (IsRange.new ..) (small_one h1 h2 h3 h4) ?_;have I1:Inv X pins σ H { s with heap:=s.heap.push { cls:=.type "range",data:=.fields #[.int lo t,.int hi u,.int 1 v] },toks:=tk }:=I.kept λb o e=>Heap.get?_push_of_some _ e;refine⟨(s.heap.push { cls:=.type "range",data:=.fields #[.int lo t,.int hi u,.int 1 v] }).objs.size,[(s.heap.push { cls:=.type "range",data:=.fields #[.int lo t,.int hi u,.int 1 v] }).objs.size],_,_,H,rfl,
  I1.kept (t':=tk) λb o e=>Heap.get?_push_of_some _ e,J0 _ lo (hi-lo).toNat,?_,λb hb=>?_,q⟩
 .have e1:lo+((0:Nat):Int)*1 =lo:=by simp
  have e2:(((hi-lo).toNat:Nat):Int)-((0:Nat):Int)=Builtin.Range.rangeSize lo hi 1:=by rw[rangeSize_one];split<;>omega
  show IsRangeIter _ _ (lo+((0:Nat):Int)*1) ((((hi-lo).toNat:Nat):Int)-((0:Nat):Int)) 1;rw[e1,e2];exact Heap.get?_push_size _ rfl
 .have e:b=(s.heap.push { cls:=.type "range",data:=.fields #[.int lo t,.int hi u,.int 1 v] }).objs.size:=by simpa using hb
  subst e;exact I1.fpOk (Nat.le_refl _) (I1.hok.fresh (Nat.le_refl _))
noncomputable def zek(ta:TA):TI:=λσ H R=>ta σ H λvs H1=>∃j:Int,vs=[.int j]/\-(2 ^ 62)<=j/\j<2 ^ 62/\R (Itr 0 j.toNat) H1
noncomputable def zel(ta:TA):TI:=λσ H R=>ta σ H λvs H1=>∃i j:Int,vs=[.int i,.int j]/\(-(2 ^ 62)<=i/\i<2 ^ 62/\-(2 ^ 62)<=j/\j<2 ^ 62)/\R (Itr i (j-i).toNat) H1
theorem xF{a:Expr}{ta:TA}{p:Pos}(hg:Gl X "range")(hm:X.mg "range" =none)(ha:PA X [a] ta)(hs:starEach [a] X.env=[(false,eval a X.env)]:=by rfl):PI X tg (.Call (.Name "range" p) [a] [] pos) (zek ta):=by
 intro pins s σ H R I h;refine Call_ (vX I hg hm boot_range (PyProof.Rows.callWith_type1 (thn (ha pos pins s σ H _ I h) λus s1 ⟨vs,H1,I1,r1,q1⟩=>?_) hs rfl));obtain⟨j,e,q1,q2,q⟩:=q1;subst e;cases r1 with
 |cons r rr=>
  cases rr;obtain⟨t,rfl⟩:=r;exact call_range_1 (VO I1 (by omega) (by omega) q1 q2 (by simpa using q))
theorem ql{a b:Expr}{ta:TA}{p:Pos}(hg:Gl X "range")(hm:X.mg "range" =none)(ha:PA X [a,b] ta)(hs:starEach [a,b] X.env=[(false,eval a X.env),(false,eval b X.env)]:=by rfl)(hs2:starEach [b] X.env=[(false,eval b X.env)]:=by rfl) :
  PI X tg (.Call (.Name "range" p) [a,b] [] pos) (zel ta):=by
 intro pins s σ H R I h;refine Call_ (vX I hg hm boot_range (PyProof.Rows.callWith_type1 (thn (ha pos pins s σ H _ I h) λus s1 ⟨vs,H1,I1,r1,q1⟩=>?_) (by rw[hs,hs2]) (by rw[hs2];rfl)));obtain⟨i,j,e,⟨q1,q2,q3,q4⟩,q⟩:=q1;subst e;cases r1 with
 |cons r rr=>
  cases rr with
  |cons r' rr=>
   cases rr;obtain⟨t,rfl⟩:=r;obtain⟨t',rfl⟩:=r';exact call_range_2 (VO I1 q1 q2 q3 q4 q)
noncomputable def zho(wi:TI)(g:TG)(tb:TS):TS:=λD σ H=>wi σ H λJ H1=>∃W:Nat->Nat->St->Hp->Prop,(∃m,W 0 m σ H1)/\∀i m σ H,W i m σ H->
 (J.stop i H/\D.nx σ H)\/(J.go i H/\∃N:St->Hp->Prop,(∀σ' H',N σ' H'->∃m',m'<m/\W (i+1) m' σ' H')/\∀x H',J.yld i H x H'->g x σ H' λσ2 H2=>tb { D with nx:=N,ct:=N,bk:=D.nx } σ2 H2)
noncomputable def j6(fp:List Addr)(h:Heap):List (Addr×Obj):=fp.filterMap λb=>(h.get? b).map λo=>(b,o)
theorem uD{fp:List Addr}{o:Obj}(hb:b∈fp)(e:h.get? b=some o):(b,o)∈j6 fp h:=List.mem_filterMap.mpr ⟨b,hb,by rw[e];rfl⟩
theorem zaz{fp:List Addr}{p:Addr×Obj}(hp:p∈j6 fp h):p.1∈fp/\h.get? p.1=some p.2:=by
 obtain⟨b,hb,e⟩:=List.mem_filterMap.mp hp;cases q:h.get? b with
 |none=>rw[q]at e;cases e
 |some o=>
  rw[q]at e;have e':(b,o)=p:=Option.some.inj e;subst e';exact⟨hb,q⟩
theorem Inv.pinned{fp:List Addr}(I:Inv X pins σ H s)(hf:∀b∈fp,FpOk X pins H b)(ho:∀b∈fp,∃o,s.heap.get? b=some o/\∀v,o.data≠.cell v):Inv X (pins++j6 fp s.heap) σ H s:=
 I.pins_of λp hp=>(List.mem_append.mp hp).elim (λz=>I.pin p (List.mem_append_right _ z)) λz=>by
  obtain⟨hb,e⟩:=zaz z;obtain⟨f0,f1,f2,_⟩:=hf p.1 hb;obtain⟨o,e',d⟩:=ho p.1 hb;rw[e]at e';cases e';exact⟨e,f0,f1,f2,d⟩
theorem Inv.unpinned{pl:List (Addr×Obj)}(I:Inv X (pins++pl) σ H s):Inv X pins σ H s:=I.pins_of λp hp=>I.pin p (List.mem_append_right _ (List.mem_append_left _ hp))
theorem y9{iter:Expr}{body:List Stmt}{wi:TI}{g:TG}{tb:TS}(hp:PassesOwn (model X.prog X.w) X.A X.env X.xe)(hc:X.calm=true)(hi:PI X tg iter wi)(hg:PG X tg g)(hb:PSs X body tb)
  (hs:∀x,foldedSetIterable iter X.env x=pure x:=by intro _;rfl):PS X (.For tg iter body [] pos) (zho wi g tb):=by
 intro pins s σ H D I h;refine wpAny_For (thn (hi pins s σ H _ I h) λv s1 h1=>thn h1 λitv s2 h2=>?_) hs;obtain⟨it,fp,tn,J,H2,e,I2,T,st2,f2,W,⟨m0,w0⟩,turn⟩:=h2;subst e;have stat:∀{H':Hp},(∀b∈fp,H' b=none)->∀b∈fp,FpOk X pins H' b:=λhn b hb=>⟨hn b hb,(f2 b hb).2⟩;refine codeAny_forLoop_any (λn s'=>∃i σ' H',Inv X pins σ' H' s'/\tn i s'.heap/\(∀b∈fp,H' b=none)/\W i n σ' H') ?_ m0 ⟨0,σ,H2,I2,st2,λb hb=>(f2 b hb).1,w0⟩;rintro n s3 ⟨i,σ3,H3,I3,st3,fr3,w3⟩;rcases turn i n σ3 H3 w3 with⟨stop,qn⟩|⟨go,N,hN,step⟩
 .refine wpAny_passesOwn hp (thn (T.done X rfl rfl rfl hc i pins s3 σ3 H3 X.xe I3 (stat fr3) st3 stop) λr s4 ⟨hr,I4⟩=>?_)
  subst hr;exact wpAny_execs_nil ⟨σ3,H3,I4,qn⟩
 .refine wpAny_passesOwn hp (thn (T.item X rfl rfl rfl hc i pins s3 σ3 H3 X.xe I3 (stat fr3) st3 go) λr s4 ⟨u,hr,h4⟩=>?_)
  subst hr;refine wpAny_passesOwn hp (thn h4 λ_ s5 ⟨x,H5,I5,r5,y5,st5,fr5⟩=>?_);have I5':=I5.pinned (stat fr5) (T.obj _ _ st5);refine wpAny_passesOwn hp (thn (hg _ s5 σ3 H5 x u _ I5' r5 (step x H5 y5)) λ_ s6 ⟨σ6,H6,I6,q6⟩=>?_);refine wpAny_passesOwn hp (thn (hb _ s6 σ6 H6 _ I6 q6) λf s7 q7=>?_);have again:∀{σ7:St}{H7:Hp},Inv X (pins++j6 fp s5.heap) σ7 H7 s7->N σ7 H7->∃m,m<n/\∃i σ' H',Inv X pins σ' H' s7/\tn i s7.heap/\(∀b∈fp,H' b=none)/\W i m σ' H':=λ{σ7 H7} I7 n7=>by
   obtain⟨m',hm,w7⟩:=hN σ7 H7 n7;refine⟨m',hm,i+1,σ7,H7,I7.unpinned,T.keep _ _ _ st5 λb hb o e=>(I7.pin (b,o) (List.mem_append_right _ (List.mem_append_right _ (uD hb e)))).1,λb hb=>?_,w7⟩;obtain⟨o,e,d⟩:=T.obj _ _ st5 b hb;exact(I7.pin (b,o) (List.mem_append_right _ (List.mem_append_right _ (uD hb e)))).2.1
  cases f with
  |next=>obtain⟨σ7,H7,I7,n7⟩:=q7;exact again I7 n7
  |cont=>obtain⟨σ7,H7,I7,n7⟩:=q7;exact again I7 n7
  |brk=>obtain⟨σ7,H7,I7,q7⟩:=q7;exact⟨σ7,H7,I7.unpinned,q7⟩
  |ret v=>obtain⟨x7,σ7,H7,I7,r7,q7⟩:=q7;exact⟨x7,σ7,H7,I7.unpinned,r7,q7⟩
noncomputable abbrev R2:=V->V->Hp->VK->Prop
noncomputable def OpR(X:Cx)(f:Value->Value->Sem Value)(r:R2):Prop:=
 ∀(pins:List (Addr×Obj)) (s:Shared) (σ:St) (H:Hp) (x y:V) (v u:Value) (Q:VK),Inv X pins σ H s->RelV x v->RelV y u->r x y H Q->
  wpAny (model X.prog X.w) X.A (f v u) (EP X pins σ Q) X.xe s
noncomputable def UnR(X:Cx)(f:Value->Sem Value)(r:V->Hp->VK->Prop):Prop:=
 ∀(pins:List (Addr×Obj)) (s:Shared) (σ:St) (H:Hp) (x:V) (v:Value) (Q:VK),Inv X pins σ H s->RelV x v->r x H Q->
  wpAny (model X.prog X.w) X.A (f v) (EP X pins σ Q) X.xe s
noncomputable def yv(X:Cx)(f:Value)(r:List V->Hp->VK->Prop):Prop:=
 ∀(pins:List (Addr×Obj)) (s:Shared) (σ:St) (H:Hp) (xs:List V) (us:List Value) (Q:VK),Inv X pins σ H s->Vals xs us->r xs H Q->
  wpAny (model X.prog X.w) X.A (call f us) (EP X pins σ Q) X.xe s
noncomputable def zkH(X:Cx)(r:V->Hp->(Bool->Hp->Prop)->Prop):Prop:=
 ∀(pins:List (Addr×Obj)) (s:Shared) (σ:St) (H:Hp) (x:V) (v:Value) (Q:Bool->Hp->Prop),Inv X pins σ H s->RelV x v->r x H Q->
  wpAny (model X.prog X.w) X.A (truthy v) (TP X pins σ Q) X.xe s
noncomputable def tOp(r:R2)(ta tb:TE):TE:=λσ H Q=>ta σ H λx H1=>tb σ H1 λy H2=>r x y H2 Q
noncomputable def tUn(r:V->Hp->VK->Prop)(ta:TE):TE:=λσ H Q=>ta σ H λx H1=>r x H1 Q
noncomputable def rI(C:Int->Int->Prop)(g:Int->Int->V):R2:=λx y H Q=>∃i j,x=.int i/\y=.int j/\C i j/\Q (g i j) H
noncomputable def rI0(g:Int->Int->V):R2:=λx y H Q=>∃i j,x=.int i/\y=.int j/\Q (g i j) H
noncomputable def rU(g:Int->V):V->Hp->VK->Prop:=λx H Q=>∃i,x=.int i/\Q (g i) H
section
variable {a b c:Expr}{tb tc:TE}
theorem zcu(ha:PE X a ta)(hb:PE X b tb){R:V->V->Hp->Prop}(I:Inv X pins σ H s)
  (h:ta σ H λx H1=>tb σ H1 λy H2=>R x y H2){f:Value->Value->Sem Value}
  (hf:∀v u s2 x y H2,Inv X pins σ H2 s2->RelV x v->RelV y u->R x y H2->wpAny (model X.prog X.w) X.A (f v u) Q X.xe s2) :
  wpAny (model X.prog X.w) X.A (eval a X.env) (λv s₁=>wpAny (model X.prog X.w) X.A (eval b X.env) (λu s₂=>wpAny (model X.prog X.w) X.A (f v u) Q X.xe s₂) X.xe s₁) X.xe s:=by
 refine thn (ha pins s σ H _ I h) λv s1 ⟨x,H1,I1,r1,q1⟩=>?_;refine thn (hb pins s1 σ H1 _ I1 q1) λu s2 ⟨y,H2,I2,r2,q2⟩=>?_;exact hf v u s2 x y H2 I2 r1 r2 q2
theorem zu{op:Operator}{r:R2}(ho:OpR X (binaryOp op) r)(ha:PE X a ta)(hb:PE X b tb):PE X (.BinOp a op b pos) (tOp r ta tb):=by
 intro pins s σ H Q I h;exact wpAny_BinOp (zcu ha hb I h λv u s2 x y H2 I2 rx ry q=>ho pins s2 σ H2 x y v u Q I2 rx ry q)
theorem J2{op:UnaryOp}{r:V->Hp->VK->Prop}(ho:UnR X (unaryOp op) r)(ha:PE X a ta):PE X (.UnaryOp op a pos) (tUn r ta):=by
 intro pins s σ H Q I h;exact UnaryOp_ (thn (ha pins s σ H _ I h) λv s1 ⟨x,H1,I1,r1,q1⟩=>ho pins s1 σ H1 x v Q I1 r1 q1)
theorem opI{f:Value->Value->Sem Value}{C:Int->Int->Prop}{g:Int->Int->Int}
  (rule:∀(i j:Int) (t u:Tok) (s:Shared) (Q:Value->Shared->Prop) (E:Value->Shared->Prop),C i j->Q (.int (g i j) s.toks) { s with toks:=s.toks+1 }->wpAny (model X.prog X.w) X.A (f (.int i t) (.int j u)) Q E s) :
  OpR X f (rI C λi j=>.int (g i j)):=by
 intro pins s σ H x y v u Q I rx ry h;obtain⟨i,j,rfl,rfl,hc,q⟩:=h;obtain⟨t,rfl⟩:=rx;obtain⟨t',rfl⟩:=ry;exact rule i j t t' s _ _ hc ⟨.int (g i j),H,I.tok _,⟨_,rfl⟩,q⟩
theorem VP{f:Value->Value->Sem Value}{g:Int->Int->Int}
  (rule:∀(i j:Int) (t u:Tok) (s:Shared) (Q:Value->Shared->Prop) (E:Value->Shared->Prop),Q (.int (g i j) s.toks) { s with toks:=s.toks+1 }->wpAny (model X.prog X.w) X.A (f (.int i t) (.int j u)) Q E s) :
  OpR X f (rI0 λi j=>.int (g i j)):=by
 intro pins s σ H x y v u Q I rx ry h;obtain⟨i,j,rfl,rfl,q⟩:=h;obtain⟨t,rfl⟩:=rx;obtain⟨t',rfl⟩:=ry;exact rule i j t t' s _ _ ⟨.int (g i j),H,I.tok _,⟨_,rfl⟩,q⟩
theorem J3{f:Value->Value->Sem Value}{g:Int->Int->Bool}
  (rule:∀(i j:Int) (t u:Tok) (s:Shared) (Q:Value->Shared->Prop) (E:Value->Shared->Prop),Q (.bool (g i j)) s->wpAny (model X.prog X.w) X.A (f (.int i t) (.int j u)) Q E s) :
  OpR X f (rI0 λi j=>.bl (g i j)):=by
 intro pins s σ H x y v u Q I rx ry h;obtain⟨i,j,rfl,rfl,q⟩:=h;obtain⟨t,rfl⟩:=rx;obtain⟨t',rfl⟩:=ry;exact rule i j t t' s _ _ ⟨.bl (g i j),H,I,rfl,q⟩
noncomputable def zcv(i j:Int):Prop:=0<j/\j<1073741824
noncomputable def YX(i j:Int):Prop:=(-(2 ^ 64)<i/\i<2 ^ 64)\/(-(2 ^ 64)<j/\j<2 ^ 64)
theorem YX.ok{i j:Int}(h:YX i j):IntMulOk i j:=by
 rcases h with⟨h1,h2⟩|⟨h1,h2⟩
 .exact .of_left (intBits_le_64 h1 h2)
 .exact .of_right (intBits_le_64 h1 h2)
theorem J4(k:Nat):(0:Int)<=2 ^ k:=by
 rw[two_pow_cast];exact Int.natCast_nonneg _
theorem yd:OpR X (binaryOp .Add) (rI0 λi j=>.int (i+j)):=VP λ_ _ _ _ _ _ _ q=>add_int q
theorem yM:OpR X (binaryOp .Sub) (rI0 λi j=>.int (i-j)):=VP λ_ _ _ _ _ _ _ q=>sub_int q
theorem yw:OpR X (binaryOp .FloorDiv) (rI zcv λi j=>.int (i / j)):=opI λi j _ _ _ _ _ hc q=>by
 have h1:(0:Int)<j:=hc.1;have h2:j<1073741824:=hc.2;exact floordiv_int (by omega) (by rw[Int.fdiv_eq_ediv_of_nonneg i (by omega)];exact q) (.inl (PyProof.noPylong_small (by omega)))
theorem yl:OpR X (binaryOp .Mod) (rI (λ_ j=>0<j) λi j=>.int (i%j)):=opI λi j _ _ _ _ _ hc q=>by
 have h1:(0:Int)<j:=hc;exact mod_int' (by omega) (by rw[Int.fmod_eq_emod_of_nonneg i (by omega)];exact q)
theorem zaA:OpR X (binaryOp .RShift) (rI (λ_ j=>0<=j) λi j=>.int (i / 2 ^ j.toNat)):=opI λi j _ _ _ _ _ hc q=>
 rshift_int hc (by rw[Int.fdiv_eq_ediv_of_nonneg i (J4 _)];exact q)
theorem j7:OpR X (binaryOp .BitAnd) (rI0 λi j=>.int (Builtin.bitAnd i j)):=VP λ_ _ _ _ _ _ _ q=>and_int q
theorem zjN:OpR X (binaryOp .BitOr) (rI0 λi j=>.int (Builtin.bitOr i j)):=VP λ_ _ _ _ _ _ _ q=>or_int q
theorem zhp:OpR X (binaryOp .BitXor) (rI0 λi j=>.int (Builtin.bitXor i j)):=VP λ_ _ _ _ _ _ _ q=>xor_int q
theorem unI{f:Value->Sem Value}{g:Int->Int}
  (rule:∀(i:Int) (t:Tok) (s:Shared) (Q:Value->Shared->Prop) (E:Value->Shared->Prop),Q (.int (g i) s.toks) { s with toks:=s.toks+1 }->wpAny (model X.prog X.w) X.A (f (.int i t)) Q E s) :
  UnR X f (rU λi=>.int (g i)):=by
 intro pins s σ H x v Q I rx h;obtain⟨i,rfl,q⟩:=h;obtain⟨t,rfl⟩:=rx;exact rule i t s _ _ ⟨.int (g i),H,I.tok _,⟨_,rfl⟩,q⟩
theorem zaB:UnR X (unaryOp .USub) (rU λi=>.int (-i)):=unI λ_ _ _ _ _ q=>neg_int q
theorem zhq:UnR X (unaryOp .Invert) (rU λi=>.int (Builtin.bitNot i)):=unI λ_ _ _ _ _ q=>invert_int q
end
noncomputable def ZK:V->V->Bool
 |.non,.non=>true|.non,.int _=>true|.int _,.non=>true|.non,.bl _=>true|.bl _,.non=>true|.non,.str _=>true|.str _,.non=>true
 |.int _,.int _=>true|.bl _,.bl _=>true|.str _,.str _=>true|.byt _,.byt _=>true
 |.int _,.str _=>true|.str _,.int _=>true|.bl _,.str _=>true|.str _,.bl _=>true
 |_,_=>false
noncomputable def rEq:R2:=λx y H Q=>ZK x y=true/\Q (.bl (decide (x=y))) H
noncomputable def rNe:R2:=λx y H Q=>ZK x y=true/\Q (.bl (!decide (x=y))) H
theorem Jo{i j:Int}:decide (V.int i=V.int j)=(i==j):=by
 rw[Bool.eq_iff_iff];simp
theorem zaC{i j:Bool}:decide (V.bl i=V.bl j)=(i==j):=by
 rw[Bool.eq_iff_iff];simp
theorem Jp{i j:Str}:decide (V.str i=V.str j)=(i==j):=by
 rw[Bool.eq_iff_iff];simp
theorem Jq{i j:Array UInt8}:decide (V.byt i=V.byt j)=(i.toList==j.toList):=by
 rw[Bool.eq_iff_iff];cases i;cases j;simp
section
variable {a b c:Expr}{tb tc:TE}
theorem yg{Q:VK}{k k':Bool}(I:Inv X pins σ H s)(q:Q (.bl k) H)(e:k=k'):EP X pins σ Q (.bool k') s:=by
 subst e;exact⟨.bl k,H,I,rfl,q⟩
theorem zU:OpR X (compareOp .Eq) rEq:=by
 intro pins s σ H x y v u Q I rx ry h;obtain⟨hs,q⟩:=h;cases x with
 |non=>
  cases rx;cases y with
  |non=>cases ry;exact PySem.EqNone.eq_none_none (yg I q (by simp))
  |bl j=>cases ry;exact PySem.EqNone.eq_none_bool (yg I q (by simp))
  |int j=>obtain⟨t',rfl⟩:=ry;exact PySem.EqNone.eq_none_int (yg I q (by simp))
  |str j=>obtain⟨t',rfl⟩:=ry;exact PySem.EqNone.eq_none_str (yg I q (by simp))
  |_=>exact absurd (show false=true from hs) Bool.false_ne_true
 |bl i=>
  cases rx;cases y with
  |non=>cases ry;exact PySem.EqNone.eq_bool_none (yg I q (by simp))
  |bl j=>cases ry;exact eq_bool (yg I q zaC)
  |str j=>obtain⟨t',rfl⟩:=ry;exact PySem.EqMixed.eq_bool_str (yg I q (by simp))
  |_=>exact absurd (show false=true from hs) Bool.false_ne_true
 |int i=>
  obtain⟨t,rfl⟩:=rx;cases y with
  |non=>cases ry;exact PySem.EqNone.eq_int_none (yg I q (by simp))
  |int j=>obtain⟨t',rfl⟩:=ry;exact eq_int (yg I q Jo)
  |str j=>obtain⟨t',rfl⟩:=ry;exact PySem.EqMixed.eq_int_str (yg I q (by simp))
  |_=>exact absurd (show false=true from hs) Bool.false_ne_true
 |str i=>
  obtain⟨t,rfl⟩:=rx;cases y with
  |non=>cases ry;exact PySem.EqNone.eq_str_none (yg I q (by simp))
  |bl j=>cases ry;exact PySem.EqMixed.eq_str_bool (yg I q (by simp))
  |int j=>obtain⟨t',rfl⟩:=ry;exact PySem.EqMixed.eq_str_int (yg I q (by simp))
  |str j=>obtain⟨t',rfl⟩:=ry;exact eq_str (yg I q Jp)
  |_=>exact absurd (show false=true from hs) Bool.false_ne_true
 |byt i=>
  obtain⟨t,rfl⟩:=rx;cases y with
  |byt j=>obtain⟨t',rfl⟩:=ry;exact PySem.W.eq_bytes (yg I q Jq)
  |_=>exact absurd (show false=true from hs) Bool.false_ne_true
 |_=>cases y<;>exact absurd (show false=true from hs) Bool.false_ne_true
theorem Vx:OpR X (compareOp .NotEq) rNe:=by
 intro pins s σ H x y v u Q I rx ry h;obtain⟨hs,q⟩:=h;cases x with
 |non=>
  cases rx;cases y with
  |non=>cases ry;exact PySem.EqNone.ne_none_none (yg I q (by simp))
  |bl j=>cases ry;exact PySem.EqNone.ne_none_bool (yg I q (by simp))
  |int j=>obtain⟨t',rfl⟩:=ry;exact PySem.EqNone.ne_none_int (yg I q (by simp))
  |str j=>obtain⟨t',rfl⟩:=ry;exact PySem.EqNone.ne_none_str (yg I q (by simp))
  |_=>exact absurd (show false=true from hs) Bool.false_ne_true
 |bl i=>
  cases rx;cases y with
  |non=>cases ry;exact PySem.EqNone.ne_bool_none (yg I q (by simp))
  |bl j=>cases ry;exact ne_bool (yg I q (congrArg not zaC))
  |str j=>obtain⟨t',rfl⟩:=ry;exact PySem.EqMixed.ne_bool_str (yg I q (by simp))
  |_=>exact absurd (show false=true from hs) Bool.false_ne_true
 |int i=>
  obtain⟨t,rfl⟩:=rx;cases y with
  |non=>cases ry;exact PySem.EqNone.ne_int_none (yg I q (by simp))
  |int j=>obtain⟨t',rfl⟩:=ry;exact ne_int (yg I q (congrArg not Jo))
  |str j=>obtain⟨t',rfl⟩:=ry;exact PySem.EqMixed.ne_int_str (yg I q (by simp))
  |_=>exact absurd (show false=true from hs) Bool.false_ne_true
 |str i=>
  obtain⟨t,rfl⟩:=rx;cases y with
  |non=>cases ry;exact PySem.EqNone.ne_str_none (yg I q (by simp))
  |bl j=>cases ry;exact PySem.EqMixed.ne_str_bool (yg I q (by simp))
  |int j=>obtain⟨t',rfl⟩:=ry;exact PySem.EqMixed.ne_str_int (yg I q (by simp))
  |str j=>obtain⟨t',rfl⟩:=ry;exact ne_str (yg I q (congrArg not Jp))
  |_=>exact absurd (show false=true from hs) Bool.false_ne_true
 |byt i=>
  obtain⟨t,rfl⟩:=rx;cases y with
  |byt j=>obtain⟨t',rfl⟩:=ry;exact PySem.W.ne_bytes (yg I q (congrArg not Jq))
  |_=>exact absurd (show false=true from hs) Bool.false_ne_true
 |_=>cases y<;>exact absurd (show false=true from hs) Bool.false_ne_true
theorem qm:OpR X (compareOp .Lt) (rI0 λi j=>.bl (decide (i<j))):=J3 λ_ _ _ _ _ _ _ q=>lt_int q
theorem yT:OpR X (compareOp .LtE) (rI0 λi j=>.bl (decide (i<=j))):=J3 λ_ _ _ _ _ _ _ q=>le_int q
theorem Z9:OpR X (compareOp .Gt) (rI0 λi j=>.bl (decide (j<i))):=J3 λ_ _ _ _ _ _ _ q=>gt_int q
theorem zem:OpR X (compareOp .GtE) (rI0 λi j=>.bl (decide (j<=i))):=J3 λ_ _ _ _ _ _ _ q=>ge_int q
theorem x9:OpR X (compareOp .In) (λx y H Q=>∃i j,x=.str i/\y=.str j/\Q (.bl (!(Builtin.Str.occurrences j i 0 j.length 1).isEmpty)) H):=by
 intro pins s σ H x y v u Q I rx ry h;obtain⟨i,j,rfl,rfl,q⟩:=h;obtain⟨t,rfl⟩:=rx;obtain⟨t',rfl⟩:=ry;exact in_str (yg I q rfl)
theorem uR:OpR X (compareOp .Is) (λx y H Q=>y=.non/\Q (.bl (decide (x=.non))) H):=by
 intro pins s σ H x y v u Q I rx ry h;obtain⟨rfl,q⟩:=h;cases ry;refine is_none_gen (yg I q ?_);cases x<;>first
  |(cases rx;rfl)
  |(obtain⟨t,rfl⟩:=rx;rfl)
theorem YY:OpR X (compareOp .IsNot) (λx y H Q=>y=.non/\Q (.bl (!decide (x=.non))) H):=by
 intro pins s σ H x y v u Q I rx ry h;obtain⟨rfl,q⟩:=h;cases ry;refine isnot_none_gen (yg I q ?_);cases x<;>first
  |(cases rx;rfl)
  |(obtain⟨t,rfl⟩:=rx;rfl)
theorem zaD(b:Expr){op:CmpOp}(h:op≠.In:=by decide)(h2:op≠.NotIn:=by decide):behindInMarks op b=false:=by
 have e1:(op==CmpOp.In)=false:=by cases op<;>first|rfl|exact absurd rfl h
 have e2:(op==CmpOp.NotIn)=false:=by cases op<;>first|rfl|exact absurd rfl h2
 cases b<;>simp[behindInMarks,e1,e2]
theorem zfk{op:CmpOp}{r:R2}(ho:OpR X (compareOp op) r)(ha:PE X a ta)(hb:PE X b tb)(hm:behindInMarks op b=false):PE X (.Compare a [op] [b] pos) (tOp r ta tb):=by
 intro pins s σ H Q I h;exact wpAny_Compare1 (zcu ha hb I h λv u s2 x y H2 I2 rx ry q=>ho pins s2 σ H2 x y v u Q I2 rx ry q) hm
noncomputable def Vy(t:TE):TT:=λσ H Q=>t σ H λx H'=>∃k,x=.bl k/\Q k H'
theorem xx{op:CmpOp}{r:R2}(ho:OpR X (compareOp op) r)(ha:PE X a ta)(hb:PE X b tb)(hm:behindInMarks op b=false):PT X (.Compare a [op] [b] pos) (Vy (tOp r ta tb)):=by
  intro pins s σ H Q I h;refine wpAny_isTrue_Compare1 (thn (ha pins s σ H _ I h) fun v s1 ⟨x,H1,I1,r1,q1⟩=>thn (hb pins s1 σ H1 _ I1 q1) fun u s2 ⟨y,H2,I2,r2,q2⟩=>
    thn (ho pins s2 σ H2 x y v u _ I2 r1 r2 q2) λc s3 ⟨z,H3,I3,r3,k,e,q3⟩=>?_) hm
  subst e;cases r3;exact wpAny_truthy_bool ⟨H3,I3,q3⟩
noncomputable def VQ(r r':R2)(ta tb tc:TE):TE:=λσ H Q=>ta σ H λx H1=>tb σ H1 λy H2=>r x y H2 λz H3=>∃k,z=.bl k/\
 (if k=true then tc σ H3 λw' H4=>r' y w' H4 Q else Q (.bl false) H3)
theorem vG{op op':CmpOp}{r r':R2}(ho:OpR X (compareOp op) r)(ho':OpR X (compareOp op') r')(ha:PE X a ta)(hb:PE X b tb)(hc:PE X c tc)
    (hm:lastMarks [op,op'] [b,c]=false:=by with_unfolding_all rfl):PE X (.Compare a [op,op'] [b,c] pos) (VQ r r' ta tb tc):=by
  intro pins s σ H Q I h;refine Compare_chain (thn (ha pins s σ H _ I h) fun v s1 ⟨x,H1,I1,r1,q1⟩=>chain_link (thn (hb pins s1 σ H1 _ I1 q1) fun u s2 ⟨y,H2,I2,r2,q2⟩=>
    thn (ho pins s2 σ H2 x y v u _ I2 r1 r2 q2) λd s3 ⟨z,H3,I3,r3,k,e,q3⟩=>?_)) hm
  subst e;cases r3;refine wpAny_truthy_bool ?_;cases k with
  |false=>exact ite_ff ⟨.bl false,H3,I3,rfl,q3⟩
  |true=>exact ite_tt (chain_last (thn (hc pins s3 σ H3 _ I3 q3) λw' s4 ⟨z',H4,I4,r4,q4⟩=>ho' pins s4 σ H4 y z' u w' Q I4 r2 r4 q4))
theorem xG{op op':CmpOp}{r r':R2}(ho:OpR X (compareOp op) r)(ho':OpR X (compareOp op') r')(ha:PE X a ta)(hb:PE X b tb)(hc:PE X c tc)
    (hm:lastMarks [op,op'] [b,c]=false:=by with_unfolding_all rfl):PT X (.Compare a [op,op'] [b,c] pos) (Vy (VQ r r' ta tb tc)):=by
  intro pins s σ H Q I h;refine isTrue_chain (thn (ha pins s σ H _ I h) fun v s1 ⟨x,H1,I1,r1,q1⟩=>test_link (thn (hb pins s1 σ H1 _ I1 q1) fun u s2 ⟨y,H2,I2,r2,q2⟩=>
    thn (ho pins s2 σ H2 x y v u _ I2 r1 r2 q2) λd s3 ⟨z,H3,I3,r3,k,e,q3⟩=>?_)) hm
  subst e;cases r3;refine wpAny_truthy_bool ?_;cases k with
  |false=>
    obtain⟨k',e',q'⟩:=q3;cases e';exact ite_ff ⟨H3,I3,q'⟩
  |true=>
    refine ite_tt (test_last (thn (hc pins s3 σ H3 _ I3 q3) λw' s4 ⟨z',H4,I4,r4,q4⟩=>thn (ho' pins s4 σ H4 y z' u w' _ I4 r2 r4 q4) λd' s5 ⟨z2,H5,I5,r5,k2,e2,q5⟩=>?_));subst e2;cases r5;exact wpAny_truthy_bool ⟨H5,I5,q5⟩
noncomputable def VR(K:W.Frag)(x:V)(H:Hp)(k:Bool):Prop:=
 match x with
 |.non=>k=false
 |.bl b=>k=b
 |.int i=>k=(i != 0)
 |.str y=>y.length<=sizeLine/\k=((y.length:Int) != 0)
 |.byt y=>y.size<=sizeLine/\k=((y.size:Int) != 0)
 |.ref p=>(∃xs,SqL K H p xs/\k= !xs.isEmpty)\/(∃xs,SqT K H p xs/\k= !xs.isEmpty)\/∃kvs,H p=some (.dK kvs)/\k= !kvs.isEmpty
 |_=>False
theorem J5{κ:Type}{kvs:List (κ×V)}{vs:List (κ×Value)}(r:KV kvs vs):(!vs.isEmpty)= !kvs.isEmpty:=by
 cases r<;>rfl
theorem Ya{xs:List V}{its:List Value}(r:Vals xs its):(!its.toArray.isEmpty)= !xs.isEmpty:=by
 cases r<;>simp
theorem uS:(sizeLine:Nat)<2 ^ 63:=by rw[sizeLine_eq];decide
theorem zhr:zkH X (λx H Q=>∃k,VR X.K x H k/\Q k H):=by
 intro pins s σ H x v Q I rx h;obtain⟨k,e,q⟩:=h;have hl:=uS;have hs:sizeLine= 16777216:=sizeLine_eq;cases x with
 |non=>
  cases rx;have e':k=false:=e;subst e';exact truthy_none ⟨H,I,q⟩
 |bl b=>
  cases rx;have e':k=b:=e;subst e';exact wpAny_truthy_bool ⟨H,I,q⟩
 |int i=>
  obtain⟨t,rfl⟩:=rx;have e':k=(i != 0):=e;subst e';exact PySem.P.truthy_int ⟨H,I,q⟩
 |str y=>
  obtain⟨t,rfl⟩:=rx;obtain⟨hy,e'⟩:y.length<=sizeLine/\k=((y.length:Int) != 0):=e;subst e';exact PySem.P.truthy_str (by omega) ⟨H,I.tok _,q⟩
 |byt y=>
  obtain⟨t,rfl⟩:=rx;obtain⟨hy,e'⟩:y.size<=sizeLine/\k=((y.size:Int) != 0):=e;subst e';exact PySem.W.truthy_bytes (by omega) ⟨H,I.tok _,q⟩
 |ref p=>
  cases rx;have e':(∃xs,SqL X.K H p xs/\k= !xs.isEmpty)\/(∃xs,SqT X.K H p xs/\k= !xs.isEmpty)\/∃kvs,H p=some (.dK kvs)/\k= !kvs.isEmpty:=e;rcases e' with⟨xs,hx,e'⟩|⟨xs,hx,e'⟩|⟨kvs,hx,e'⟩
  .subst e'
   obtain⟨its,r,pl,hz⟩:=I.list hx;have hlen:=r.length;exact wpAny_truthy_list pl.isList (by simp only[List.size_toArray];omega) ⟨H,I.tok _,by rw[Ya r];exact q⟩
  .subst e'
   obtain⟨its,r,pl,hz⟩:=I.tuple hx;have hlen:=r.length;exact truthy_tuple pl (by simp only[List.size_toArray];omega) ⟨H,I.tok _,by rw[Ya r];exact q⟩
  .subst e'
   obtain⟨hz,hS,vs,r,m⟩:kvs.length<=sizeLine/\(p==sysModules)=false/\∃vs,KV kvs vs/\s.heap.DictOf (yk X.prog X.w) p vs:=I.hok p _ hx;have hlen:kvs.length=vs.length:=Paired.length r;exact wpAny_truthy_dict hS m (by omega) ⟨H,I.tok _,by rw[J5 r];exact q⟩
 |_=>exact(show False from e).elim
theorem zcw(ha:PE X a ta)(he:∀whole,isTrue a X.env whole=(do let v<-whole;standAt a.pos;holding [v] (truthy v))) :
  PT X a (λσ H Q=>ta σ H λx H'=>∃k,VR X.K x H' k/\Q k H'):=by
 intro pins s σ H Q I h;exact isTrue_plain (thn (ha pins s σ H _ I h) λv s1 ⟨x,H1,I1,r1,q1⟩=>zhr pins s1 σ H1 x v Q I1 r1 q1) (he _)
theorem uE:OpR X (binaryOp .Add) (λx y H Q=>∃i j,x=.str i/\y=.str j/\i.length+j.length<=sizeLine/\Q (.str (i++j)) H):=by
 intro pins s σ H x y v u Q I rx ry h;obtain⟨i,j,rfl,rfl,hz,q⟩:=h;obtain⟨t,rfl⟩:=rx;obtain⟨t',rfl⟩:=ry;exact add_str (λt' tk=>⟨.str (i++j),H,I.tok _,⟨_,rfl⟩,q⟩) hz
theorem uF{x:V}(r:Vals [x] us):∃u,us=[u]/\RelV x u:=by
 cases r with
 |cons r1 r2=>cases r2;exact⟨_,rfl,r1⟩
theorem zen{x y:V}(r:Vals [x,y] us):∃u w',us=[u,w']/\RelV x u/\RelV y w':=by
 cases r with
 |cons r1 r2=>
  cases r2 with
  |cons r3 r4=>cases r4;exact⟨_,_,rfl,r1,r3⟩
theorem j8(hc:X.calm=true):yv X (.builtin "max") (λxs H Q=>∃i j,xs=[.int i,.int j]/\Q (.int (if j>i then j else i)) H):=by
 intro pins s σ H xs us Q I r h;obtain⟨i,j,rfl,q⟩:=h;obtain⟨u,w',rfl,⟨t,rfl⟩,⟨t',rfl⟩⟩:=zen r;refine max_two_ints (I.ok.hd hc) λh' tk k=>⟨_,H,I.kept k,?_,q⟩;by_cases hj:j>i
 .rw[if_pos hj,if_pos hj];exact⟨_,rfl⟩
 .rw[if_neg hj,if_neg hj];exact⟨_,rfl⟩
theorem ua(hc:X.calm=true):yv X (.builtin "min") (λxs H Q=>∃i j,xs=[.int i,.int j]/\Q (.int (if j<i then j else i)) H):=by
 intro pins s σ H xs us Q I r h;obtain⟨i,j,rfl,q⟩:=h;obtain⟨u,w',rfl,⟨t,rfl⟩,⟨t',rfl⟩⟩:=zen r;refine min_two_ints (I.ok.hd hc) λh' tk k=>⟨_,H,I.kept k,?_,q⟩;by_cases hj:j<i
 .rw[if_pos hj,if_pos hj];exact⟨_,rfl⟩
 .rw[if_neg hj,if_neg hj];exact⟨_,rfl⟩
theorem zaE:yv X (.type "int") (λxs H Q=>(∃i,xs=[.int i]/\Q (.int i) H)\/∃k,xs=[.bl k]/\Q (.int (if k then 1 else 0)) H):=by
 intro pins s σ H xs us Q I r h;rcases h with⟨i,rfl,q⟩|⟨k,rfl,q⟩
 .obtain⟨u,rfl,t,rfl⟩:=uF r
  exact call_int_int ⟨.int i,H,I,⟨_,rfl⟩,q⟩
 .obtain⟨u,rfl,r1⟩:=uF r
  cases r1;exact call_int_bool ⟨.int (if k then 1 else 0),H,I.tok _,⟨_,rfl⟩,q⟩
theorem VS:yv X (.type "str") (λxs H Q=>∃i,xs=[.int i]/\i.natAbs.log2<1920/\Q (.str (toString i)) H):=by
 intro pins s σ H xs us Q I r h;obtain⟨i,rfl,hz,q⟩:=h;obtain⟨u,rfl,t,rfl⟩:=uF r;exact PySem.P.str_of_int hz ⟨.str _,H,I.tok _,⟨_,rfl⟩,q⟩
end
structure ObjM (h:Heap) (x dx C:Addr) (mA:Str->Option Value):Prop where
 obj:h.get? x=some (PySem.W.instObj C dx)
 ns:h.Ns1 dx mA
 ne:dx≠x
theorem zaF{mA:Str->Option Value}(n:h.Ns1 dx mA):∃od,h.get? dx=some od/\∀name,PySem.W.lookIn name od=some (mA name):=by
 obtain⟨o,es,ep,ho,hd,hk,_,hm⟩:=n;refine⟨o,ho,λname=>?_⟩;have e:=hm name;unfold nsFind findBy at e;rw[<-Array.find?_toList]at e;unfold PySem.W.lookIn;rw[hd];dsimp only;split
 .rename_i y q
  rw[q]at e;exact congrArg some e
 .rename_i q
  rw[q]at e;have a:es.toList.any (·.refKey)=false:=by
   rw[List.any_eq_false];intro y hy;obtain⟨z,t,hkey⟩:=hk y (Array.mem_toList_iff.mp hy);simp[DictEntry.refKey,hkey]
  have a':¬es.toList.any (·.refKey)=true:=by rw[a];exact Bool.false_ne_true
  rw[if_neg a'];exact congrArg some e
theorem ObjM.look{x:Addr}{mA:Str->Option Value}(I:ObjM h x dx C mA):∃od,PySem.W.InstAt h x (PySem.W.instObj C dx) C (some od)/\∀name,PySem.W.lookIn name od=some (mA name):=
 let⟨od,ho,hl⟩:=zaF I.ns
 ⟨od,⟨I.obj,rfl,rfl,ho⟩,hl⟩
section
variable {w:World}{x:Addr}{mA:Str->Option Value}{name:Str}{v:Value}
theorem zfl{expr:Bool}(X:K.In s.heap)(I:ObjM s.heap x dx C mA)(hg:W.plainGet K C name=true)(hh:W.hasDictIn K C=true)
  (ha:W.findIn K (.ref C) name=some none)(hv:mA name=some v)(hv':PySem.W.handedIn v=true)(h:Q v { s with toks:=s.toks+1 }) :
  wpAny (model prog w) A (getAttr (.ref x) name expr) Q E s:=by
 obtain⟨od,J,hl⟩:=I.look;exact PySem.W.get_value X J (PySem.W.plainGet_of hg).1 (PySem.W.findObj_own hh ha rfl (by rw[hl,hv])) hv' h
theorem zcx{pl:Sem Bool}{Q:Value×List Value->Shared->Prop}(X:K.In s.heap)(I:ObjM s.heap x dx C mA)(hg:W.plainGet K C name=true)
  (hf:W.findIn K (.ref C) name=some (some (.ref f)))(ht:W.isFn K (.ref f)=true)(hv:mA name=none)(h:Q (.ref f,[.ref x]) s) :
  wpAny (model prog w) A (getMethod (.ref x) name pl) Q E s:=by
 obtain⟨od,J,hl⟩:=I.look;exact PySem.W.method_fn X J (PySem.W.plainGet_of hg).1 (PySem.W.plainGet_of hg).2 hf (beq_iff_eq.mp ht) (by show(PySem.W.lookIn name od).map (·.isSome)=some false;rw[hl,hv];rfl) h
theorem zfm{ns:List Str}{Q:Unit->Shared->Prop}(X:K.In s.heap)(I:ObjM s.heap x dx C mA)
  (hs:W.findIn K (.ref C) "__setattr__" =some (some (.builtin "object.__setattr__")))(hp:W.plainOver K C=true)(ht:PySem.W.takerIn K C name=some none)(hh:W.hasDictIn K C=true)
  (hw:PySem.Within mA ns)(hsz:ns.length<=sizeLine)
  (h:∀h',ObjM h' x dx C (λy=>if y=name then some v else mA y)->Heap.SameBut dx s.heap h'->Q () { s with heap:=h',toks:=s.toks+2 }) :
  wpAny (model prog w) A (setAttr (.ref x) name v) Q E s:=by
 obtain⟨od,J,hl⟩:=I.look;refine PySem.W.set_plain X J hs (PySem.W.osa_open (s:={ s with toks:=s.toks+1 }) (r:=none) X J hp ht λb=>?_);obtain⟨cd,hc,hd'⟩:=PySem.W.any_some hh;have hx:s.heap.get? x=some ⟨.ref C,some dx,.plain,#[]⟩:=I.obj;refine wpAny_bind (wpAny_pure (wpAny_bind (wpAny_bind (wpAny_loadPart hx (wpAny_bind (PySem.W.Looks.here (s:={ s with toks:=s.toks+1 }) (PySem.W.looks_clsIn X hc) ?_))))));rw[hd'];refine wpAny_pure (a:=some dx) (wpAny_bind (wpAny_pure (wpAny_bind ?_)));refine wpAny_nsSet1 (s:={ s with toks:=s.toks+1 }) I.ns λh' hn2 hs2=>?_;obtain⟨oD,esD,epD,hoD,hdD,hcD⟩:=hn2.count (PySem.Within.cons name v hw);refine wpAny_bind (wpAny_lookBehind hoD (by rw[hdD];exact pastItsLine_dict (Nat.le_trans hcD (by rw[List.length_cons];omega))) ?_);exact wpAny_pure (h _ ⟨(hs2.2 _ (Ne.symm I.ne)).trans I.obj,hn2,I.ne⟩ hs2)
theorem zcy{R:Result->Shared->Prop}{vs:List Value}{kw:List (Str×Value)}(X:K.In s.heap)(hm:W.makesIn K C=true)
    (hi:W.findIn K (.ref C) "__init__" =some (some (.ref f)))(hf:PySem.W.typeIn K (.ref f)=some (.type "function"))
    (h:codeAny (model prog w) (A.under (.builtin "type.__call__" ⟨.ref C :: vs,kw⟩)) (.call (.ref f) ⟨.ref (s.heap.objs.size+1) :: vs,kw⟩) (PySem.W.InitBack (s.heap.objs.size+1) R)
      { s with heap:=(s.heap.push PySem.W.emptyDict).push (PySem.W.instObj C s.heap.objs.size) }) :
    codeAny (model prog w) A (.call (.ref C) ⟨vs,kw⟩) R s:=by
  obtain⟨hh,g,d,t,os⟩:=s;exact PySem.W.make_core (PySem.W.makes_of X hm) (PySem.W.looks_findIn X hi) (λself=>PySem.W.bind_fn X self hf) (.inl rfl) h
theorem zaG{R:Result->Shared->Prop}(X:K.In s.heap)(hm:W.makesIn K C=true)
    (hi:W.findIn K (.ref C) "__init__" =some (some (.builtin "object.__init__")))
    (hb:∀self,PySem.W.Looks (model prog w) s.heap (bindSpecial (.builtin "object.__init__") self) (.builtin "object.__init__",[self]))
    (h:codeAny (model prog w) (A.under (.builtin "type.__call__" ⟨[.ref C],[]⟩)) (.call (.builtin "object.__init__") ⟨[.ref (s.heap.objs.size+1)],[]⟩) (PySem.W.InitBack (s.heap.objs.size+1) R)
      { s with heap:=(s.heap.push PySem.W.emptyDict).push (PySem.W.instObj C s.heap.objs.size) }) :
    codeAny (model prog w) A (.call (.ref C) ⟨[],[]⟩) R s:=by
  obtain⟨hh,g,d,t,os⟩:=s;exact PySem.W.make_core (PySem.W.makes_of X hm) (PySem.W.looks_findIn X hi) hb (.inr ⟨rfl,rfl⟩) h
end
noncomputable def xA(f:Str)(v:V):List (Str×V)->List (Str×V)
 |[]=>[(f,v)]
 |(g,x)::r=>if g=f then(g,v)::r else(g,x)::xA f v r
theorem ZA(f g:Str)(v:V):∀fs:List (Str×V),(xA f v fs).lookup g=if g=f then some v else fs.lookup g
 |[]=>by
  show List.lookup g [(f,v)]=_;by_cases h:g=f
  .have hb:(g==f)=true:=beq_iff_eq.mpr h
   simp only[List.lookup,hb,if_pos h]
  .have hb:(g==f)=false:=beq_eq_false_iff_ne.mpr h
   simp only[List.lookup,hb,if_neg h]
 |(k,x)::r=>by
  have ih:=ZA f g v r;rw[show xA f v ((k,x)::r)=(if k=f then(k,v)::r else(k,x)::xA f v r)from rfl];by_cases hk:k=f
  .rw[if_pos hk]
   by_cases h:g=k
   .have hb:(g==k)=true:=beq_iff_eq.mpr h
    simp only[List.lookup,hb,if_pos (h.trans hk)]
   .have hb:(g==k)=false:=beq_eq_false_iff_ne.mpr h
    simp only[List.lookup,hb,if_neg (λe:g=f=>h (e.trans hk.symm))]
  .rw[if_neg hk]
   by_cases h:g=k
   .have hb:(g==k)=true:=beq_iff_eq.mpr h
    simp only[List.lookup,hb,if_neg (λe:g=f=>hk (h.symm.trans e))]
   .have hb:(g==k)=false:=beq_eq_false_iff_ne.mpr h
    simp only[List.lookup,hb];exact ih
theorem j9(f:Str)(v:V):∀fs:List (Str×V),f∈(xA f v fs).map (·.1)/\∀g,g∈fs.map (·.1)->g∈(xA f v fs).map (·.1)
 |[]=>⟨by simp[xA],λg h=>by simp at h⟩
 |(k,x)::r=>by
  obtain⟨i1,i2⟩:=j9 f v r;rw[show xA f v ((k,x)::r)=(if k=f then(k,v)::r else(k,x)::xA f v r)from rfl];by_cases hk:k=f
  .rw[if_pos hk]
   subst hk;exact⟨by simp,λg h=>by simpa using h⟩
  .rw[if_neg hk]
   refine⟨?_,λg h=>?_⟩
   .rw[List.map_cons]
    exact List.mem_cons_of_mem _ i1
   .rw[List.map_cons]at h ⊢
    rcases List.mem_cons.mp h with e|e
    .exact List.mem_cons.mpr (.inl e)
    .exact List.mem_cons_of_mem _ (i2 g e)
theorem ZB(f:Str)(v:V):∀fs:List (Str×V),(xA f v fs).length<=fs.length+1
 |[]=>by simp[xA]
 |(k,x)::r=>by
  have ih:=ZB f v r;rw[show xA f v ((k,x)::r)=(if k=f then(k,v)::r else(k,x)::xA f v r)from rfl];by_cases hk:k=f
  .rw[if_pos hk,List.length_cons,List.length_cons];omega
  .rw[if_neg hk,List.length_cons,List.length_cons];omega
theorem xz.some_of{o:Option Value}(r:xz (some v) o):∃u,o=some u/\RelV v u:=by
 cases o with
 |none=>exact(show False from r).elim
 |some u=>exact⟨u,rfl,r⟩
theorem xz.none_of{o:Option Value}(r:xz none o):o=none:=by
 cases o with
 |none=>rfl
 |some u=>exact(show False from r).elim
theorem zaH(r:RelV v u):PySem.W.handedIn u=true:=by
 cases v with
 |non=>cases(show u=Value.none from r);rfl
 |bl b=>cases(show u=Value.bool b from r);rfl
 |int i=>obtain⟨t,e⟩:=(show ∃t,u=Value.int i t from r);cases e;rfl
 |str x=>obtain⟨t,e⟩:=(show ∃t,u=Value.str x t from r);cases e;rfl
 |byt b=>obtain⟨t,e⟩:=(show ∃t,u=Value.bytes b t from r);cases e;rfl
 |flt b=>obtain⟨t,e⟩:=(show ∃t,u=Value.float b t from r);cases e;rfl
 |ref a=>cases(show u=Value.ref a from r);rfl
 |ty n=>cases(show u=Value.type n from r);rfl
section
variable {w:World}{H':Hp}{h':Heap}{fs fs':List (Str×V)}
theorem Zf(hok:HOk P w H h)(e:H a=some (.ins C dx fs)):∃mA,ObjM h a dx C mA/\(∀f,xz (fs.lookup f) (mA f))/\PySem.Within mA (fs.map (·.1))/\fs.length<=1000/\H dx=some (.own a):=by
 obtain⟨d,z,ne,ob,mA,n,r,q⟩:=(show ym P w H h a (.ins C dx fs)from hok a _ e);exact⟨mA,⟨ob,n,ne⟩,r,q,z,d⟩
end
structure Cls (K:W.Frag) (C:Addr):Prop where
 pg:W.plainGet K C Str.empty=true
 hd:W.hasDictIn K C=true
 po:W.plainOver K C=true
 sa:W.findIn K (.ref C) "__setattr__" =some (some (.builtin "object.__setattr__"))
theorem Cls.get(c:Cls K C)(f:Str):W.plainGet K C f=true:=c.pg
noncomputable def NoAttr(K:W.Frag)(C:Addr)(f:Str):Prop:=W.findIn K (.ref C) f=some none
theorem NoAttr.taker{f:Str}(n:NoAttr K C f):PySem.W.takerIn K C f=some none:=by
 unfold PySem.W.takerIn;rw[show W.findIn K (.ref C) f=some none from n];rfl
structure Meth (K:W.Frag) (C:Addr) (m:Str) (f:Addr):Prop where
 at_:W.findIn K (.ref C) m=some (some (.ref f))
 fn:W.isFn K (.ref f)=true
 kp:W.keepIn K (.ref f)=true
section
variable {fs:List (Str×V)}{f:Str}
theorem J6{b:Bool}(I:Inv X pins σ H s)(e:H a=some (.ins C dx fs))(c:Cls X.K C)(n:NoAttr X.K C f)(l:fs.lookup f=some v)
  (h:∀u s',Inv X pins σ H s'->RelV v u->Q u s'):wpAny (model X.prog X.w) A (getAttr (.ref a) f b) Q E s:=by
 obtain⟨mA,O,r,_,_,_⟩:=Zf I.hok e;obtain⟨u,hu,ru⟩:=xz.some_of (v:=v) (o:=mA f) (by rw[<-l];exact r f);exact zfl I.kIn O (c.get f) c.hd n hu (zaH ru) (h u _ (I.tok _) ru)
theorem Yb{m:Str}{g:Addr}{pl:Sem Bool}{Q:Value×List Value->Shared->Prop}(I:Inv X pins σ H s)(e:H a=some (.ins C dx fs))(c:Cls X.K C)(k:Meth X.K C m g)(l:fs.lookup m=none)
  (h:Q (.ref g,[.ref a]) s):wpAny (model X.prog X.w) A (getMethod (.ref a) m pl) Q E s:=by
 obtain⟨mA,O,r,_,_,_⟩:=Zf I.hok e;have hn:mA m=none:=xz.none_of (by rw[<-l];exact r m);exact zcx I.kIn O (c.get m) k.at_ k.fn hn h
theorem J7{y:V}{Q:Unit->Shared->Prop}(I:Inv X pins σ H s)(e:H a=some (.ins C dx fs))(c:Cls X.K C)(n:NoAttr X.K C f)(hl:fs.length<1000)(ry:RelV y u)
  (h:∀s',Inv X pins σ (upd H a (.ins C dx (xA f y fs))) s'->Q () s'):wpAny (model X.prog X.w) A (setAttr (.ref a) f u) Q E s:=by
 obtain⟨mA,O,r,wi,_,ho⟩:=Zf I.hok e;have hz:(fs.map (·.1)).length<=sizeLine:=by rw[List.length_map,sizeLine_eq];omega
 refine zfm I.kIn O c.sa c.po n.taker c.hd wi hz λh' O' sb=>h _ ?_;have hd:∃o,h'.get? dx=some o:=let⟨o,_,_,e',_⟩:=O'.ns;⟨o,e'⟩
 refine I.write (x:=a) (e:=dx) (by rw[e];exact True.intro) (.inr ho) (λb q hb z=>(sb.2 b hb).trans z) hd ?_;refine⟨by rw[zv O.ne];exact ho,?_,O.ne,O'.obj,_,O'.ns,λg=>?_,λg hg=>?_⟩
 .have:=ZB f y fs;omega
 .show xz ((xA f y fs).lookup g) (if g=f then some u else mA g)
  rw[ZA];by_cases q:g=f
  .rw[if_pos q,if_pos q];exact ry
  .rw[if_neg q,if_neg q];exact r g
 .by_cases q:g=f
  .rw[q];exact(j9 f y fs).1
  .refine(j9 f y fs).2 g (wi g λz=>hg ?_)
   show(if g=f then some u else mA g)=none;rw[if_neg q];exact z
theorem Inv.made(I:Inv X pins σ H s):Inv X pins σ (upd (upd H s.heap.objs.size (.own (s.heap.objs.size+1))) (s.heap.objs.size+1) (.ins C s.heap.objs.size []))
  { s with heap:=(s.heap.push PySem.W.emptyDict).push (PySem.W.instObj C s.heap.objs.size) }:=by
 have e1:(s.heap.push PySem.W.emptyDict).get? s.heap.objs.size=some PySem.W.emptyDict:=Heap.get?_push_size s.heap rfl;have e2:((s.heap.push PySem.W.emptyDict).push (PySem.W.instObj C s.heap.objs.size)).get? (s.heap.objs.size+1)=some (PySem.W.instObj C s.heap.objs.size):=by
  have:=Heap.get?_push_size (s.heap.push PySem.W.emptyDict) (o:=PySem.W.instObj C s.heap.objs.size) rfl;rwa[Heap.size_push]at this
 have e3:(s.heap.push PySem.W.emptyDict).Ns s.heap.objs.size (λ_=>none):=⟨PySem.W.emptyDict,#[],_,e1,rfl,(λe he=>absurd he (by simp)),λ_=>rfl⟩;have I1:=I.laid (a:=s.heap.objs.size) (o:=.own (s.heap.objs.size+1)) (h':=s.heap.push PySem.W.emptyDict) (t':=s.toks) (λb u q=>Heap.get?_push_of_some _ q) (Nat.le_refl _) ⟨_,e1⟩;refine I1.laid (a:=s.heap.objs.size+1) (o:=.ins C s.heap.objs.size []) (t':=s.toks) (λb u q=>Heap.get?_push_of_some _ q) (Nat.le_of_eq (Heap.size_push _ _)) ?_;have ne:s.heap.objs.size≠s.heap.objs.size+1:=Nat.ne_of_lt (Nat.lt_succ_self _);refine⟨by rw[zv ne,zX],Nat.zero_le _,ne,e2,λ_=>none,(Heap.Ns1.of_empty e3).at λo q=>Heap.get?_push_of_some _ q,λ_=>True.intro,λy hy=>absurd rfl hy⟩
theorem zfn{w:World}{env:Env}{f:Str}(hb:attributeBase e f env (eval e env)=eval e env)
  (h:wpAny (model prog w) A (eval e env) (λo s₁=>wpAny (model prog w) A (getAttr o f true) Q E s₁) E s):wpAny (model prog w) A (eval (.Attribute e f pos) env) Q E s:=
 Attribute_any_ h (by rw[arm_eval_Attribute,hb])
end
noncomputable def J8(K:W.Frag)(ta:TE)(f:Str):TE:=λσ H Q=>ta σ H λx H1=>∃a C dx fs v,x=.ref a/\H1 a=some (.ins C dx fs)/\Cls K C/\NoAttr K C f/\fs.lookup f=some v/\Q v H1
noncomputable def J9(K:W.Frag)(ta tv:TE)(f:Str):TS:=λD σ H=>tv σ H λy H1=>ta σ H1 λx H2=>∃a C dx fs,x=.ref a/\H2 a=some (.ins C dx fs)/\Cls K C/\NoAttr K C f/\fs.length<1000/\
 D.nx σ (upd H2 a (.ins C dx (xA f y fs)))
section
variable {o value:Expr}{f:Str}{pos' tpos:Pos}{tv:TE}
theorem zhs(he:PE X e ta)(hb:attributeBase e f X.env (eval e X.env)=eval e X.env):PE X (.Attribute e f pos) (J8 X.K ta f):=by
 intro pins s σ H Q I h;refine zfn hb (thn (he pins s σ H _ I h) λu s1 ⟨x,H1,I1,rx,a,C,dx,fs,v,ex,ea,c,n,l,q⟩=>?_);subst ex;obtain rfl:u=Value.ref a:=rx;exact J6 I1 ea c n l λu' s2 I2 ru=>⟨v,H1,I2,ru,q⟩
theorem zht(ha:PE X o ta)(hv:PE X value tv)(hs:swapsWith value (some (.Attribute o f pos')) pos.line X.env=pure false):PS X (.Assign [.Attribute o f pos'] value pos) (J9 X.K ta tv f):=by
 intro pins s σ H D I h;refine plainObj_wpAny_Assign_Attribute (thn (hv pins s σ H _ I h) λu s1 ⟨y,H1,I1,ry,q⟩=>thn (ha pins s1 σ H1 _ I1 q) λov s2 ⟨x,H2,I2,rx,a,C,dx,fs,ex,ea,c,n,l,q2⟩=>?_) hs;subst ex;obtain rfl:ov=Value.ref a:=rx;exact J7 I2 ea c n l ry λs3 I3=>⟨σ,_,I3,q2⟩
end
section
variable {c:Value}{b:Bool}
inductive TyOf (K:W.Frag) (H:Hp):V->Value->Prop where
 |non:TyOf K H .non (.type "NoneType")
 |bl (x:Bool):TyOf K H (.bl x) (.type "bool")
 |int (i:Int):TyOf K H (.int i) (.type "int")
 |str (x:Str):TyOf K H (.str x) (.type "str")
 |flt (x:UInt64):TyOf K H (.flt x) (.type "float")
 |lst {a:Addr}{xs:List V}(e:H a=some (.lst xs)):TyOf K H (.ref a) (.type "list")
 |frz {a:Addr}{o:Obj}{xs:List V}(e:H a=some (.frz o (.lst xs))):TyOf K H (.ref a) (.type "list")
 |tup {a:Addr}{xs:List V}(e:H a=some (.tup xs)):TyOf K H (.ref a) (.type "tuple")
 |dK {a:Addr}{kvs:List (Key×V)}(e:H a=some (.dK kvs)):TyOf K H (.ref a) (.type "dict")
 |dT {a:Addr}{kvs:List (List Key×V)}(e:H a=some (.dT kvs)):TyOf K H (.ref a) (.type "dict")
 |ins {a C dx:Addr}{fs:List (Str×V)}(e:H a=some (.ins C dx fs)) (cl:Cls K C) (ha:W.findIn K (.ref C) "__class__" =some (some (.builtin "object.__class__")))
   (hn:W.specialIn K (.builtin "object.__class__") "__get__" =some (some (.builtin "getset_descriptor.__get__"))) (htk:W.takesIn K (.builtin "object.__class__")=some true)
   (hm:W.mroIn K C (.type "object")=some true):TyOf K H (.ref a) (.ref C)
theorem XH{x:V}{t:Value}(I:Inv X pins σ H s)(rx:RelV x u)(ty:TyOf X.K H x t)(e:W.kitOne X.K t c=some b)(h:∀tk,Q (.bool b) { s with toks:=tk }) :
  wpAny (model X.prog X.w) A (call (.builtin "isinstance") [u,c]) Q E s:=by
 cases ty with
 |non=>cases(show u=Value.none from rx);exact PySem.W.kia_one PySem.W.kitx_none I.kIn True.intro e (λz=>nomatch z) h
 |bl y=>cases(show u=Value.bool y from rx);exact PySem.W.kia_one PySem.W.kitx_bool I.kIn True.intro e (λz=>nomatch z) h
 |int i=>obtain⟨t,q⟩:=(show ∃t,u=Value.int i t from rx);cases q;exact PySem.W.kia_one PySem.W.kitx_int I.kIn True.intro e (λz=>nomatch z) h
 |str y=>obtain⟨t,q⟩:=(show ∃t,u=Value.str y t from rx);cases q;exact PySem.W.kia_one PySem.W.kitx_str I.kIn True.intro e (λz=>nomatch z) h
 |flt y=>obtain⟨t,q⟩:=(show ∃t,u=Value.float y t from rx);cases q;exact PySem.W.kia_one PySem.W.kitx_float I.kIn True.intro e (λz=>nomatch z) h
 |@lst a xs ea=>
  cases(show u=Value.ref a from rx);obtain⟨_,_,n,_,h1⟩:=(show ym X.prog X.w H s.heap a (.lst xs)from I.hok a _ ea);exact PySem.W.kia_one PySem.W.kitx_list I.kIn ⟨_,h1,rfl⟩ e (λz=>nomatch z) h
 |@frz a ob xs ea=>
  cases(show u=Value.ref a from rx);obtain⟨_,_,_,n,_,h1⟩:=(show ym X.prog X.w H s.heap a (.frz ob (.lst xs))from I.hok a _ ea);exact PySem.W.kia_one PySem.W.kitx_list I.kIn ⟨_,h1,rfl⟩ e (λz=>nomatch z) h
 |@tup a xs ea=>
  cases(show u=Value.ref a from rx);obtain⟨_,_,_,p⟩:=(show ym X.prog X.w H s.heap a (.tup xs)from I.hok a _ ea);obtain⟨o,h1,h2,_⟩:=p;exact PySem.W.kia_one PySem.W.kitx_tuple I.kIn ⟨o,h1,h2⟩ e (λz=>nomatch z) h
 |@dK a kvs ea=>
  cases(show u=Value.ref a from rx);obtain⟨_,_,vs,_,p⟩:=(show ym X.prog X.w H s.heap a (.dK kvs)from I.hok a _ ea);obtain⟨o,es,ep,h1,h2,_⟩:=p;exact PySem.W.kia_one PySem.W.kitx_dict I.kIn ⟨o,h1,h2.1⟩ e (λz=>nomatch z) h
 |@dT a kvs ea=>
  cases(show u=Value.ref a from rx);obtain⟨_,_,xs,_,o,es,ep,h1,h2,_⟩:=(show ym X.prog X.w H s.heap a (.dT kvs)from I.hok a _ ea);exact PySem.W.kia_one PySem.W.kitx_dict I.kIn ⟨o,h1,h2.1⟩ e (λz=>nomatch z) h
 |@ins a C dx fs ea cl ha hn htk hm=>
  cases(show u=Value.ref a from rx);obtain⟨mA,O,_⟩:=Zf I.hok ea;obtain⟨od,J,_⟩:=O.look;exact PySem.W.kia_one (PySem.W.kitx_own (cl.get _) cl.hd ha hn htk hm) I.kIn J e (λz=>nomatch z) h
end
structure Room (k:Nat) (A:Around):Prop where
 hd:A.handled=none
 dp:A.depth+3*k+5<recursionLimit
 un:A.units+16*k+200<cLine
 gd:A.guards=some []
theorem Room.mono{j k:Nat}(r:Room k A)(h:j<=k):Room j A:=⟨r.hd,by have:=r.dp;omega,by have:=r.un;omega,r.gd⟩
theorem Room.deeper{k:Nat}(r:Room (k+1) A)(env:Env):Room k (A.deeper env):=
 ⟨r.hd,by have:=r.dp;show A.depth+1+3*k+5<_;omega,by have:=r.un;show A.units+3+16*k+200<_;omega,r.gd⟩
theorem Ka{kw:List (Str×Value)}:(A.under (.builtin "type.__call__" ⟨.ref C::us,kw⟩)).depth=A.depth+1:=by
 first|rfl|simp[Around.under,Code.weight,Code.isCreation,Code.isGuard,Code.isCaller,Code.frames,Code.isFrame,guardIds]
theorem Kb{kw:List (Str×Value)}:(A.under (.builtin "type.__call__" ⟨.ref C::us,kw⟩)).units=A.units+1:=by
 first|rfl|simp[Around.under,Code.cUnits,Code.frames,Code.isFrame]
theorem QU{kw:List (Str×Value)}:(A.under (.builtin "type.__call__" ⟨.ref C::us,kw⟩)).guards=A.guards:=by
 first|rfl|simp[Around.under,Code.guards,Code.isGuard,guardIds,pushGuards]
theorem Room.make{k:Nat}(r:Room (k+1) A)(C:Addr)(us:List Value)(kw:List (Str×Value)):Room k (A.under (.builtin "type.__call__" ⟨.ref C::us,kw⟩)):=
 ⟨r.hd,by have:=r.dp;rw[Ka];omega,by have:=r.un;rw[Kb];omega,by rw[QU];exact r.gd⟩
theorem Room.depth{k:Nat}(r:Room k A):A.depth<recursionLimit:=by have:=r.dp;omega
theorem Room.units{k:Nat}(r:Room k A):A.units+64<cLine:=by have:=r.un;omega
noncomputable def uh:TA:=λ_ H Q=>Q [] H
noncomputable def xZ(ta:TE)(tr:TA):TA:=λσ H Q=>ta σ H λx H1=>tr σ H1 λxs H2=>Q (x::xs) H2
section
variable {te:TE}
theorem zhu:PA X [] uh:=λ_ _ _ _ H Q I h=>Calls.spliced_nil ⟨[],H,I,.nil,h⟩
theorem zfo(ha:PE X e te)(hr:PA X es t)(hs:starEach (e::es) X.env=(false,eval e X.env)::starEach es X.env:=by rfl):PA X (e::es) (xZ te t):=by
 intro pos pins s σ H Q I h;rw[hs];show wpAny _ _ (spliced ((false,eval e X.env)::backTo pos (starEach es X.env))) _ _ s;refine Calls.spliced_cons (thn (ha pins s σ H _ I h) λu s1 ⟨x,H1,I1,r1,q1⟩=>?_);exact thn (hr pos pins s1 σ H1 _ I1 q1) λus s2 ⟨xs,H2,I2,r2,q2⟩=>⟨x::xs,H2,I2,.cons r1 r2,q2⟩
noncomputable def zcz(t:TA):TE:=λσ H Q=>t σ H λxs H1=>xs.length<=sizeLine/\∀p,H1 p=none->Q (.ref p) (upd H1 p (.tup xs))
noncomputable def VT(t:TA):TE:=λσ H Q=>t σ H λxs H1=>xs.length<=sizeLine/\∀p,H1 p=none->Q (.ref p) (upd H1 p (.lst xs))
theorem zhv{x1}(h:PA X es t):PE X (.Tuple es x1 pos) (zcz t):=by
 intro pins s σ H Q I hq;refine wpAny_Tuple_spliced (thn (h pos pins s σ H _ I hq) λus s1 ⟨xs,H1,I1,r,z,q⟩=>⟨by rw[<-r.length];exact z,?_⟩);have hf:H1 s1.heap.objs.size=none:=I1.hok.fresh (Nat.le_refl _);refine⟨.ref s1.heap.objs.size,upd H1 s1.heap.objs.size (.tup xs),I1.laid (t':=s1.toks) (λb u e=>Heap.get?_push_of_some _ e) (Nat.le_refl _) ?_,rfl,q _ hf⟩;exact⟨z,us,r,⟨_,Heap.get?_push_size _ rfl,rfl,_,rfl⟩⟩
theorem zaI(h:PA X es t):PE X (.List es pos) (VT t):=by
 intro pins s σ H Q I hq;refine wpAny_List_spliced (thn (h pos pins s σ H _ I hq) λus s1 ⟨xs,H1,I1,r,z,q⟩=>⟨by rw[<-r.length];exact z,?_⟩);have hf:H1 s1.heap.objs.size=none:=I1.hok.fresh (Nat.le_refl _);refine⟨.ref s1.heap.objs.size,upd H1 s1.heap.objs.size (.lst xs),I1.laid (t':=s1.toks) (λb u e=>Heap.get?_push_of_some _ e) (Nat.le_refl _) ?_,rfl,q _ hf⟩;exact⟨z,us,0,r,Heap.get?_push_size _ rfl⟩
end
noncomputable abbrev Sp:=List V->Hp->VK->XK->Prop
noncomputable abbrev CXT:=List Env->Hp->Shared->XK->Value->Shared->Prop
structure Env0 (P:Program) (w:World) (K:W.Frag) (mg:Str->Option Value) (base:Heap) (A:Around) (outer:List Env) (s:Shared) (H:Hp):Prop where
 frames:A.frames=some outer
 mod:Mod K mg base
 bs:∀b o,base.get? b=some o->s.heap.get? b=some o/\H b=none
 bsz:base.objs.size<=s.heap.objs.size
 funs:s.heap.FunFrames base outer
 frf:∀b∈frs outer,H b=none
 hok:HOk P w H s.heap
 bare:AllBare s.gens
noncomputable def CE(outer:List Env)(P:Program)(w:World)(H:Hp)(s:Shared)(Q:VK)(u:Value)(s':Shared):Prop:=
 ∃v H',s'.os=s.os/\AllBare s'.gens/\Un (frs outer) [] H H' s.heap s'.heap/\HOk P w H' s'.heap/\RelV v u/\Q v H'
noncomputable def CR(CX:CXT)(outer:List Env)(P:Program)(w:World)(H:Hp)(s:Shared)(Q:VK)(E:XK)(r:Result)(s':Shared):Prop:=
 match r with
 |.ok (.ret u)=>CE outer P w H s Q u s'
 |.ok _=>False
 |.error e=>CX outer H s E e s'
structure FnOk (P:Program) (w:World) (K:W.Frag) (mg:Str->Option Value) (base:Heap) (CX:CXT) (k:Nat) (f:Addr) (fd:FuncData) (ps:List Str) (sp:Sp):Prop where
 len:∀vs H Q E,sp vs H Q E->vs.length=ps.length
 run:∀(A:Around) (outer:List Env) (s:Shared) (H:Hp) (args:Args) (us:List Value) (vs:List V) (Q:VK) (E:XK),Room k A->Env0 P w K mg base A outer s H->BindsTo s fd args (ps.zip us)->Vals vs us->sp vs H Q E->
  codeAny (model P w) A (.call (.ref f) args) (CR CX outer P w H s Q E) s
theorem FnOk.imp{w:World}{CX:CXT}{k:Nat}{ps:List Str}{sp sp':Sp}(F:FnOk P w K mg base CX k f fd ps sp)
  (h:∀vs H Q E,sp' vs H Q E->sp vs H Q E):FnOk P w K mg base CX k f fd ps sp':=
 ⟨λvs H Q E q=>F.len vs H Q E (h _ _ _ _ q),λA outer s H args us vs Q E hr he hb hv hs=>F.run A outer s H args us vs Q E hr he hb hv (h _ _ _ _ hs)⟩
theorem Env0.make{w:World}{outer:List Env}(e:Env0 P w K mg base A outer s H)(C:Addr)(us:List Value)(kw:List (Str×Value)) :
  Env0 P w K mg base (A.under (.builtin "type.__call__" ⟨.ref C::us,kw⟩)) outer s H:=⟨by first|exact e.frames|(simpa[Around.under,Code.envs,Code.isFrame,pushEnvs]using e.frames),e.mod,e.bs,e.bsz,e.funs,e.frf,e.hok,e.bare⟩
section
variable {s':Shared}
theorem Inv.env0(I:Inv X pins σ H s):Env0 X.prog X.w X.K X.mg X.base X.A X.stack s H:=
 ⟨I.ok.frames,I.ok.mod,I.bs,Nat.le_trans I.ok.bsz I.sz,I.stack,I.stkFree,I.hok,I.bare⟩
theorem Inv.after{Q:VK}(I:Inv X pins σ H s)(h:CE X.stack X.prog X.w H s Q u s'):EP X pins σ Q u s':=by
 obtain⟨v,H',os,bare,un,hok,r,q⟩:=h;obtain⟨hh,g,d,t,os'⟩:=s';obtain rfl:os'=s.os:=os;exact⟨v,H',I.call (h':=hh) (g':=g) (d':=d) (t':=t) (ch:=[]) un hok bare (λb z=>absurd z (by simp)),r,q⟩
end
noncomputable def Zg(sp:Sp)(dvs:List V)(E:XK)(t:TA):TE:=λσ H Q=>t σ H λvs H1=>sp (vs++dvs) H1 Q E
noncomputable def Zh(C:Addr)(m:Str)(sp:Sp)(dvs:List V)(E:XK)(ta:TE)(t:TA):TE:=λσ H Q=>ta σ H λx H1=>∃a dx fs,x=.ref a/\H1 a=some (.ins C dx fs)/\fs.lookup m=none/\
 t σ H1 λvs H2=>sp (x::(vs++dvs)) H2 Q E
noncomputable def Yc(C:Addr)(sp:Sp)(dvs:List V)(E:XK)(t:TA):TE:=λσ H Q=>t σ H λvs H1=>∀x dx,H1 x=none->H1 dx=none->dx≠x->
 sp (.ref x::(vs++dvs)) (upd (upd H1 dx (.own x)) x (.ins C dx [])) (λv H2=>v=.non/\Q (.ref x) H2) E
noncomputable def Binds(K:W.Frag)(fd:FuncData)(ps:List Str)(ds:List Value):Prop:=
 ∀(s:Shared) (us:List Value),K.In s.heap->(us++ds).length=ps.length->BindsTo s fd ⟨us,[]⟩ (ps.zip (us++ds))
theorem Binds.all{ps:List Str}(h:∀us:List Value,us.length=ps.length->bindArgs fd ⟨us,[]⟩=pure (ps.zip us)):Binds K fd ps []:=λs us _ hl=>by
 rw[List.append_nil]at hl ⊢;exact .of_eq (h us hl)
noncomputable def ub(CX:CXT)(X:Cx)(E:XK):Prop:=∀(pins:List (Addr×Obj)) (σ:St) (H:Hp) (s:Shared) (e:Value) (s':Shared),Inv X pins σ H s->CX X.stack H s E e s'->X.xe e s'
section
variable {CX:CXT}{k:Nat}{ps:List Str}{sp:Sp}{dvs:List V}{ds:List Value}{E:XK}{m:Str}{p apos:Pos}{o:Expr}
theorem VU{Q:VK}(F:FnOk X.prog X.w X.K X.mg X.base CX k f fd ps sp)(hr:Room k X.A)(hb:Binds X.K fd ps ds)(hd:Vals dvs ds)(hx:ub CX X E)
  (I:Inv X pins σ H s)(r:Vals vs us)(h:sp (vs++dvs) H Q E):wpAny (model X.prog X.w) X.A (call (.ref f) us) (EP X pins σ Q) X.xe s:=by
 have r2:Vals (vs++dvs) (us++ds):=r.append hd;have hl:(us++ds).length=ps.length:=by rw[<-r2.length];exact F.len _ _ _ _ h
 refine wpAny_call (codeAny_mono (F.run X.A X.stack s H ⟨us,[]⟩ (us++ds) (vs++dvs) Q E hr I.env0 (hb s us I.kIn hl) r2 h) λr s' hq=>?_);cases r with
 |error e=>exact hx pins σ H s e s' I hq
 |ok fl=>
  cases fl with
  |ret u=>exact I.after hq
  |next=>exact False.elim hq
  |brk=>exact False.elim hq
  |cont=>exact False.elim hq
theorem zfp(F:FnOk X.prog X.w X.K X.mg X.base CX k f fd ps sp)(hr:Room k X.A)(hg:Gl X x)(hm:X.mg x=some (.ref f))(hk:W.keepIn X.K (.ref f)=true)(hb:Binds X.K fd ps ds)(hd:Vals dvs ds)(hx:ub CX X E)
  (ha:PA X (e::es) t)(hdb:(x==("__debug__":Str))=false:=by decide)(he:starEach (e::es) X.env=(false,eval e X.env)::starEach es X.env:=by rfl)(hpl:(backTo pos (starEach es X.env)).any (·.1)=false:=by rfl) :
  PE X (.Call (.Name x p) (e::es) [] pos) (Zg sp dvs E t):=by
 intro pins s σ H Q I h;refine wpAny_Call_Name_kw (qY I hg hm ?_ hdb);refine PySem.W.callWith_K (h₀:=X.base) I.ok.mod.kin hk (thn (ha pos pins s σ H _ I h) λus s1 ⟨vs,H1,I1,r,q⟩=>⟨I1.kIn,?_⟩) he hpl;exact VU F hr hb hd hx I1 r q
theorem zfq{pl:Sem Bool}(he:PE X o ta)(c:Cls X.K C)(hm:Meth X.K C m f)(F:FnOk X.prog X.w X.K X.mg X.base CX k f fd ps sp)(hr:Room k X.A)(hb:Binds X.K fd ps ds)(hd:Vals dvs ds)(hx:ub CX X E)(ha:PA X (e::es) t)
    (hst:starEach (e::es) X.env=(false,eval e X.env)::starEach es X.env:=by rfl)(hpl:(backTo pos (starEach es X.env)).any (·.1)=false:=by rfl)
    (ht:eval (.Call (.Attribute o m apos) (e :: es) [] pos) X.env=(do
      let ov<-eval o X.env
      standAt apos.atName
      let(f,first)<-holding [ov] (getMethod ov m pl)
      callWith pos f first (backTo pos (starEach (e::es) X.env)) (backToKw pos (keywordEach [] X.env))):=by rfl) :
    PE X (.Call (.Attribute o m apos) (e::es) [] pos) (Zh C m sp dvs E ta t):=by
  intro pins s σ H Q I h;refine PySem.W.methodCall_KW (pl:=pl) (thn (he pins s σ H _ I h) λu s1 ⟨x,H1,I1,rx,a,dx,fs,ex,ea,l,q⟩=>?_) ht;subst ex;obtain rfl:u=Value.ref a:=rx;refine Yb I1 ea c hm l ?_;refine PySem.W.callWith_K (first:=[.ref a]) (h₀:=X.base) I.ok.mod.kin hm.kp (thn (ha pos pins s1 σ H1 _ I1 q) λus s2 ⟨vs,H2,I2,r,q2⟩=>⟨I2.kIn,?_⟩) hst hpl;exact VU (us:=.ref a::us) (vs:=.ref a::vs) F hr hb hd hx I2 (.cons rfl r) q2
theorem zcA{pl:Sem Bool}(he:PE X o ta)(c:Cls X.K C)(hm:Meth X.K C m f)(F:FnOk X.prog X.w X.K X.mg X.base CX k f fd ps sp)(hr:Room k X.A)(hb:Binds X.K fd ps ds)(hd:Vals dvs ds)(hx:ub CX X E)
    (ht:eval (.Call (.Attribute o m apos) [] [] pos) X.env=(do
      let ov<-eval o X.env
      standAt apos.atName
      let(f,first)<-holding [ov] (getMethod ov m pl)
      callWith pos f first (backTo pos (starEach [] X.env)) (backToKw pos (keywordEach [] X.env))):=by rfl) :
    PE X (.Call (.Attribute o m apos) [] [] pos) (Zh C m sp dvs E ta uh):=by
  intro pins s σ H Q I h;refine PySem.W.methodCall_KW (pl:=pl) (thn (he pins s σ H _ I h) λu s1 ⟨x,H1,I1,rx,a,dx,fs,ex,ea,l,q⟩=>?_) ht;subst ex;obtain rfl:u=Value.ref a:=rx;refine Yb I1 ea c hm l ?_;exact PySem.W.callWith_K0 (first:=[.ref a]) I1.kIn hm.kp (VU (us:=[.ref a]) (vs:=[.ref a]) F hr hb hd hx I1 (.cons rfl .nil) q)
structure Mk (K:W.Frag) (C f:Addr):Prop where
 makes:W.makesIn K C=true
 init:W.findIn K (.ref C) "__init__" =some (some (.ref f))
 fn:W.isFn K (.ref f)=true
 kp:W.keepIn K (.ref C)=true
theorem VW{Q:VK}(M:Mk X.K C f)(F:FnOk X.prog X.w X.K X.mg X.base CX k f fd ps sp)(hr:Room (k+1) X.A)(hb:Binds X.K fd ps ds)(hd:Vals dvs ds)
    (hx:ub CX X E)(I:Inv X pins σ H s)(r:Vals vs us)
    (h:∀x dx,H x=none->H dx=none->dx≠x->sp (.ref x::(vs++dvs)) (upd (upd H dx (.own x)) x (.ins C dx [])) (λv H2=>v=.non/\Q (.ref x) H2) E) :
    wpAny (model X.prog X.w) X.A (call (.ref C) us) (EP X pins σ Q) X.xe s:=by
  have hq:=h (s.heap.objs.size+1) s.heap.objs.size (I.hok.fresh (Nat.le_succ _)) (I.hok.fresh (Nat.le_refl _)) (Nat.ne_of_lt (Nat.lt_succ_self _));have I2:=Inv.made (C:=C) I;have r2:Vals (V.ref (s.heap.objs.size+1)::(vs++dvs)) (Value.ref (s.heap.objs.size+1)::(us++ds)):=.cons rfl (r.append hd);have hl:(Value.ref (s.heap.objs.size+1)::us++ds).length=ps.length:=by
    have e:=r2.length;rw[F.len _ _ _ _ hq]at e;exact e.symm
  refine wpAny_call (zcy (f:=f) I.kIn M.makes M.init (beq_iff_eq.mp M.fn) (codeAny_mono (F.run _ X.stack _ _ ⟨Value.ref (s.heap.objs.size+1) :: us,[]⟩ (Value.ref (s.heap.objs.size+1) :: (us ++ ds)) _ _ E (hr.make C us [])
    (I2.env0.make C us []) (hb _ (Value.ref (s.heap.objs.size+1)::us) I2.kIn hl) r2 hq) λr s' hq'=>?_))
  cases r with
  |error e=>exact hx pins σ _ _ e s' I2 hq'
  |ok fl=>
    cases fl with
    |ret u=>
      obtain⟨v,H',I3,rv,ev,q3⟩:=I2.after hq';subst ev;exact⟨rv,⟨V.ref (s.heap.objs.size+1),H',I3,rfl,q3⟩⟩
    |next=>exact False.elim hq'
    |brk=>exact False.elim hq'
    |cont=>exact False.elim hq'
theorem zfr(M:Mk X.K C f)(F:FnOk X.prog X.w X.K X.mg X.base CX k f fd ps sp)(hr:Room (k+1) X.A)(hg:Gl X x)(hm:X.mg x=some (.ref C))(hb:Binds X.K fd ps ds)(hd:Vals dvs ds)(hx:ub CX X E)
  (ha:PA X (e::es) t)(hdb:(x==("__debug__":Str))=false:=by decide)(he:starEach (e::es) X.env=(false,eval e X.env)::starEach es X.env:=by rfl)(hpl:(backTo pos (starEach es X.env)).any (·.1)=false:=by rfl) :
  PE X (.Call (.Name x p) (e::es) [] pos) (Yc C sp dvs E t):=by
 intro pins s σ H Q I h;refine wpAny_Call_Name_kw (qY I hg hm ?_ hdb);refine PySem.W.callWith_K (h₀:=X.base) I.ok.mod.kin M.kp (thn (ha pos pins s σ H _ I h) λus s1 ⟨vs,H1,I1,r,q⟩=>⟨I1.kIn,?_⟩) he hpl;exact VW M F hr hb hd hx I1 r q
theorem zcB(M:Mk X.K C f)(F:FnOk X.prog X.w X.K X.mg X.base CX k f fd ps sp)(hr:Room (k+1) X.A)(hg:Gl X x)(hm:X.mg x=some (.ref C))(hb:Binds X.K fd ps ds)(hd:Vals dvs ds)(hx:ub CX X E)
  (hdb:(x==("__debug__":Str))=false:=by decide):PE X (.Call (.Name x p) [] [] pos) (Yc C sp dvs E uh):=by
 intro pins s σ H Q I h;refine wpAny_Call_Name_kw (qY I hg hm ?_ hdb);exact PySem.W.callWith_K0 I.kIn M.kp (VW (us:=[]) M F hr hb hd hx I .nil h)
end
noncomputable def PK(X:Cx)(kws:List Keyword)(t:TA):Prop:=
 ∀(pos:Pos) (pins:List (Addr×Obj)) (s:Shared) (σ:St) (H:Hp) (Q:List V->Hp->Prop),Inv X pins σ H s->t σ H Q->wpAny (model X.prog X.w) X.A (evalAll ((backToKw pos (keywordEach kws X.env)).map (·.2))) (AP X pins σ Q) X.xe s
section
variable {CX:CXT}{k:Nat}{ps ks:List Str}{sp:Sp}{E:XK}{m:Str}{p apos kpos:Pos}{o:Expr}{kws:List Keyword}{te:TE}{tk:TA}{nm:Option Str}
theorem zaJ:PK X [] uh:=λ_ _ _ _ H Q I h=>wpAny_evalAll_nil ⟨[],H,I,.nil,h⟩
theorem Jr(ha:PE X e te)(hr:PK X kws t):PK X (⟨nm,e,kpos⟩::kws) (xZ te t):=by
 intro pos pins s σ H Q I h;show wpAny _ _ (evalAll ((do let v<-eval e X.env;standAt pos;pure v)::(backToKw pos (keywordEach kws X.env)).map (·.2))) _ _ s;refine wpAny_evalAll_cons (wpAny_bind (thn (ha pins s σ H _ I h) λu s1 ⟨x,H1,I1,r1,q1⟩=>wpAny_bind (wpAny_standAt (wpAny_pure ?_))));exact thn (hr pos pins s1 σ H1 _ I1 q1) λus s2 ⟨xs,H2,I2,r2,q2⟩=>⟨x::xs,H2,I2,.cons r1 r2,q2⟩
variable {g:List Value->List Value->List Value}{gV:List V->List V->List V}
end
structure FnScope (N P:List Str) (sc:Scope):Prop where
 kind:sc.kind=.function
 co:sc.isCoroutine=false
 gen:sc.isGenerator=false
 nd:N.Nodup
 pre:N.take P.length=P
 par:∀x∈P,sc.names.lookup x=some .local\/sc.names.lookup x=some .cell
 nofree:∀y∈sc.names,y.2≠.free
theorem XI{kindOf:Str->Option NameKind}:∀{binds:List (Str×Value)}{m:Str->Option Value},(∀v,(x,v)∉binds)->bindL kindOf binds m x=m x
 |[],_,_=>rfl
 |(n,v)::r,m,h=>by
  unfold bindL;rw[XI λw hw=>h w (List.mem_cons_of_mem _ hw)];split
  .have:x≠n:=by rintro rfl;exact h v List.mem_cons_self
   simp[this]
  .rfl
theorem XJ{kindOf:Str->Option NameKind}:∀{binds:List (Str×Value)}{m:Str->Option Value},(∀v,(x,v)∉binds)->bindC kindOf binds m x=m x
 |[],_,_=>rfl
 |(n,v)::r,m,h=>by
  unfold bindC;rw[XJ λw hw=>h w (List.mem_cons_of_mem _ hw)];split
  .rfl
  .have:x≠n:=by rintro rfl;exact h v List.mem_cons_self
   simp[this]
theorem XL{kindOf:Str->Option NameKind}{v:Value}:∀{P:List Str}{vs:List Value}{i:Nat}{m:Str->Option Value},P.Nodup->P[i]? =some x->vs[i]? =some v->kindOf x=some .local->
  bindL kindOf (P.zip vs) m x=some v
 |[],_,_,_,_,h,_,_=>by simp at h
 |_::_,[],_,_,_,_,h,_=>by simp at h
 |p::P,w::vs,0,m,nd,h1,h2,hk=>by
  simp at h1 h2;subst h1;subst h2;show bindL kindOf ((p,w)::P.zip vs) m p=_;unfold bindL;rw[XI λv hv=>(List.nodup_cons.mp nd).1 (List.of_mem_zip hv).1,if_pos hk];simp
 |p::P,w::vs,i+1,m,nd,h1,h2,hk=>by
  show bindL kindOf ((p,w)::P.zip vs) m x=_;unfold bindL;exact XL (i:=i) (List.nodup_cons.mp nd).2 (by simpa using h1) (by simpa using h2) hk
theorem XM{kindOf:Str->Option NameKind}{v:Value}:∀{P:List Str}{vs:List Value}{i:Nat}{m:Str->Option Value},P.Nodup->P[i]? =some x->vs[i]? =some v->kindOf x≠some .local->
  bindC kindOf (P.zip vs) m x=some v
 |[],_,_,_,_,h,_,_=>by simp at h
 |_::_,[],_,_,_,_,h,_=>by simp at h
 |p::P,w::vs,0,m,nd,h1,h2,hk=>by
  simp at h1 h2;subst h1;subst h2;show bindC kindOf ((p,w)::P.zip vs) m p=_;unfold bindC;rw[XJ λv hv=>(List.nodup_cons.mp nd).1 (List.of_mem_zip hv).1,if_neg hk];simp
 |p::P,w::vs,i+1,m,nd,h1,h2,hk=>by
  show bindC kindOf ((p,w)::P.zip vs) m x=_;unfold bindC;exact XM (i:=i) (List.nodup_cons.mp nd).2 (by simpa using h1) (by simpa using h2) hk
noncomputable def start(N:List Str)(vs:List V):St:=vs.map some++List.replicate (N.length-vs.length) none
noncomputable def vH(CX:CXT)(P:Program)(w:World)(K:W.Frag)(mg:Str->Option Value)(base:Heap)(N:List Str)(qual:Str)(scope:Scope)(f:Addr)(cd:Value)(A:Around)(outer:List Env)(s:Shared)(H:Hp)(E:XK):Cx where
 prog:=P
 w:=w
 K:=K
 mg:=mg
 base:=base
 A:=A.deeper (envOfC qual scope s.heap.objs.size f cd)
 N:=N
 s₀:=s
 H₀:=H
 env:=envOfC qual scope s.heap.objs.size f cd
 outer:=outer
 stack:=envOfC qual scope s.heap.objs.size f cd::outer
 ex:=[]
 calm:=true
 fn:=λ_=>true
 pn:=[]
 xe:=λe s'=>wpAny (model P w) (A.deeper (envOfC qual scope s.heap.objs.size f cd)) (leaving (envOfC qual scope s.heap.objs.size f cd) e) (λ_ s''=>CX outer H s E e s'') (λe' s''=>CX outer H s E e' s'') s'
theorem VX{sc:Scope}(h:sc.names.lookup x=some .cell):∃c,(cellsFrom n sc.names []).lookup x=some c:=by
 have q:=PySem.W.cellsFrom_some sc.names n [] (.inl h);exact Option.isSome_iff_exists.mp q
theorem zaK{CX:CXT}{w:World}{ps:List Str}{qual:Str}{scope:Scope}{cd:Value}{outer:List Env}{s1:Shared}{E:XK}
  (S:FnScope N ps scope)(hd:A.handled=none)(e0:Env0 P w K mg base A outer s H)(hl:vs.length=ps.length)(r:Vals vs us)
  (x:InCallC s s.heap.objs.size (bindL (envOfC qual scope s.heap.objs.size f cd).kindOf (ps.zip us) λ_=>none) (cellsFrom (s.heap.objs.size+1) scope.names []) (bindC (envOfC qual scope s.heap.objs.size f cd).kindOf (ps.zip us) λ_=>none) s1) :
  Inv (vH CX P w K mg base N qual scope f cd A outer s H E) [] (start N vs) H s1:=by
 have hpl:ps.length<=N.length:=by have:=congrArg List.length S.pre;rw[List.length_take]at this;omega
 obtain⟨h1,tk,rfl,hk⟩:=x.done;have noA:∀b:Addr,b∉(vH CX P w K mg base N qual scope f cd A outer s H E).ex:=λb z=>absurd (show b∈([]:List Addr)from z) (by simp);refine⟨⟨e0.mod,S.kind,rfl,rfl,Nat.le_refl _,fun y z c h1 h2=>?_,fun y hy=>?_,fun y c _ h=>?_,fun _=>hd,Around.frames_deeper e0.frames,.inr ⟨rfl,rfl⟩,fun b z=>absurd z (noA b),e0.bs,e0.bsz,fun b _ _=>noA b,fun b z=>absurd z (noA b),e0.funs,e0.frf⟩,
  rfl,e0.bare,Un.kept hk,⟨_,x.toInCall.ns,λi y v h1 h2 h3=>?_⟩,λy c h=>⟨_,x.cell y c h⟩,e0.hok.fresh (Nat.le_refl _),λy c h=>?_,λp hp=>absurd (show p∈([]:List (Addr×Obj))from hp) (by simp),e0.hok.kept hk,?_⟩
 .exact name_of_addr x.apart (PySem.mem_of_lookup h1) (PySem.mem_of_lookup h2)
 .have hy:scope.names.lookup y=some .cell\/scope.names.lookup y=some .free:=hy
  rcases hy with hy|hy
  .exact VX hy
  .exact absurd rfl (S.nofree _ (PySem.mem_of_lookup hy))
 .exact Nat.le_of_lt (x.above y c (PySem.mem_of_lookup h))
 .have hi:i<vs.length:=by
   unfold start at h2;by_cases hi:i<vs.length
   .exact hi
   .rw[List.getElem?_append_right (by simpa using hi)]at h2
    rw[List.getElem?_replicate]at h2;split at h2<;>cases h2
  have ha:vs[i]? =some v:=by
   unfold start at h2;rw[List.getElem?_append_left (by simpa using hi),List.getElem?_map]at h2;cases e:vs[i]? with
   |none=>rw[e]at h2;cases h2
   |some a=>rw[e]at h2;cases h2;rfl
  obtain⟨u,hu,rv⟩:=r.get ha;have hp:ps[i]? =some y:=by
   rw[<-S.pre,List.getElem?_take_of_lt (by omega)];exact h1
  have ndP:ps.Nodup:=by rw[<-S.pre];exact S.nd.sublist (List.take_sublist _ _)
  refine⟨u,rv,?_⟩;rcases S.par y (List.mem_of_getElem? hp)with k|k
  .exact .inl ⟨k,XL ndP hp hu k⟩
  .obtain⟨c,e⟩:=VX (n:=s.heap.objs.size+1) k
   refine .inr ⟨.inl k,c,e,?_⟩;have q:=x.cell y c e;rw[XM ndP hp hu (by show scope.names.lookup y≠_;rw[k];decide)]at q;exact q
 .exact e0.hok.fresh (Nat.le_of_lt (x.above y c (PySem.mem_of_lookup h)))
 .unfold start
  show _=N.length;rw[List.length_append,List.length_map,List.length_replicate];omega
theorem zeo{CX:CXT}{w:World}{k:Nat}{name qual:Str}{params:Arguments}{body:List Stmt}{scope:Scope}{dV kV doc pm cdv ct oc:Value}{an od:Option Addr}
    {osl:Array (Option Value)}{ps:List Str}{sp:Sp}(lk:K.lookup f=some ⟨oc,od,.func (W.fnOf name qual params body scope dV kV doc pm an cdv ct),osl⟩)(hcd:W.codeIn K cdv qual=true)(S:FnScope N ps scope)
    (len:∀vs H Q E,sp vs H Q E->vs.length=ps.length)
    (hbody:∀ (A:Around) (outer:List Env) (s:Shared) (H:Hp) (vs:List V) (Q:VK) (E:XK),Room k (A.deeper (envOfC qual scope s.heap.objs.size f cdv))->sp vs H Q E->
      ∃t,PSs (vH CX P w K mg base N qual scope f cdv A outer s H E) body t/\t { nx:=λ_ H'=>Q .non H',rt:=Q } (start N vs) H) :
    FnOk P w K mg base CX (k+1) f (W.fnOf name qual params body scope dV kV doc pm an cdv ct) ps sp:=by
  refine⟨len,λA outer s H args us vs Q E hr e0 hb r hsp=>?_⟩;have hl:=len _ _ _ _ hsp;have KX:K.In s.heap:=e0.mod.kin.keeps λb o e=>(e0.bs b o e).1;have lim:s.heap.NoLimit:=e0.mod.nolimit.keeps λb o e=>(e0.bs b o e).1;have hkind:∀y∈ps.zip us,scope.names.lookup y.1=some .local\/(scope.names.lookup y.1=some .cell/\((cellsFrom (s.heap.objs.size+1) scope.names []).lookup y.1).isSome=true):=λ⟨n,v⟩ hy=>by
    rcases S.par n (List.of_mem_zip hy).1 with q|q
    · exact .inl q
    · exact .inr ⟨q,PySem.W.cellsFrom_some _ _ _ (.inl q)⟩
  refine codeAny_call_function hr.depth (KX _ _ lk) rfl S.co S.gen rfl (PySem.W.codeRec_of KX hcd) (hb _ _ _ _ ?_);refine wpAny_newFunctionEnv_cells S.kind hkind λenv he s1 x=>?_;subst he;refine⟨lim.keeps x.toInCall.keep,codeAny_func ?_⟩;obtain⟨t,ht,hq⟩:=hbody A outer s H vs Q E (hr.deeper _) hsp;have I:Inv (vH CX P w K mg base N qual scope f cdv A outer s H E) [] (start N vs) H s1:=zaK S hr.hd e0 hl r x;refine wpAny_mono (ht [] s1 (start N vs) H _ I hq) (λfl s' hs=>?_) λe s' hs=>hs;have fin:∀{σ':St}{H':Hp}{v:V}{u:Value},Inv (vH CX P w K mg base N qual scope f cdv A outer s H E) [] σ' H' s'->RelV v u->Q v H'->CE outer P w H s Q u s':=
    λ{σ' H' v u} J rv q=>⟨v,H',J.os,J.bare,J.base,J.hok,rv,q⟩
  cases fl with
  |ret u=>
    obtain⟨v,σ',H',J,rv,q⟩:=hs;exact fin J rv q
  |next=>
    obtain⟨σ',H',J,q⟩:=hs;exact fin (v:=V.non) (u:=Value.none) J rfl q
  |brk=>
    obtain⟨_,_,_,q⟩:=hs;exact False.elim q
  |cont=>
    obtain⟨_,_,_,q⟩:=hs;exact False.elim q
section
variable {p:Pos}{id T:String}{r:List V->Hp->VK->Prop}
noncomputable def tCB(r:List V->Hp->VK->Prop)(t:TA):TE:=λσ H Q=>t σ H λvs H1=>r vs H1 Q
theorem yf(hc:yv X (.builtin id) r)(hg:Gl X x)(hm:X.mg x=none)(hv:bootBuiltins x=some (.builtin id))(ha:PA X (e::es) t)(hn:x≠"__name__":=by decide)(hdb:(x==("__debug__":Str))=false:=by decide)
  (he:starEach (e::es) X.env=(false,eval e X.env)::starEach es X.env:=by rfl)(hpl:(backTo pos (starEach es X.env)).any (·.1)=false:=by rfl):PE X (.Call (.Name x p) (e::es) [] pos) (tCB r t):=by
 intro pins s σ H Q I h;refine wpAny_Call_Name_kw (vX I hg hm hv ?_ hn hdb);exact PyProof.Rows.callWith_builtin1 (thn (ha pos pins s σ H _ I h) λus s1 ⟨vs,H1,I1,r1,q1⟩=>hc pins s1 σ H1 vs us Q I1 r1 q1) he hpl
theorem yB(hc:yv X (.type T) r)(hg:Gl X x)(hm:X.mg x=none)(hv:bootBuiltins x=some (.type T))(ha:PA X (e::es) t)(hn:x≠"__name__":=by decide)(hdb:(x==("__debug__":Str))=false:=by decide)
  (he:starEach (e::es) X.env=(false,eval e X.env)::starEach es X.env:=by rfl)(hpl:(backTo pos (starEach es X.env)).any (·.1)=false:=by rfl):PE X (.Call (.Name x p) (e::es) [] pos) (tCB r t):=by
 intro pins s σ H Q I h;refine wpAny_Call_Name_kw (vX I hg hm hv ?_ hn hdb);exact PyProof.Rows.callWith_type1 (thn (ha pos pins s σ H _ I h) λus s1 ⟨vs,H1,I1,r1,q1⟩=>hc pins s1 σ H1 vs us Q I1 r1 q1) he hpl
end
end L2
variable {K:PySem.W.Frag}{E Q:PySem.Value->PySem.Shared->Prop}{mg:PySem.Str->Option PySem.Value}{pins:List (PySem.Addr×PySem.Obj)}{X:L2.Cx}{s:PySem.Shared}{P prog:PySem.Program}{C a f p dx b:PySem.Addr}{H:L2.Hp}{ds:List PySem.PyData}{A:PySem.Around}{fd:PySem.FuncData}{pos:PySem.Pos}{x:PySem.Str}{es:List PySem.Expr}{us:List PySem.Value}{n i:Nat}{e tg:PySem.Expr}{kvs:List (L2.Key×L2.V)}{u:PySem.Value}{vs:List L2.V}{σ:L2.St}{N:List PySem.Str}{base h:PySem.Heap}{t:L2.TA}{st:PySem.Stmt}{ta:L2.TE}{v:L2.V}
namespace HT
open PySem PyProof.Rows
section
open PySem.SeqAt
open PySem.AutoSeq1 (wpAny_loadPart')
open PySem.MeetsSeq PySem.MeetsSeq2 PySem.MeetsSeq3
end
section
variable {w:World}
noncomputable def sIx(n d:Nat):Option Int->Nat
 |none=>d
 |some v=>if v<0 then(v+(n:Int)).toNat else min v.toNat n
theorem sIx_nat(n d k:Nat):sIx n d (some (k:Int))=min k n:=by
 show(if(k:Int)<0 then((k:Int)+(n:Int)).toNat else min (k:Int).toNat n)=min k n;rw[if_neg (by omega),Int.toNat_natCast]
theorem zhw(n d:Nat)(hd:d<=n)(o:Option Int):sIx n d o<=n:=by
 cases o with
 |none=>exact hd
 |some v=>
  show(if v<0 then(v+(n:Int)).toNat else min v.toNat n)<=n;by_cases hv:v<0
  .rw[if_pos hv];omega
  .rw[if_neg hv];exact Nat.min_le_right _ _
theorem Js(v:Int)(n d:Nat):(if v<0 then max (v+(n:Int)) 0 else min v (n:Int))=((sIx n d (some v):Nat):Int):=by
 show(if v<0 then max (v+(n:Int)) 0 else min v (n:Int))=(((if v<0 then(v+(n:Int)).toNat else min v.toNat n):Nat):Int);by_cases hv:v<0
 .simp only[if_pos hv];omega
 .simp only[if_neg hv];omega
theorem Kc(lo hi:Option Int)(n:Nat):Builtin.Slice.sliceAdjust lo hi 1 (n:Int)=(((sIx n 0 lo:Nat):Int),((sIx n n hi:Nat):Int)):=by
 have h1:¬((1:Int)<0):=by omega
 unfold Builtin.Slice.sliceAdjust;simp only[h1,if_false];refine Prod.ext ?_ ?_
 .cases lo with
  |none=>rfl
  |some v=>exact Js v n 0
 .cases hi with
  |none=>rfl
  |some v=>exact Js v n n
theorem Kd(i j:Nat):Builtin.Slice.slicePlaces (i:Int) (j:Int) 1 =j-i:=by
 unfold Builtin.Slice.slicePlaces;have h1:(1:Int)>0:=by omega
 simp only[h1,if_true,Int.ediv_one];split<;>omega
theorem Yd{v:Value}{o:Option Int}{Q:Option Int->Shared->Prop}(p:IsPart v o)(h:Q o s):wpAny (model prog w) A (Builtin.Slice.slicePartIndex v) Q E s:=by
 cases p with
 |none=>exact slicePart_none h
 |int i t=>exact slicePart_int h
theorem ZL{sl:Addr}{vl vu:Value}{lo hi:Option Int}{Q:Int×Int×Nat->Shared->Prop}(hs:s.heap.IsSliceOf sl vl vu .none)(pl:IsPart vl lo)(pu:IsPart vu hi)
  (h:Q (((sIx n 0 lo:Nat):Int),1,sIx n n hi-sIx n 0 lo) s):wpAny (model prog w) A (Builtin.Slice.sliceApplied (.ref sl) (pure (n:Int))) Q E s:=by
 obtain⟨os,hos,hcs,hds⟩:=id hs;unfold Builtin.Slice.sliceApplied Builtin.Slice.sliceFields;refine wpAny_bind (wpAny_bind (wpAny_field hos hds (x:=vl) rfl (wpAny_bind (wpAny_field hos hds (x:=vu) rfl (wpAny_bind (wpAny_field hos hds (x:=.none) rfl (wpAny_pure ?_)))))));refine wpAny_bind (slicePart_none ?_);show wpAny _ _ (if((1:Int)==0)=true then _ else _) _ _ s;rw[if_neg (by decide)];refine wpAny_bind (Yd pl (wpAny_bind (Yd pu (wpAny_bind (wpAny_pure ?_)))));show wpAny _ _ (match Builtin.Slice.sliceAdjust lo hi 1 (n:Int)with|(lo,hi)=>pure (lo,(1:Int),Builtin.Slice.slicePlaces lo hi 1)) _ _ s;rw[Kc lo hi n];show wpAny _ _ (pure (((sIx n 0 lo:Nat):Int),(1:Int),Builtin.Slice.slicePlaces ((sIx n 0 lo:Nat):Int) ((sIx n n hi:Nat):Int) 1)) _ _ s;rw[Kd];exact wpAny_pure h
theorem zcC(xs:Array Value)(i k:Nat):((List.range k).filterMap λ(m:Nat)=>xs[((i:Int)+(m:Int)*1).toNat]?).toArray=((xs.toList.drop i).take k).toArray:=by
 have e:(λ(m:Nat)=>xs[((i:Int)+(m:Int)*1).toNat]?)=λm=>xs[i+m]?:=by
  funext m
  have:((i:Int)+(m:Int)*1).toNat=i+m:=by omega
  rw[this]
 rw[e];have:=pick_run xs i k;rw[List.filterMap_map]at this;have e2:((λx=>xs[x]?)∘λx=>i+x)=λm=>xs[i+m]?:=rfl;rw[e2]at this;rw[this]
theorem getItem_tuple_cut{t sl:Addr}{items:Array Value}{vl vu:Value}{lo hi:Option Int}(ht:IsTup s.heap t items)(hs:s.heap.IsSliceOf sl vl vu .none)(pl:IsPart vl lo)(pu:IsPart vu hi)
    (hw:¬(sIx items.size 0 lo= 0/\sIx items.size items.size hi=items.size))
    (h:Q (.ref s.heap.objs.size) { s with heap:=s.heap.push { cls:=.type "tuple",data:=.seq ((items.toList.drop (sIx items.size 0 lo)).take (sIx items.size items.size hi-sIx items.size 0 lo)).toArray } })
    (hsz:items.size<=sizeLine):wpAny (model prog w) A (getItem (.ref t) (.ref sl)) Q E s:=by
  have htake:sizeOk (.seq ((items.toList.drop (sIx items.size 0 lo)).take (sIx items.size items.size hi-sIx items.size 0 lo)).toArray):=by
    show((items.toList.drop (sIx items.size 0 lo)).take (sIx items.size items.size hi-sIx items.size 0 lo)).toArray.size<=sizeLine;rw[List.size_toArray,List.length_take,List.length_drop,Array.length_toList];omega
  have hj:sIx items.size items.size hi<=items.size:=zhw _ _ (Nat.le_refl _) hi;obtain⟨os,hos,hcs,hds⟩:=id hs;have hTs:s.TypeIs (.ref sl) "slice":=⟨os,hos,hcs⟩;unfold getItem
  try with_reducible refine wpAny_holding ?_
  first|refine wpAny_bind (wpAny_pure ?_)|skip
  refine wpAny_bind (wpAny_sequenceKey ht.typeIs (by decide) ?_);refine wpAny_bind (wpAny_callSpecial?_slot (name:=Str.ofString "__getitem__") ht.typeIs PyProof.Rows.slot_tuple_getitem
    (wpAny_call_entry PyProof.Rows.slot_tuple_getitem ht.typeIs entry_tuple_getitem ?_ (args_tuple_getitem _ _)))
  show wpAny _ _ (Builtin.Tuple.tupleItemsOf (.ref t) >>= _) _ _ s;refine wpAny_bind (tupleItemsOf_ ht ?_);refine wpAny_bind (wpAny_typeOf hTs ?_);rw[if_pos (by decide)];refine wpAny_bind (ZL hs pl pu ?_);have hno:¬((((sIx items.size 0 lo:Nat):Int)==0&&(1:Int)==1&&(sIx items.size items.size hi-sIx items.size 0 lo)==items.size)=true):=by
    intro q;rw[Bool.and_eq_true,Bool.and_eq_true]at q;have q1:((sIx items.size 0 lo:Nat):Int)= 0:=eq_of_beq q.1.1;have q2:sIx items.size items.size hi-sIx items.size 0 lo=items.size:=eq_of_beq q.2;exact hw ⟨by omega,by omega⟩
  show wpAny _ _ (if(((sIx items.size 0 lo:Nat):Int)==0&&(1:Int)==1&&(sIx items.size items.size hi-sIx items.size 0 lo)==items.size)=true then _ else _) _ _ s;rw[if_neg hno,zcC]
  first
    |exact wpAny_bind (m:=Builtin.Tuple.tupleExact _) (wpAny_newObj_type (wpAny_pure ⟨_,rfl,wpAny_pure h⟩) htake)
    |exact wpAny_bind (m:=Builtin.Tuple.tupleExact _) (wpAny_newObj_type (wpAny_bind (wpAny_pure (wpAny_pure ⟨_,rfl,wpAny_pure h⟩))) htake)
    |exact wpAny_bind (wpAny_bind (m:=Builtin.Tuple.tupleExact _) (wpAny_newObj_type (wpAny_pure (wpAny_pure ⟨_,rfl,wpAny_pure h⟩)) htake))
    |exact wpAny_bind (wpAny_bind (m:=Builtin.Tuple.tupleExact _) (wpAny_newObj_type (wpAny_pure ⟨_,rfl,wpAny_pure h⟩) htake))
end
end HT
namespace L2
open PySem PySem.Spec PyProof.Rows
noncomputable abbrev TO:=St->Hp->(Option Int->Hp->Prop)->Prop
noncomputable def PO(X:Cx)(e:Option Expr)(t:TO):Prop:=
 ∀(pins:List (Addr×Obj)) (s:Shared) (σ:St) (H:Hp) (Q:Option Int->Hp->Prop),Inv X pins σ H s->t σ H Q->
  wpAny (model X.prog X.w) X.A (evalPart e X.env) (λu s'=>∃o H',Inv X pins σ H' s'/\IsPart u o/\Q o H') X.xe s
noncomputable def Jt:TO:=λ_ H Q=>Q none H
noncomputable def zep(t:TE):TO:=λσ H Q=>t σ H λx H1=>∃i,x=.int i/\Q (some i) H1
section
variable {te:TE}{lo hi:Option Expr}{tl th:TO}{p2:Pos}
theorem uL:PO X none Jt:=by
 intro pins s σ H Q I h;rw[evalPart_none];exact wpAny_pure ⟨none,H,I,.none,h⟩
theorem va(h:PE X e te):PO X (some e) (zep te):=by
 intro pins s σ H Q I hw;rw[evalPart_some];refine thn (h pins s σ H _ I hw) λu s1 ⟨x,H1,I1,r1,q1⟩=>?_;obtain⟨i,rfl,q⟩:=q1;obtain⟨t,rfl⟩:=r1;exact⟨some i,H1,I1,.int i t,q⟩
noncomputable def SlR(X:Cx)(r:V->Option Int->Option Int->Hp->VK->Prop):Prop:=
 ∀(pins:List (Addr×Obj)) (s:Shared) (σ:St) (H:Hp) (x:V) (v vl vu:Value) (lo hi:Option Int) (sl:Addr) (Q:VK),Inv X pins σ H s->RelV x v->s.heap.IsSliceOf sl vl vu .none->IsPart vl lo->IsPart vu hi->r x lo hi H Q->
  ∃T id,typeLookup (.type T) "__getitem__" =pure (some (.builtin id))/\s.TypeIs v T/\wpAny (model X.prog X.w) X.A (getItem v (.ref sl)) (EP X pins σ Q) X.xe s
noncomputable def tSl(r:V->Option Int->Option Int->Hp->VK->Prop)(te:TE)(tl th:TO):TE:=λσ H Q=>te σ H λx H1=>tl σ H1 λl H2=>th σ H2 λu H3=>r x l u H3 Q
theorem x0{r:V->Option Int->Option Int->Hp->VK->Prop}(hr:SlR X r)(he:PE X e te)(hl:PO X lo tl)(hu:PO X hi th):PE X (.Subscript e (.Slice lo hi none p2) pos) (tSl r te tl th):=by
 intro pins s σ H Q I h;refine Subscript_ (thn (he pins s σ H _ I h) λv s1 ⟨x,H1,I1,r1,q1⟩=>?_);refine wpAny_Slice (thn (hl pins s1 σ H1 _ I1 q1) λvl s2 ⟨l,H2,I2,pl,q2⟩=>thn (hu pins s2 σ H2 _ I2 q2) λvu s3 ⟨u,H3,I3,pu,q3⟩=>?_);rw[evalPart_none];refine wpAny_pure ?_;have I4:Inv X pins σ H3 { s3 with heap:=s3.heap.push { cls:=.type "slice",data:=.fields #[vl,vu,.none] } }:=I3.kept (t':=s3.toks) λb ob q=>Heap.get?_push_of_some _ q;obtain⟨T,id,hT,ht,hg⟩:=hr pins { s3 with heap:=s3.heap.push { cls:=.type "slice",data:=.fields #[vl,vu,.none] } } σ H3 x v vl vu l u s3.heap.objs.size Q I4 r1 (Heap.IsSliceOf.new ..) pl pu q3;show wpAny (model X.prog X.w) X.A (subscriptTail e (.Slice lo hi none p2) v (.ref s3.heap.objs.size)) (EP X pins σ Q) X.xe { s3 with heap:=s3.heap.push { cls:=.type "slice",data:=.fields #[vl,vu,.none] } };exact tail_any (ops:=[.ref s3.heap.objs.size,v]) ht hT hg (by with_unfolding_all rfl)
noncomputable def ka(xs:List V)(lo hi:Option Int):List V:=(xs.drop (HT.sIx xs.length 0 lo)).take (HT.sIx xs.length xs.length hi-HT.sIx xs.length 0 lo)
theorem ZC(xs:List V)(lo hi:Option Int):(ka xs lo hi).length<=xs.length:=by
 unfold ka;rw[List.length_take,List.length_drop];omega
noncomputable def zcD(K:W.Frag):V->Option Int->Option Int->Hp->VK->Prop:=λx lo hi H Q=>∃a xs,x=.ref a/\SqT K H a xs/\
 ¬(HT.sIx xs.length 0 lo= 0/\HT.sIx xs.length xs.length hi=xs.length)/\∀p,H p=none->Q (.ref p) (upd H p (.tup (ka xs lo hi)))
theorem zhx:SlR X (zcD X.K):=by
 intro pins s σ H x v vl vu lo hi sl Q I rx hs pl pu h;obtain⟨a,xs,rfl,hx,hw,q⟩:=h;cases rx;obtain⟨its,r,ht,hz⟩:=I.tuple hx;have hlen:its.toArray.size=xs.length:=by rw[List.size_toArray];exact r.length.symm
 refine⟨"tuple",_,PyProof.Rows.slot_tuple_getitem.lookup,ht.typeIs,?_⟩;refine HT.getItem_tuple_cut ht hs pl pu (by rw[hlen];exact hw) ?_ (by rw[hlen];exact hz);rw[hlen];refine⟨.ref s.heap.objs.size,_,I.laid (t':=s.toks) (o:=.tup (ka xs lo hi)) (λb ob q=>Heap.get?_push_of_some _ q) (Nat.le_refl _) ?_,rfl,q _ (I.hok.fresh (Nat.le_refl _))⟩;exact⟨Nat.le_trans (ZC xs lo hi) hz,_,(r.drop (HT.sIx xs.length 0 lo)).take (HT.sIx xs.length xs.length hi-HT.sIx xs.length 0 lo),IsTup.new _ _⟩
end
noncomputable def ixN(n:Nat)(i:Int):Option Nat:=if 0<=i then(if i<n then some i.toNat else none)else if -(n:Int)<=i then some (i+n).toNat else none
noncomputable def atI{α:Type}(xs:List α)(i:Int):Option α:=(ixN xs.length i).bind λj=>xs[j]?
theorem Ju{i:Int}{j:Nat}(h:ixN n i=some j):seqIndex? i n=some j/\j<n/\-(n:Int)<=i/\i<n:=by
 unfold ixN at h;by_cases h0:0<=i
 .rw[if_pos h0]at h
  by_cases h1:i<n
  .rw[if_pos h1]at h
   have e:i.toNat=j:=Option.some.inj h;exact⟨by rw[seqIndex_of h0 h1,e],by omega,by omega,h1⟩
  .rw[if_neg h1]at h;cases h
 .rw[if_neg h0]at h
  by_cases h1:-(n:Int)<=i
  .rw[if_pos h1]at h
   have e:(i+n).toNat=j:=Option.some.inj h;exact⟨by rw[seqIndex_neg (by omega) h1,e],by omega,h1,by omega⟩
  .rw[if_neg h1]at h;cases h
theorem YZ{α:Type}{xs:List α}{i:Int}{v:α}(h:atI xs i=some v):∃j,seqIndex? i xs.length=some j/\xs[j]? =some v/\j<xs.length/\-(xs.length:Int)<=i/\i<xs.length:=by
 unfold atI at h;cases e:ixN xs.length i with
 |none=>rw[e]at h;cases h
 |some j=>
  rw[e]at h;obtain⟨h1,h2,h3,h4⟩:=Ju e;exact⟨j,h1,h,h2,h3,h4⟩
theorem uM{α:Type}{xs:List α}{j:Nat}{v:α}(h:xs[j]? =some v):atI xs (j:Int)=some v:=by
 have hj:j<xs.length:=(List.getElem?_eq_some_iff.mp h).1;have e:ixN xs.length (j:Int)=some j:=by
  unfold ixN;rw[if_pos (by omega),if_pos (by omega)];simp
 unfold atI;rw[e];exact h
noncomputable def Jv(b:Expr):Prop:=∀o i,subscripted b false o i=operate [o,i] (getItem o i)
noncomputable def IxR(X:Cx)(r:R2):Prop:=
 ∀(value slice:Expr) (pins:List (Addr×Obj)) (s:Shared) (σ:St) (H:Hp) (x y:V) (v u:Value) (Q:VK),Inv X pins σ H s->RelV x v->RelV y u->r x y H Q->
  subscripted slice false v u=operate [v,u] (getItem v u)->wpAny (model X.prog X.w) X.A (subscriptTail value slice v u) (EP X pins σ Q) X.xe s
noncomputable def MtR(X:Cx)(id:String)(r:V->List V->Hp->VK->Prop):Prop:=
 ∀(pins:List (Addr×Obj)) (s:Shared) (σ:St) (H:Hp) (x:V) (xs:List V) (v:Value) (us:List Value) (Q:VK),Inv X pins σ H s->RelV x v->Vals xs us->r x xs H Q->
  wpAny (model X.prog X.w) X.A (call (.builtin id) (v::us)) (EP X pins σ Q) X.xe s
section
variable {a b:Expr}{tb:TE}
theorem zjO{r:R2}(hr:IxR X r)(ha:PE X a ta)(hb:PE X b tb)(hs:Jv b):PE X (.Subscript a b pos) (tOp r ta tb):=by
 intro pins s σ H Q I h;exact Subscript_ (zcu ha hb I h λv u s2 x y H2 I2 rx ry q=>hr a b pins s2 σ H2 x y v u Q I2 rx ry q (hs _ _))
noncomputable def Ke(K:W.Frag):R2:=λx y H Q=>∃p xs i v,x=.ref p/\y=.int i/\SqL K H p xs/\atI xs i=some v/\Q v H
noncomputable def zcE(K:W.Frag):R2:=λx y H Q=>∃p xs i v,x=.ref p/\y=.int i/\SqT K H p xs/\atI xs i=some v/\Q v H
noncomputable def zhy:R2:=λx y H Q=>∃z i c,x=.str z/\y=.int i/\z.length<=sizeLine/\atI z.cps.toList i=some c/\Q (.str ⟨#[c]⟩) H
theorem zfs:IxR X (Ke X.K):=by
 intro value slice pins s σ H x y v u Q I rx ry h hs;obtain⟨p,xs,i,z,rfl,rfl,hq,he,q⟩:=h;cases rx;obtain⟨t,rfl⟩:=ry;obtain⟨its,r,pl,hz⟩:=I.list hq;obtain⟨j,h1,h2,h3,h4,h5⟩:=YZ he;obtain⟨w,ew,rw'⟩:=r.get h2;have hl:=r.length;have hn:=uS;have fin:EP X pins σ Q w s:=⟨z,H,I,rw',q⟩;by_cases h0:0<=i
 .have hj:i.toNat=j:=by
   rw[seqIndex_of h0 h5]at h1;exact Option.some.inj h1
  exact item_listR pl.isList h0 (by omega) (by rw[hj];simpa using ew) fin hs
 .have hj:(i+(its.toArray.size:Int)).toNat=j:=by
   rw[seqIndex_neg (by omega) h4]at h1;rw[List.size_toArray,<-hl];exact Option.some.inj h1
  exact subscriptTail_builtinR (x:=w) pl.isList.typeIs slot_list_getitem.lookup
   (wpAny_getItem_list_neg (Q:=λr s'=>r=w/\EP X pins σ Q r s') pl.isList (by omega) (by rw[List.size_toArray]<;>omega) (by omega) (by rw[hj];simpa using ew) ⟨rfl,fin⟩) hs
theorem zhz:IxR X (zcE X.K):=by
 intro value slice pins s σ H x y v u Q I rx ry h hs;obtain⟨p,xs,i,z,rfl,rfl,hq,he,q⟩:=h;cases rx;obtain⟨t,rfl⟩:=ry;obtain⟨its,r,pl,hz⟩:=I.tuple hq;obtain⟨j,h1,h2,h3,h4,h5⟩:=YZ he;obtain⟨w,ew,rw'⟩:=r.get h2;have hl:=r.length;have hn:=uS;have fin:EP X pins σ Q w s:=⟨z,H,I,rw',q⟩;exact subscriptTail_builtinR (x:=w) pl.typeIs slot_tuple_getitem.lookup
  (getItem_tuple (j:=j) (Q:=λr s'=>r=w/\EP X pins σ Q r s') pl (by omega) (by omega) (by rw[List.size_toArray,<-hl];exact h1) (by simpa using ew) ⟨rfl,fin⟩) hs
theorem VY:IxR X zhy:=by
  intro value slice pins s σ H x y v u Q I rx ry h hs;obtain⟨z,i,c,rfl,rfl,hz,he,q⟩:=h;obtain⟨t,rfl⟩:=rx;obtain⟨t',rfl⟩:=ry;obtain⟨j,h1,h2,h3,h4,h5⟩:=YZ he;have hl:z.cps.toList.length=z.length:=by simp[Str.length]
  rw[hl]at h1 h4 h5;have hn:=uS;exact tail_any (typeIs_str s z t) slot_str_getitem.lookup (getItem_str (c:=c) (by
    have e1:decide (i < -(2 ^ 63:Int))=false:=decide_eq_false (by omega);have e2:decide (i≥2 ^ 63)=false:=decide_eq_false (by omega);rw[e1,e2,Bool.or_false]) (by rw[h1];simpa using h2) ⟨.str ⟨#[c]⟩,H,I.tok _,⟨_,rfl⟩,q⟩) hs
theorem Kf(its:List Value)(n j:Nat)(u:Value):Obj.mapSeq (·.setIfInBounds j u) { cls:=.type "list",data:=.seq its.toArray n } = { cls:=.type "list",data:=.seq (its.set j u).toArray n }:=by
 simp[Obj.mapSeq]
theorem Inv.lst{xs:List V}(I:Inv X pins σ H s)(h:H p=some (.lst xs)) :
  ∃(its:List Value) (n:Nat),Vals xs its/\s.heap.get? p=some { cls:=.type "list",data:=.seq its.toArray n }/\xs.length<=sizeLine:=by
 obtain⟨z,its,n,r,e⟩:=I.hok p _ h;exact⟨its,n,r,e,z⟩
theorem Inv.lstUpd{xs ys:List V}{its its':List Value}{n':Nat}{f:Obj->Obj}(I:Inv X pins σ H s)(h:H p=some (.lst xs))
  (ho:s.heap.get? p=some { cls:=.type "list",data:=.seq its.toArray n })(hf:f { cls:=.type "list",data:=.seq its.toArray n } = { cls:=.type "list",data:=.seq its'.toArray n' })(r:Vals ys its')(hz:ys.length<=sizeLine)(t:Nat) :
  Inv X pins σ (upd H p (.lst ys)) { s with heap:=s.heap.update p f,toks:=t }:=by
 have e:(s.heap.update p f).get? p=some { cls:=.type "list",data:=.seq its'.toArray n' }:=by
  rw[Heap.get?_update_self f ho (by rw[hf]<;>rfl),hf]
 refine I.write (x:=p) (e:=p) (by rw[h];trivial) (.inl rfl) (λb u hb q=>(Heap.get?_update_other _ _ (Ne.symm hb)).trans q) ⟨_,e⟩ ?_;exact⟨hz,its',n',r,e⟩
noncomputable def zeq:V->V->V->Hp->(Hp->Prop)->Prop:=λo i v H Q=>∃p xs k j,o=.ref p/\i=.int k/\H p=some (.lst xs)/\ixN xs.length k=some j/\Q (upd H p (.lst (xs.set j v)))
theorem jq:zhi X zeq:=by
 intro pins s σ H o i v ov iv u Q I ro ri rv h;obtain⟨p,xs,k,j,rfl,rfl,hp,hj,q⟩:=h;cases ro;obtain⟨t,rfl⟩:=ri;obtain⟨its,n,r,ho,hz⟩:=I.lst hp;obtain⟨h1,h2,h3,h4⟩:=Ju hj;have hl:=r.length;have hn:=uS;have I':Inv X pins σ (upd H p (.lst (xs.set j v))) { s with heap:=s.heap.update p (Obj.mapSeq (·.setIfInBounds j u)) }:=
  I.lstUpd hp ho (Kf its n j u) (r.set rv j) (by rw[List.length_set];exact hz) s.toks
 by_cases h0:0<=k
 .have hk:k.toNat=j:=by
   rw[seqIndex_of h0 h4]at h1;exact Option.some.inj h1
  exact PySem.W.ki_setAt ho h0 (by omega) (by rw[List.size_toArray,<-hl];exact h4) (by rw[hk];exact⟨_,I',q⟩)
 .have hk:(k+(its.toArray.size:Int)).toNat=j:=by
   rw[seqIndex_neg (by omega) h3]at h1;rw[List.size_toArray,<-hl];exact Option.some.inj h1
  exact PySem.W.ki_setBack ho (by omega) (by rw[List.size_toArray,<-hl];exact h3) (by omega) (by rw[hk];exact⟨_,I',q⟩)
theorem VZ(lo hi:Option Int)(n:Nat):(sliceBounds lo hi none n).1 =((HT.sIx n 0 lo:Nat):Int)/\(sliceBounds lo hi none n).2.1 =((HT.sIx n n hi:Nat):Int)/\(sliceBounds lo hi none n).2.2=1:=by
 refine⟨?_,?_,rfl⟩
 .cases lo with
  |none=>simp[sliceBounds,HT.sIx]
  |some i=>
   simp only[sliceBounds,HT.sIx,Option.getD_none,show(1:Int)>0 by decide,if_true];by_cases h:i<0
   .simp only[h,if_true]<;>omega
   .simp only[h,if_false]<;>omega
 .cases hi with
  |none=>simp[sliceBounds,HT.sIx]
  |some i=>
   simp only[sliceBounds,HT.sIx,Option.getD_none,show(1:Int)>0 by decide,if_true];by_cases h:i<0
   .simp only[h,if_true]<;>omega
   .simp only[h,if_false]<;>omega
theorem Va(its:List Value)(lo hi:Option Int):slicePick its.toArray lo hi none=((its.drop (HT.sIx its.length 0 lo)).take (HT.sIx its.length its.length hi-HT.sIx its.length 0 lo)).toArray:=by
 obtain⟨h1,h2,h3⟩:=VZ lo hi its.toArray.size;unfold slicePick;rw[h1,h2,h3];simp only[sliceRange_one,pick_run,List.size_toArray]<;>rfl
noncomputable def zcF(K:W.Frag):V->Option Int->Option Int->Hp->VK->Prop:=λx lo hi H Q=>∃a xs,x=.ref a/\SqL K H a xs/\∀p,H p=none->Q (.ref p) (upd H p (.lst (ka xs lo hi)))
theorem zft:SlR X (zcF X.K):=by
 intro pins s σ H x v vl vu lo hi sl Q I rx hs pl pu h;obtain⟨a,xs,rfl,hx,q⟩:=h;cases rx;obtain⟨its,r,ht,hz⟩:=I.list hx;have hlen:=r.length;refine⟨"list",_,slot_list_getitem.lookup,ht.isList.typeIs,?_⟩;refine wpAny_getItem_list_slice ht.isList hs pl pu .none (by simp) ?_ (by rw[List.size_toArray]<;>omega);rw[Va,<-hlen];refine⟨.ref s.heap.objs.size,_,I.laid (t':=s.toks) (o:=.lst (ka xs lo hi)) (λb ob q=>Heap.get?_push_of_some _ q) (Nat.le_refl _) ?_,rfl,q _ (I.hok.fresh (Nat.le_refl _))⟩;exact⟨Nat.le_trans (ZC xs lo hi) hz,_,0,(r.drop (HT.sIx xs.length 0 lo)).take (HT.sIx xs.length xs.length hi-HT.sIx xs.length 0 lo),Heap.get?_push_size _ rfl⟩
noncomputable def uG:V->Bool
 |.non=>true
 |.bl _=>true
 |.int _=>true
 |.str _=>true
 |_=>false
noncomputable def eqV:V->V->Bool
 |.non,.non=>true
 |.bl a,.bl b=>a==b
 |.bl a,.int b=>(if a then 1 else 0)==b
 |.int a,.bl b=>a==(if b then 1 else 0)
 |.int a,.int b=>a==b
 |.str a,.str b=>a==b
 |_,_=>false
theorem zhA{y x:V}{v:Value}(ry:RelV y u)(rx:RelV x v)(fy:uG y=true)(fx:uG x=true):SeqAt.EqAt A s u v (eqV y x):=by
 cases y with
 |non=>
  cases ry;cases x with
  |non=>cases rx;exact SeqAt.EqAt.same _
  |bl b=>cases rx;exact SeqAt.EqAt.none_bool b
  |int b=>obtain⟨t,rfl⟩:=rx;exact SeqAt.EqAt.none_int b t
  |str b=>obtain⟨t,rfl⟩:=rx;exact SeqAt.EqAt.none_str b t
  |_=>exact absurd (show false=true from fx) Bool.false_ne_true
 |bl a=>
  cases ry;cases x with
  |non=>cases rx;exact SeqAt.EqAt.bool_none a
  |bl b=>cases rx;exact SeqAt.EqAt.bool_bool a b
  |int b=>obtain⟨t,rfl⟩:=rx;exact SeqAt.EqAt.bool_int a b t
  |str b=>obtain⟨t,rfl⟩:=rx;exact SeqAt.EqAt.bool_str a b t
  |_=>exact absurd (show false=true from fx) Bool.false_ne_true
 |int a=>
  obtain⟨t',rfl⟩:=ry;cases x with
  |non=>cases rx;exact SeqAt.EqAt.int_none a t'
  |bl b=>cases rx;exact SeqAt.EqAt.int_bool a t' b
  |int b=>obtain⟨t,rfl⟩:=rx;exact SeqAt.EqAt.int_int a t' b t
  |str b=>obtain⟨t,rfl⟩:=rx;exact SeqAt.EqAt.int_str a t' b t
  |_=>exact absurd (show false=true from fx) Bool.false_ne_true
 |str a=>
  obtain⟨t',rfl⟩:=ry;cases x with
  |non=>cases rx;exact SeqAt.EqAt.str_none a t'
  |bl b=>cases rx;exact SeqAt.EqAt.str_bool a t' b
  |int b=>obtain⟨t,rfl⟩:=rx;exact SeqAt.EqAt.str_int a t' b t
  |str b=>obtain⟨t,rfl⟩:=rx;exact SeqAt.EqAt.str_str a t' b t
  |_=>exact absurd (show false=true from fx) Bool.false_ne_true
 |_=>exact absurd (show false=true from fy) Bool.false_ne_true
noncomputable def eqU(x:V)(u:Value):Bool:=match u with
 |.none=>eqV .non x
 |.bool b=>eqV (.bl b) x
 |.int i _=>eqV (.int i) x
 |.str z _=>eqV (.str z) x
 |_=>false
theorem zaL{x y:V}(r:RelV y u)(f:uG y=true):eqU x u=eqV y x:=by
 cases y with
 |non=>cases r;rfl
 |bl b=>cases r;rfl
 |int i=>obtain⟨t,rfl⟩:=r;rfl
 |str z=>obtain⟨t,rfl⟩:=r;rfl
 |_=>exact absurd (show false=true from f) Bool.false_ne_true
theorem Y0{x:V}:∀{xs:List V}{us:List Value},Vals xs us->xs.all uG=true->us.any (eqU x)=xs.any λy=>eqV y x
 |_,_,.nil,_=>rfl
 |y::xs,u::us,.cons r t,f=>by
  rw[List.all_cons,Bool.and_eq_true]at f;rw[List.any_cons,List.any_cons,zaL r f.1,Y0 t f.2]
theorem ZM{x:V}{v:Value}(rx:RelV x v)(fx:uG x=true):∀{xs:List V}{us:List Value},Vals xs us->xs.all uG=true->∀u∈us,SeqAt.EqAt A s u v (eqU x u)
 |_,_,.nil,_=>λu hu=>by cases hu
 |y::xs,u::us,.cons r t,f=>λu' hu=>by
  rw[List.all_cons,Bool.and_eq_true]at f;rcases List.mem_cons.mp hu with rfl|hu
  .rw[zaL r f.1];exact zhA r rx f.1 fx
  .exact ZM rx fx t f.2 u' hu
noncomputable def inV(x:V)(xs:List V):Bool:=xs.any λy=>eqV y x
noncomputable def rIn(K:W.Frag)(neg:Bool):R2:=λx y H Q=>∃p xs,y=.ref p/\(SqL K H p xs\/SqT K H p xs)/\uG x=true/\xs.all uG=true/\Q (.bl (if neg then !inV x xs else inV x xs)) H
theorem zaM:OpR X (compareOp .In) (rIn X.K false):=by
 intro pins s σ H x y v u Q I rx ry h;obtain⟨p,xs,rfl,hq,fx,fs,q⟩:=h;cases ry;rcases hq with hq|hq
 .obtain⟨its,r,pl,hz⟩:=I.list hq
  refine SeqAt.in_listAt (eqU x) pl.isList (λw hw=>ZM rx fx r fs w (by simpa using hw)) ⟨.bl _,H,I,rfl,?_⟩;rw[show its.toArray.any (eqU x)=its.any (eqU x)by simp,Y0 r fs];exact q
 .obtain⟨its,r,pl,hz⟩:=I.tuple hq
  refine SeqAt.in_tupleAt (eqU x) pl (λw hw=>ZM rx fx r fs w (by simpa using hw)) ⟨.bl _,H,I,rfl,?_⟩;rw[show its.toArray.any (eqU x)=its.any (eqU x)by simp,Y0 r fs];exact q
theorem V0:yv X (.builtin "len") (λxs H Q=>∃p ys,xs=[.ref p]/\(SqL X.K H p ys\/SqT X.K H p ys)/\Q (.int ys.length) H):=by
 intro pins s σ H xs us Q I r h;obtain⟨p,ys,rfl,hq,q⟩:=h;obtain⟨u,rfl,rx⟩:=uF r;cases rx;have hn:=uS;rcases hq with hq|hq
 .obtain⟨its,r',pl,hz⟩:=I.list hq
  have hlen:=r'.length;exact Calls.call_len_list pl.isList (by simp only[List.size_toArray]<;>omega) ⟨.int ys.length,H,I.tok _,⟨s.toks+1,by rw[List.size_toArray,hlen]⟩,q⟩
 .obtain⟨its,r',pl,hz⟩:=I.tuple hq
  have hlen:=r'.length;exact len_tuple pl (by simp only[List.size_toArray]<;>omega) ⟨.int ys.length,H,I.tok _,⟨s.toks+1,by rw[List.size_toArray,hlen]⟩,q⟩
theorem V1:yv X (.builtin "len") (λxs H Q=>∃z,xs=[.str z]/\z.length<=sizeLine/\Q (.int z.length) H):=by
 intro pins s σ H xs us Q I r h;obtain⟨z,rfl,hz,q⟩:=h;obtain⟨u,rfl,t,rfl⟩:=uF r;have hn:=uS;exact len_str (by omega) ⟨.int z.length,H,I.tok _,⟨_,rfl⟩,q⟩
theorem V2:yv X (.type "list") (λxs H Q=>∃p ys,xs=[.ref p]/\(SqL X.K H p ys\/SqT X.K H p ys)/\∀l,H l=none->Q (.ref l) (upd H l (.lst ys))):=by
 intro pins s σ H xs us Q I r h;obtain⟨p,ys,rfl,hq,q⟩:=h;obtain⟨u,rfl,rx⟩:=uF r;cases rx;have fin:∀(its:List Value),Vals ys its->ys.length<=sizeLine->∀(h':Heap) (c':Nat),(∀b o',s.heap.get? b=some o'->h'.get? b=some o')->
   h'.get? s.heap.objs.size=some { cls:=.type "list",dict:=none,data:=.seq its.toArray c',slots:=#[] }->EP X pins σ Q (.ref s.heap.objs.size) { s with heap:=h' }:=λits r' hz h' c' kp e=>
  ⟨.ref s.heap.objs.size,_,I.laid (t':=s.toks) kp (Nat.le_refl _) (show ym X.prog X.w _ h' _ (.lst ys)from⟨hz,its,c',r',e⟩),rfl,q _ (I.hok.fresh (Nat.le_refl _))⟩
 rcases hq with hq|hq
 .obtain⟨its,r',pl,hz⟩:=I.list hq
  have hlen:=r'.length;obtain⟨o,ho,hc,n,hd⟩:=pl.isList;exact call_list_seq p (.inl rfl) ho hc hd (λh' c' kp e=>fin its r' hz h' c' kp e) (by simp only[List.size_toArray]<;>omega)
 .obtain⟨its,r',pl,hz⟩:=I.tuple hq
  have hlen:=r'.length;obtain⟨o,ho,hc,n,hd⟩:=pl;exact call_list_seq p (.inr rfl) ho hc hd (λh' c' kp e=>fin its r' hz h' c' kp e) (by simp only[List.size_toArray]<;>omega)
theorem Vb:yv X (.type "tuple") (λxs H Q=>∃p ys,xs=[.ref p]/\((SqL X.K H p ys/\∀l,H l=none->Q (.ref l) (upd H l (.tup ys)))\/(SqT X.K H p ys/\Q (.ref p) H))):=by
 intro pins s σ H xs us Q I r h;obtain⟨p,ys,rfl,h⟩:=h;obtain⟨u,rfl,rx⟩:=uF r;cases rx;rcases h with⟨hq,q⟩|⟨hq,q⟩
 .obtain⟨its,r',pl,hz⟩:=I.list hq
  have hlen:=r'.length;refine call_tuple_list pl.isList (λh' kp=>?_) (by simp only[List.size_toArray]<;>omega);have I1:Inv X pins σ H { s with heap:=h' }:=I.kept (t':=s.toks) kp;have I2:Inv X pins σ (upd H h'.objs.size (.tup ys)) { s with heap:=h'.push { cls:=.type "tuple",data:=.seq its.toArray } }:=
   I1.laid (t':=s.toks) (λb o e=>Heap.get?_push_of_some _ e) (Nat.le_refl _) (show ym X.prog X.w _ _ _ (.tup ys)from⟨hz,its,r',IsTup.new _ _⟩)
  exact⟨.ref h'.objs.size,_,I2,rfl,q _ (I1.hok.fresh (Nat.le_refl _))⟩
 .obtain⟨its,r',pl,hz⟩:=I.tuple hq
  exact call_tuple_same pl ⟨.ref p,H,I,rfl,q⟩
noncomputable def tyV(K:W.Frag)(T:String)(x:V)(H:Hp):Prop:=match x with
 |.str _=>T= "str"
 |.int _=>T= "int"
 |.ref p=>(T= "list"/\∃xs,SqL K H p xs)\/(T= "tuple"/\∃o,K.lookup p=some o/\o.cls=.type "tuple"/\o.dict=none)\/
   (T= "dict"/\((∃kvs,H p=some (.dK kvs))\/∃kvs,H p=some (.dT kvs)))\/(T= "set"/\∃S n,H p=some (.set S n))
 |_=>False
theorem zaN{T:String}{x:V}{v:Value}(I:Inv X pins σ H s)(r:RelV x v)(ty:tyV X.K T x H) :
  s.TypeIs v T/\∀a,v=.ref a->∃ob,s.heap.get? a=some ob/\ob.dict=none:=by
 cases x with
 |str z=>
  obtain⟨t,rfl⟩:=r;cases(show T= "str" from ty);exact⟨typeIs_str s z t,λ_ e=>nomatch e⟩
 |int i=>
  obtain⟨t,rfl⟩:=r;cases(show T= "int" from ty);exact⟨typeIs_int s i t,λ_ e=>nomatch e⟩
 |ref p=>
  cases r;rcases ty with⟨rfl,xs,hq⟩|⟨rfl,o,hk,hc,hd⟩|⟨rfl,hk⟩|⟨rfl,S,n,hk⟩
  .obtain⟨its,_,pl,_⟩:=I.list hq
   refine⟨pl.isList.typeIs,λa e=>?_⟩;cases e;obtain⟨o,n,e,c,hd,_⟩:=pl;exact⟨o,e,hd⟩
  .refine⟨⟨o,I.kIn p o hk,hc⟩,λa e=>?_⟩
   cases e;exact⟨o,I.kIn _ o hk,hd⟩
  .have z:∃o,s.heap.get? p=some o/\o.ExactDict:=by
    rcases hk with⟨kvs,hk⟩|⟨kvs,hk⟩
    .obtain⟨_,_,_,_,o,_,_,e,ex,_⟩:=I.hok p _ hk
     exact⟨o,e,ex⟩
    .obtain⟨_,_,_,_,o,_,_,e,ex,_⟩:=I.hok p _ hk
     exact⟨o,e,ex⟩
   obtain⟨o,e,ex⟩:=z;refine⟨⟨o,e,ex.1⟩,λa e2=>?_⟩;cases e2;exact⟨o,e,ex.2.1⟩
  .obtain⟨o,_,_,_,e,ex,_⟩:=I.hok p _ hk
   refine⟨⟨o,e,ex.1⟩,λa e2=>?_⟩;cases e2;exact⟨o,e,ex.2.1⟩
 |_=>exact False.elim ty
noncomputable def zcG(K:W.Frag)(T:String)(r:V->List V->Hp->VK->Prop)(to:TE):TE:=λσ H Q=>to σ H λx H1=>tyV K T x H1/\r x [] H1 Q
noncomputable def tBM(K:W.Frag)(T:String)(r:V->List V->Hp->VK->Prop)(to:TE)(t:TA):TE:=λσ H Q=>to σ H λx H1=>tyV K T x H1/\t σ H1 λxs H2=>r x xs H2 Q
variable {o:Expr}{to:TE}{name:Str}{apos cpos:Pos}{T id:String}{r:V->List V->Hp->VK->Prop}
theorem zhB(pa:PlainAttrs T)(slot:Slot T name id)(hty:typeOf (.builtin id)=pure (.type "method_descriptor"))(hm:MtR X id r)(ho:PE X o to)
  (hbase:attributeBase o name X.env (eval o X.env)=eval o X.env:=by rfl)(hline:(apos.endLine==cpos.line)=true:=by rfl):PE X (.Call (.Attribute o name apos) [] [] cpos) (zcG X.K T r to):=by
 intro pins s σ H Q I h;refine wpAny_Call_method0_late hbase hline (thn (ho pins s σ H _ I h) λv s1 ⟨x,H1,I1,r1,ty,q1⟩=>?_);obtain⟨h1,h2⟩:=zaN I1 r1 ty;exact⟨T,id,pa,slot,hty,h1,h2,Calls.callWith_builtin rfl (PySem.evalArgs_none (hm pins s1 σ H1 x [] v [] Q I1 r1 .nil q1))⟩
theorem zjP(pa:PlainAttrs T)(slot:Slot T name id)(hty:typeOf (.builtin id)=pure (.type "method_descriptor"))(hm:MtR X id r)(ho:PE X o to)(ha:PA X (e::es) t)
    (hbase:attributeBase o name X.env (eval o X.env)=eval o X.env:=by rfl)
    (hfew:((backTo cpos (starEach (e :: es) X.env)).all (fun x=>!x.1) && (backToKw cpos (keywordEach [] X.env)).all (fun x=>x.1.isSome)
      && decide ((e::es).length+([]:List Keyword).length+(if([]:List Keyword).isEmpty then 0 else 1)<30))=true:=by rfl)
    (hline:(apos.endLine==cpos.line)=true:=by rfl)(hs:starEach (e::es) X.env=(false,eval e X.env)::starEach es X.env:=by rfl)(hplain:(backTo cpos (starEach es X.env)).any (·.1)=false:=by rfl) :
    PE X (.Call (.Attribute o name apos) (e::es) [] cpos) (tBM X.K T r to t):=by
  intro pins s σ H Q I h;refine wpAny_Call_method_late hbase hfew hline rfl (thn (ho pins s σ H _ I h) λv s1 ⟨x,H1,I1,r1,ty,q1⟩=>?_);obtain⟨h1,h2⟩:=zaN I1 r1 ty;refine⟨T,id,pa,slot,hty,h1,h2,?_⟩;have hA:=ha cpos pins s1 σ H1 _ I1 q1;rw[hs]at hA ⊢;refine Calls.callWith_builtin (by show(false||(backTo cpos (starEach es X.env)).any (·.1))=false;rw[hplain]<;>rfl) (Calls.evalArgs_plain ?_);exact thn hA λus s2 ⟨vs,H2,I2,r2,q2⟩=>hm pins s2 σ H2 x vs v us Q I2 r1 r2 q2
end
noncomputable def MtM(X:Cx)(id:String)(r:V->List V->Hp->VK->Prop):Prop:=
 ∀(pins:List (Addr×Obj)) (s:Shared) (σ:St) (H:Hp) (x:V) (xs:List V) (v:Value) (us:List Value) (Q:VK),Inv X pins σ H s->RelV x v->Vals xs us->r x xs H Q->
  wpAny (model X.prog X.w) X.A (call (.builtin id) (v::us)) (EP X pins σ Q) X.xe s
theorem Vals.one:∀{x:V}{us:List Value},Vals [x] us->∃u,us=[u]/\RelV x u
 |_,_,.cons r .nil=>⟨_,rfl,r⟩
theorem Vals.two:∀{x y:V}{us:List Value},Vals [x,y] us->∃u v,us=[u,v]/\RelV x u/\RelV y v
 |_,_,_,.cons r (.cons q .nil)=>⟨_,_,rfl,r,q⟩
theorem Vals.zero:∀{us:List Value},Vals [] us->us=[]
 |_,.nil=>rfl
theorem Vals.dropLast{xs:List V}(h:Vals xs us):Vals xs.dropLast us.dropLast:=by
 induction h with
 |nil=>exact .nil
 |cons r t ih=>
  cases t with
  |nil=>exact .nil
  |cons q t'=>exact .cons r ih
theorem Vals.eraseIdx:∀{xs:List V}{us:List Value}(i:Nat),Vals xs us->Vals (xs.eraseIdx i) (us.eraseIdx i)
 |_,_,_,.nil=>.nil
 |_,_,0,.cons _ t=>t
 |_,_,i+1,.cons r t=>.cons r (Vals.eraseIdx i t)
theorem Kg{α:Type}(l:List α):l.eraseIdx (l.length-1)=l.dropLast:=by
 induction l with
 |nil=>rfl
 |cons a r ih=>
  cases r with
  |nil=>rfl
  |cons b r=>
   have e:(a::b::r).length-1 =((b::r).length-1)+1:=by
    have h1:(a::b::r).length=r.length+2:=rfl;have h2:(b::r).length=r.length+1:=rfl;omega
   rw[e,List.eraseIdx_cons_succ,ih]
   all_goals rfl
theorem XN{α:Type}:∀(l:List α) (i:Nat),(l.eraseIdx i).length<=l.length
 |[],_=>Nat.le_refl _
 |_::_,0=>Nat.le_succ _
 |_::r,i+1=>Nat.succ_le_succ (XN r i)
section
variable {l:Addr}{xs ys zs:List V}
theorem Inv.lset{its its':List Value}{f:Array Value->Array Value}{t':Nat}(I:Inv X pins σ H s)(hH:H l=some (.lst xs))
  (e:s.heap.get? l=some { cls:=.type "list",data:=.seq its.toArray n })(hf:f its.toArray=its'.toArray)(hv:Vals ys its')(hz:ys.length<=sizeLine) :
  Inv X pins σ (upd H l (.lst ys)) { s with heap:=s.heap.update l (Obj.mapSeq f),toks:=t' }:=by
 have q:=PySem.IsL.update e f;rw[hf]at q;refine I.write (x:=l) (e:=l) (by rw[hH];exact trivial) (.inl rfl) (λb' u hb hu=>(Heap.get?_update_other s.heap (Obj.mapSeq f) (Ne.symm hb)).trans hu) ⟨_,q⟩ ?_;exact⟨hz,its',_,hv,q⟩
theorem Inv.lnew{its:List Value}{t':Nat}(I:Inv X pins σ H s)(hv:Vals ys its)(hz:ys.length<=sizeLine) :
  Inv X pins σ (upd H s.heap.objs.size (.lst ys)) { s with heap:=s.heap.push { cls:=.type "list",data:=.seq its.toArray },toks:=t' }:=
 I.laid (λ_ _ q=>Heap.get?_push_of_some _ q) (Nat.le_refl _) ⟨hz,its,0,hv,Heap.get?_push_size _ rfl⟩
theorem Inv.fresh(I:Inv X pins σ H s):H s.heap.objs.size=none:=I.hok.fresh (Nat.le_refl _)
theorem Inv.lstM(I:Inv X pins σ H s)(hH:H l=some (.lst xs)):xs.length<=sizeLine/\∃(its:List Value) (n:Nat),Vals xs its/\xs.length=its.length/\s.heap.get? l=some { cls:=.type "list",data:=.seq its.toArray n }:=by
 obtain⟨z,its,n,r,e⟩:=I.hok l _ hH;exact⟨z,its,n,r,r.length,e⟩
theorem zcH(h:n<=sizeLine):Builtin.List.listTooLong n=false:=by
 unfold Builtin.List.listTooLong;exact decide_eq_false (by omega)
end
noncomputable def Zi:V->List V->Hp->VK->Prop:=λx vs H Q=>∃l xs y,x=.ref l/\vs=[y]/\H l=some (.lst xs)/\xs.length<sizeLine/\Q .non (upd H l (.lst (xs++[y])))
theorem xq:MtM X "list.append" Zi:=by
 intro pins s σ H x vs v us Q I rx rv h;obtain⟨l,xs,y,rfl,rfl,hH,hz,q⟩:=h;cases rx;obtain⟨u,rfl,ru⟩:=rv.one;obtain⟨z,its,n,r,hl,e⟩:=I.lstM hH;refine call_meets F.slot_list_append ⟨_,e,rfl⟩ F.entry_list_append (F.args_list_append_2 _ _) (PySem.list_append l its.toArray n u (by rw[List.size_toArray];omega)) ⟨e,?_⟩;refine⟨.non,_,I.lset (its':=its++[u]) hH e (by simp) (r.append (.cons ru .nil)) ?_,rfl,q⟩;rw[List.length_append,List.length_singleton];omega
noncomputable def Jw:V->List V->Hp->VK->Prop:=λx vs H Q=>∃l b xs zs,x=.ref l/\vs=[.ref b]/\H l=some (.lst xs)/\H b=some (.lst zs)/\xs.length+zs.length<=sizeLine/\Q .non (upd H l (.lst (xs++zs)))
theorem zaO:MtM X "list.extend" Jw:=by
 intro pins s σ H x vs v us Q I rx rv h;obtain⟨l,b,xs,zs,rfl,rfl,hH,hB,hz,q⟩:=h;cases rx;obtain⟨u,rfl,ru⟩:=rv.one;cases ru;obtain⟨z,its,n,r,hl,e⟩:=I.lstM hH;obtain⟨z2,its2,n2,r2,hl2,e2⟩:=I.lstM hB;have hsz:its.toArray.size+its2.toArray.size<=sizeLine:=by rw[List.size_toArray,List.size_toArray];omega
 have hlong:¬(!its.toArray.isEmpty&&Builtin.List.listTooLong (its.toArray.size+its2.toArray.size))=true:=by
  rw[zcH hsz,Bool.and_false];exact Bool.false_ne_true
 refine call_meets F.slot_list_extend ⟨_,e,rfl⟩ F.entry_list_extend (F.args_list_extend_2 _ _)
  (AutoSeq1.list_extend_list_list_0 l its.toArray n b its2.toArray n2 hlong (by rw[List.size_toArray];omega) (by omega)) ⟨e,e2,?_⟩
 refine⟨.non,_,I.lset (its':=its++its2) hH e (by simp) (r.append r2) ?_,rfl,q⟩;rw[List.length_append];omega
noncomputable def zhC:V->List V->Hp->VK->Prop:=λx vs H Q=>∃l xs y,x=.ref l/\vs=[]/\H l=some (.lst xs)/\xs[xs.length-1]? =some y/\Q y (upd H l (.lst xs.dropLast))
theorem zhD:MtM X "list.pop" zhC:=by
 intro pins s σ H x vs v us Q I rx rv h;obtain⟨l,xs,y,rfl,rfl,hH,hy,q⟩:=h;cases rx;have hus:=rv.zero;subst hus;obtain⟨z,its,n,r,hl,e⟩:=I.lstM hH;obtain⟨u,hu,ru⟩:=r.get hy;have hy':its.toArray[its.toArray.size-1]? =some u:=by
  show its.toArray[its.length-1]? =some u;rw[<-Array.getElem?_toList,<-hl];exact hu
 refine call_meets F.slot_list_pop ⟨_,e,rfl⟩ F.entry_list_pop (F.args_list_pop_1 _) (MeetsSeq.list_pop_last l its.toArray n u hy' (by rw[List.size_toArray];omega)) ⟨e,?_⟩;refine⟨y,_,I.lset (its':=its.dropLast) hH e ?_ r.dropLast ?_,ru,q⟩
 .show its.toArray.eraseIdxIfInBounds (its.toArray.size-1)=its.dropLast.toArray
  rw[List.size_toArray,List.eraseIdxIfInBounds_toArray,Kg]
 .rw[List.length_dropLast]
  omega
noncomputable def zaP:V->List V->Hp->VK->Prop:=λx vs H Q=>∃l xs i k y,x=.ref l/\vs=[.int i]/\H l=some (.lst xs)/\-(2 ^ 63)<=i/\i<2 ^ 63/\seqIndex? i xs.length=some k/\xs[k]? =some y/\Q y (upd H l (.lst (xs.eraseIdx k)))
theorem zcI:MtM X "list.pop" zaP:=by
 intro pins s σ H x vs v us Q I rx rv h;obtain⟨l,xs,i,k,y,rfl,rfl,hH,h1,h2,hk,hy,q⟩:=h;cases rx;obtain⟨u,rfl,ru⟩:=rv.one;obtain⟨t,rfl⟩:=ru;obtain⟨z,its,n,r,hl,e⟩:=I.lstM hH;obtain⟨w,hw,rw'⟩:=r.get hy;refine call_meets F.slot_list_pop ⟨_,e,rfl⟩ F.entry_list_pop (F.args_list_pop_2 _ _)
  (MeetsSeq.list_pop_at l its.toArray n i t k w (fitsIndex_both h1 h2) (by rw[List.size_toArray,<-hl];exact hk) (by rw[<-Array.getElem?_toList];exact hw) (by rw[List.size_toArray];omega)) ⟨e,?_⟩
 refine⟨y,_,I.lset (its':=its.eraseIdx k) hH e ?_ (r.eraseIdx k) ?_,rw',q⟩
 .show its.toArray.eraseIdxIfInBounds k=(its.eraseIdx k).toArray
  rw[List.eraseIdxIfInBounds_toArray]
 .have:=XN xs k
  omega
section
variable {w:World}
end
end L2
namespace Att
open PySem PySem.W PySem.Calls PyProof.Rows
theorem Ye{P:Params}:∀(ns:List Int) (vs:List Value),WellAll P h vs (ns.map WData.int)->IntsAre vs ns:=by
 intro ns
 induction ns with
 |nil=>
  intro vs w;rw[List.map_nil]at w;cases w;exact .nil
 |cons n ns ih=>
  intro vs w;rw[List.map_cons]at w;cases w with
  |cons a b=>
   cases a;exact .cons _ _ (ih _ b)
theorem zaQ{l:OpenLaw}(hn:l.most=some n){P:Params}{args:List WData}{vals:List Value}
  (hpre:l.row.toRowW.claim.pre args=true)(hwl:WellAll P h vals args) :
  ∃a vs ns,vals=[Value.ref a]/\args=[WData.list (ns.map WData.int)]/\h.get? a=some { cls:=.type "list",data:=.seq vs.toArray }/\IntsAre vs ns/\ns.length<=n:=by
 have hsh:WShape.hasAll [] args [.list .int]=true:=(pre_splitW hpre).1;have hc:l.pre.holds [] { args:=args } =true:=(pre_splitW hpre).2;obtain⟨d,r,rfl,h1,h2⟩:=hasAllW_cons hsh;obtain rfl:=hasAllW_nil h2;obtain⟨xs,rfl,h3⟩:=hasW_list h1;obtain⟨ns,rfl⟩:=items_int h3;have hlen:ns.length<=n:=by
  unfold OpenLaw.pre at hc;have h4:(WTm.not (.lt (.lit (.int (n:Int))) (.len (.arg 0)))).holds [] { args:=[.list (ns.map .int)] } =true:=by
   have h4:=(holds_andW hc).1;rw[hn]at h4;exact h4
  have h5:=condW_of h4 (w_not (w_lt w_lit (w_len_list (w_arg rfl))));rw[List.length_map]at h5;refine Nat.le_of_not_lt λq=>?_;have q':(n:Int)<((ns.length:Nat):Int):=by omega
  first
   |(rw[decide_eq_true q']at h5;exact absurd h5 (by decide))
   |(simp at h5;omega)
 cases hwl with
 |cons w1 w2=>
  cases w2;cases w1 with
  |list ho hall=>exact⟨_,_,ns,rfl,rfl,ho,Ye ns _ hall,hlen⟩
theorem zaR(l:OpenLaw)(args:List WData):l.row.toRowW.claim.post args (.bool true) args=true:=
 postW_of (r:=l.row.toRowW) (X:=(true==true))
  (show WShape.has [] (.bool true) .bool=true by first|rfl|decide|simp[WShape.has,WShape.arms,WShape.armsAll])
  (show(WTm.eq .res (.lit (.bool true))).value [] { args:=args,res:=some (.bool true),after:=args } =some (.bool (true==true))from w_eq_bool (w_res rfl) w_lit) rfl
section
variable {w:World}{K:Frag}
noncomputable def zld(h:Heap)(L d:Addr):List (Addr×Obj):=(List.range h.objs.size).filterMap λa=>if a=L\/a=d then none else(h.get? a).map λo=>(a,o)
end
end Att
namespace L2
open PySem PySem.Spec PyProof.Rows
theorem kb:∀{vs:List Value}{ns:List Int},IntsAre vs ns->Vals (ns.map V.int) vs
 |_,_,.nil=>.nil
 |_,_,.cons n t h=>.cons ⟨t,rfl⟩ (kb h)
noncomputable def zhE(H:Hp):Prop:=∀b,H b=none\/∃o xs,H b=some (.frz o (.lst xs))
theorem zcJ{w:World}{mb:Str->Option Value}{CX:CXT}{k:Nat}{fa:Addr}{sp:Sp}{s₁:Shared}{vs:List Value}{ns:List Int}
    (KX:K.In s₁.heap)(hns:s₁.heap.Ns mainGlobals mg)(hb:s₁.heap.Ns builtinsNs mb)(hbb:∀x:Str,x≠"__name__"->mb x=bootBuiltins x)(hlim:s₁.heap.NoLimit)(hg:s₁.gens= #[])
    (ha:s₁.heap.get? a=some { cls:=.type "list",data:=.seq vs.toArray })(hi:IntsAre vs ns)(hl:ns.length<=sizeLine)(hr:Room k callerA)
    (F:∀base:Heap,K.In base->base.Ns mainGlobals mg->FnOk P w K mg base CX k fa fd [x] sp)(hbind:∀(s:Shared) (u:Value),BindsTo s fd ⟨[u],[]⟩ [(x,u)])
    (hsp:∀H:Hp,zhE H->SqL K H a (ns.map V.int)->sp [.ref a] H (λv _=>v=.bl true) λ_ _ _=>False)
    (hCX:∀H e s',CX [] H s₁ (λ_ _ _=>False) e s'->False) :
    codeAny (model P w) callerA (.call (.ref fa) ⟨[.ref a],[]⟩) (λr s'=>r=.ok (.ret (.bool true))/\OldK s₁.heap s'.heap/\s'.os=s₁.os/\AllBare s'.gens) s₁:=by
  have rv:=kb hi;have lenV:=hi.length;have core:∀H:Hp,zhE H->SqL K H a (ns.map V.int)->HOk P w H s₁.heap->(∀b,H b≠none->b=a)->(H a≠none->K.lookup a=none)->
      codeAny (model P w) callerA (.call (.ref fa) ⟨[.ref a],[]⟩) (λr s'=>r=.ok (.ret (.bool true))/\OldK s₁.heap s'.heap/\s'.os=s₁.os/\AllBare s'.gens) s₁:=by
    intro H hO hS hok hA hK;have base_of:∀{b:Addr}{o:Obj},s₁.heap.get? b=some o->H b=none->(jp s₁.heap H).get? b=some o:=λe n=>zcp e n;have noA:∀{b:Addr}{o:Obj}{es:Array DictEntry}{ep:Nat},s₁.heap.get? b=some o->o.data=.dict es ep->H b=none:=λ{b o es ep} e d=>by
      cases q:H b with
      |none=>rfl
      |some u=>
        have e':b=a:=hA b (by rw[q];simp);subst e';rw[ha]at e;cases e;have d':Data.seq vs.toArray _=Data.dict es ep:=d;cases d'
    have nsK:∀{b:Addr}{m:Str->Option Value},s₁.heap.Ns b m->(jp s₁.heap H).Ns b m:=λ{b m} ⟨o,es,ep,e,d,r⟩=>⟨o,es,ep,base_of e (noA e d),d,r⟩;have hKb:K.In (jp s₁.heap H):=fun b o e=>base_of (KX b o e) (by
      cases q:H b with
      |none=>rfl
      |some u=>
        have e':b=a:=hA b (by rw[q];simp);subst e';rw[hK (by rw[q];simp)]at e;cases e)
    have hM:Mod K mg (jp s₁.heap H):=⟨hKb,nsK hns,⟨mb,nsK hb,hbb⟩,let⟨mc,h1,h2⟩:=hlim;⟨mc,nsK h1,h2⟩⟩;have e0:Env0 P w K mg (jp s₁.heap H) callerA [] s₁ H:=⟨rfl,hM,λb o e=>zfh e,Nat.le_of_eq (zaw _ _),trivial,λb hb=>absurd (show b∈([]:List Addr)from hb) (by simp),hok,.of_eq hg⟩;refine codeAny_mono ((F _ hKb (nsK hns)).run callerA [] s₁ H ⟨[.ref a],[]⟩ [.ref a] [.ref a] _ _ hr e0 (hbind s₁ (.ref a)) (.cons rfl .nil) (hsp H hO hS)) λr s' h=>?_;cases r with
    |error e=>exact(hCX H e s' h).elim
    |ok fl=>
      cases fl with
      |next=>exact False.elim h
      |brk=>exact False.elim h
      |cont=>exact False.elim h
      |ret u=>
        obtain⟨v,H',os,bare,un,hok',r',q⟩:=h;have q':v=.bl true:=q;subst q';obtain rfl:u=Value.bool true:=r';refine⟨rfl,OldK.of_keep λb o e=>?_,os,bare⟩;cases q:H b with
        |none=>exact un.keep b o e q (by intro z;exact absurd (show b∈([]:List Addr)from z) (by simp)) (by simp)
        |some u=>
          rcases hO b with z|⟨ob,xs,z⟩
          · rw[q]at z;cases z
          · have z2:=un.frzs b ob _ z
            obtain⟨e1,_⟩:=hok b _ z;obtain⟨e2,_⟩:=hok' b _ z2;rw[e]at e1;cases e1;exact e2
  cases hk:K.lookup a with
  |some o=>
    have e:=KX a o hk;rw[ha]at e;cases e;refine core (λ_=>none) (λ_=>.inl rfl) (.inr ⟨_,vs.toArray,_,hk,rfl,rfl,rfl,by rw[List.size_toArray,lenV];exact hl,by simpa using rv⟩) (λb u z=>by have z':(none:Option HO)=some u:=z;cases z') (λb z=>absurd rfl z) λz=>absurd rfl z
  |none=>
    refine core (λb=>if b=a then some (.frz { cls:=.type "list",data:=.seq vs.toArray } (.lst (ns.map V.int)))else none) (λb=>?_) (.inl (.inr ⟨{ cls:=.type "list",data:=.seq vs.toArray },if_pos rfl⟩)) (λb u z=>?_) (λb z=>?_) λ_=>hk
    · by_cases hb:b=a
      · exact .inr ⟨_,_,if_pos hb⟩
      · exact .inl (if_neg hb)
    · by_cases hb:b=a
      · have z':=(if_pos hb).symm.trans z
        cases z';subst hb;exact⟨ha,by rw[List.length_map];exact hl,vs,_,rv,ha⟩
      · have z':=(if_neg hb).symm.trans z
        cases z'
    · by_cases hb:b=a
      · exact hb
      · exact absurd (if_neg hb) z
noncomputable def yx(s:Stmt)(j:Nat):Stmt:=match s with
 |.ClassDef _ _ _ body _ _ _ _ _ _ _=>body.getD j (.Pass ⟨0,0,0,0⟩)
 |_=>.Pass ⟨0,0,0,0⟩
noncomputable def defArgs(s:Stmt):Arguments:=match s with
 |.FunctionDef _ a _ _ _ _ _ _ _ _=>a
 |_=>{ posonlyargs:=[],args:=[],vararg:=none,kwonlyargs:=[],kw_defaults:=[],kwarg:=none,defaults:=[] }
noncomputable def defBody(s:Stmt):List Stmt:=match s with
 |.FunctionDef _ _ b _ _ _ _ _ _ _=>b
 |_=>[]
noncomputable def defScope(s:Stmt):Scope:=match s with
 |.FunctionDef _ _ _ _ _ _ sc _ _ _=>sc
 |_=>{ kind:=.function,names:=[],isGenerator:=false,isCoroutine:=false }
noncomputable abbrev CX0:CXT:=λ_ _ _ _ _ _=>False
noncomputable abbrev E0:XK:=λ_ _ _=>False
theorem Yf:ub CX0 X E0:=λ_ _ _ _ _ _ _ h=>h.elim
structure Fun (K:W.Frag) (x qual:Str) (st:Stmt) (f:Addr) (fd:FuncData):Prop where
 ex:∃(oc:Value) (od:Option Addr) (kV doc pm:Value) (an:Option Addr) (cdv ct:Value) (osl:Array (Option Value)),
  fd=W.fnOf x qual (defArgs st) (defBody st) (defScope st) .none kV doc pm an cdv ct/\K.lookup f=some ⟨oc,od,.func fd,osl⟩/\W.codeIn K cdv qual=true
 kp:W.keepIn K (.ref f)=true
section
variable {w:World}
theorem Fun.ok{qual:Str}{ps:List Str}{k:Nat}{sp:Sp}(F:Fun K x qual st f fd)(S:FnScope N ps (defScope st))(len:∀vs H Q E,sp vs H Q E->vs.length=ps.length)
    (hbody:∀ (cdv:Value) (A:Around) (outer:List Env) (s:Shared) (H:Hp) (vs:List V) (Q:VK) (E:XK),Room k (A.deeper (envOfC qual (defScope st) s.heap.objs.size f cdv))->sp vs H Q E->
      ∃t,PSs (vH CX0 P w K mg base N qual (defScope st) f cdv A outer s H E).nox (defBody st) t/\t { nx:=λ_ H'=>Q .non H',rt:=Q } (start N vs) H):FnOk P w K mg base CX0 (k+1) f fd ps sp:=by
  obtain⟨oc,od,kV,doc,pm,an,cdv,ct,osl,rfl,lk,hcd⟩:=F.ex;refine zeo lk hcd S len λA outer s H vs Q E hr hsp=>?_;obtain⟨t,h,q⟩:=hbody cdv A outer s H vs Q E hr hsp;exact⟨t,h.nox,q⟩
theorem Fun.binds{qual:Str}{ps:List Str}(F:Fun K x qual st f fd)
  (h:∀(kV doc pm:Value) (an:Option Addr) (cdv ct:Value) (us:List Value),us.length=ps.length->bindArgs (W.fnOf x qual (defArgs st) (defBody st) (defScope st) .none kV doc pm an cdv ct) ⟨us,[]⟩=pure (ps.zip us)):Binds K fd ps []:=by
 obtain⟨oc,od,kV,doc,pm,an,cdv,ct,osl,rfl,lk,hcd⟩:=F.ex;exact .all (h kV doc pm an cdv ct)
theorem V3{qual:Str}{oc:Value}{od an:Option Addr}{osl:Array (Option Value)}{kV doc pm cdv ct:Value}(l:K.lookup f=some ⟨oc,od,.func (W.fnOf x qual (defArgs st) (defBody st) (defScope st) .none kV doc pm an cdv ct),osl⟩)
  (c:W.codeIn K cdv qual=true)(k:W.keepIn K (.ref f)=true):Fun K x qual st f (W.fnOf x qual (defArgs st) (defBody st) (defScope st) .none kV doc pm an cdv ct):=⟨⟨oc,od,kV,doc,pm,an,cdv,ct,osl,rfl,l,c⟩,k⟩
end
theorem zer{k:Nat}(hr:Room k A):A.units+1<cLine:=Nat.lt_of_le_of_lt (Nat.add_le_add_left (by decide:1<=64) _) hr.units
theorem xH(h:n<=1000):n<sizeLine:=Nat.lt_of_le_of_lt h (by decide)
theorem pv(i:Nat)(hN:X.N[i]? =some x:=by rfl)(hv:Vis X.env.scope x:=by first|exact Or.inl rfl|exact Or.inr (Or.inl rfl)|exact Or.inr (Or.inr rfl))(hd:(x==("__debug__":Str))=false:=by decide)
  (hcd:(x==("__classdict__":Str))=false:=by decide):PE X (.Name x pos) (JY i):=zha hN hv hd hcd
noncomputable def Same(H H':Hp):Prop:=∀b o,H b=some o->H' b=some o
theorem Same.refl(H:Hp):Same H H:=λ_ _ h=>h
theorem Same.trans{H1 H2:Hp}(a:Same H H1)(b:Same H1 H2):Same H H2:=λc o h=>b c o (a c o h)
theorem Same.free{H':Hp}(e:Same H H'){l:Addr}(h:H' l=Option.none):H l=Option.none:=by
 cases q:H l with
 |none=>rfl
 |some o=>
  rw[e l o q]at h;cases h
theorem Same.seq{H':Hp}{xs:List V}(e:Same H H')(h:SqL K H a xs):SqL K H' a xs:=by
 rcases h with(h|⟨o,h⟩)|h
 .exact .inl (.inl (e _ _ h))
 .exact .inl (.inr ⟨o,e _ _ h⟩)
 .exact .inr h
theorem zfu{w:World}{R:Result->Shared->Prop}{elt iter:Expr}{ifs:List Expr}{scope:Scope}{it acc:Value}{env:Env}(J:Nat->Shared->Prop)
    (turn:∀ k s0,J k s0->wpAny (model prog w) A (pyNext it) (fun r s1=>match r with
      |none=>R (.ok .next) s1
      |some v=>wpAny (model prog w) A (letOwnedTupleGo tg it v) (fun _ s2=>wpAny (model prog w) A (assign tg env v) (fun _ s3=>
          wpAny (model prog w) A (forIn ifs true fun c r=>if r=true then do let ok <- isTrue c env (eval c env);pure (ForInStep.yield ok) else pure (ForInStep.yield r)) (fun ok s4=>
            if ok=true then wpAny (model prog w) A (eval elt env) (λx s5=>wpAny (model prog w) A (call (.builtin "list.append") [acc,x]) (λ_ s6=>∃j,j<k/\J j s6) (λ_ _=>False) s5) (λ_ _=>False) s4
            else ∃j,j<k/\J j s4) (λ_ _=>False) s3) (λ_ _=>False) s2) (λ_ _=>False) s1) (λ_ _=>False) s0)
    (k:Nat)(h:J k s):codeAny (model prog w) A (.compLoop (.ListComp elt [⟨tg,iter,ifs,0⟩] scope pos) 0 it acc env) R s:=by
  refine codeAny_loop rfl J (λk0 s0 hJ=>?_) k h;show wpAny _ A ((compTurn (.ListComp elt [⟨tg,iter,ifs,0⟩] scope pos) 0 it acc env).onRaise (λx=>do noteFrame x env;theTreesLotGoes x)) _ _ s0;refine wpAny_noted ?_;rw[compTurn_list];refine wpAny_bind (wpAny_standAt (wpAny_bind (wpAny_mono (turn k0 s0 hJ) (λr s1 h1=>?_) λ_ _ f=>f.elim)));cases r with
  |none=>exact wpAny_pure h1
  |some v=>
    refine wpAny_bind (wpAny_mono h1 (λ_ s2 h2=>wpAny_bind (wpAny_mono h2 (λ_ s3 h3=>wpAny_bind (wpAny_mono h3 (λok s4 h4=>?_) λ_ _ f=>f.elim)) λ_ _ f=>f.elim)) λ_ _ f=>f.elim);cases ok with
    |false=>exact wpAny_pure ⟨rfl,h4⟩
    |true=>exact wpAny_bind (wpAny_bind (wpAny_mono h4 (λx s5 h5=>wpAny_bind (wpAny_mono h5 (λ_ s6 h6=>wpAny_pure (wpAny_pure ⟨rfl,h6⟩)) λ_ _ f=>f.elim)) λ_ _ f=>f.elim))
noncomputable def PTs(X:Cx)(ifs:List Expr)(t:TT):Prop:=
 ∀(pins:List (Addr×Obj)) (s:Shared) (σ:St) (H:Hp) (Q:Bool->Hp->Prop),Inv X pins σ H s->t σ H Q->
  wpAny (model X.prog X.w) X.A (forIn ifs true λc r=>if r=true then do let ok<-isTrue c X.env (eval c X.env);pure (ForInStep.yield ok)else pure (ForInStep.yield r)) (TP X pins σ Q) X.xe s
noncomputable def zhF:TT:=λ_ H Q=>Q true H
theorem yN:PTs X [] zhF:=λ_ _ _ H _ I h=>wpAny_tests_nil ⟨H,I,h⟩
theorem Y1{c:Expr}{t:TT}(h:PT X c t):PTs X [c] t:=λpins s σ H Q I hw=>wpAny_tests_one (h pins s σ H Q I hw)
noncomputable def yt(X:Cx)(N:List Str)(scope:Scope)(cl:List (Str×Addr))(C:Addr)(s:Shared)(H:Hp)(fp:List Addr):Cx where
 prog:=X.prog
 w:=X.w
 K:=X.K
 mg:=X.mg
 base:=X.base
 A:=X.A
 N:=N
 s₀:=s
 H₀:=H
 env:=compEnvC scope cl C X.env
 outer:=X.stack
 stack:=X.stack
 ex:=fp
 fn:=λ_=>false
 calm:=X.calm
 pn:=[]
 xe:=λ_ _=>False
noncomputable def jr(n:Nat)(js:List Nat)(σ:St):St:=List.replicate n none++js.map λj=>(σ[j]?).join
structure LcOk (X:Cx) (N:List Str) (n:Nat) (js:List Nat) (scope:Scope) (cl:List (Str×Addr)):Prop where
 clos:closureFor scope X.env=pure cl
 nocell:∀y∈scope.names,y.2≠.cell
 kind:scope.kind=.function
 names:∀y∈scope.names,y.2=.local->scope.names.lookup y.1=some .local
 cells:∀x c,cl.lookup x=some c->X.env.cells.lookup x=some c
 has:∀x,((relabel scope X.env).names.lookup x=some .cell\/(relabel scope X.env).names.lookup x=some .free)->∃c,cl.lookup x=some c
 len:n+js.length=N.length
 free:∀(i:Nat) (x:Str),N[n+i]? =some x->∃j c,js[i]? =some j/\X.N[j]? =some x/\(X.env.scope.names.lookup x=some .cell\/X.env.scope.names.lookup x=some .free)/\
  ((relabel scope X.env).names.lookup x=some .cell\/(relabel scope X.env).names.lookup x=some .free)/\cl.lookup x=some c
section
variable {js:List Nat}{scope:Scope}{cl:List (Str×Addr)}
theorem LcOk.ok(L:LcOk X N n js scope cl)(I:Inv X pins σ H s){fp:List Addr}(hf:∀b∈fp,FpOk X pins H b)(hlt:∀b∈fp,b<s.heap.objs.size)(hC:s.heap.objs.size<=C):(yt X N scope cl C s H fp).Ok where
 mod:=I.ok.mod
 kind:=L.kind
 glob:=I.ok.glob
 blt:=I.ok.blt
 above:=hC
 inj:=λx y c h1 h2=>I.ok.inj x y c (L.cells x c h1) (L.cells y c h2)
 has:=λx hx=>L.has x hx
 cab:=λx c hx _=>by cases hx
 hd:=I.ok.hd
 frames:=I.ok.frames
 stk:=.inl rfl
 exf:=λb hb=>⟨Nat.ne_of_lt (Nat.lt_of_lt_of_le (hlt b hb) hC),λx c e=>(hf b hb).2.2.2.2.1 x c (L.cells x c e)⟩
 bs:=I.bs
 bsz:=Nat.le_trans I.ok.bsz I.sz
 noex:=λb o e hb=>by
  rcases(hf b hb).2.2.2.1 with z|z
  .exact I.ok.noex b o e z
  .exact absurd (Nat.lt_of_lt_of_le (Heap.lt_size (I.ok.bs b o e).1) z) (Nat.lt_irrefl _)
 exfs:=λb hb hz=>by
  rcases List.mem_cons.mp (I.stkSub b hz)with z|z
  .exact(hf b hb).2.1 z
  .exact(hf b hb).2.2.1 z
 funs:=I.stack
 frf:=I.stkFree
theorem zcK{js:List Nat}(h:(jr n js σ)[i]? =some (some v)):∃k j,i=n+k/\js[k]? =some j/\σ[j]? =some (some v):=by
 unfold jr at h;by_cases hi:i<n
 .rw[List.getElem?_append_left (by simpa using hi),List.getElem?_replicate]at h
  split at h<;>cases h
 .rw[List.getElem?_append_right (by simpa using hi),List.length_replicate,List.getElem?_map]at h
  cases e:js[i-n]? with
  |none=>rw[e]at h;cases h
  |some j=>
   rw[e]at h;refine⟨i-n,j,by omega,e,?_⟩;cases e2:σ[j]? with
   |none=>rw[Option.map_some,e2]at h;cases h
   |some o=>
    rw[Option.map_some,e2]at h;have h':o=some v:=Option.some.inj h;rw[h']
theorem Inv.lc(L:LcOk X N n js scope cl)(I:Inv X pins σ H s){fp:List Addr}(hf:∀b∈fp,FpOk X pins H b)(hlt:∀b∈fp,b<s.heap.objs.size){D:Addr}{h1:Heap}{m:Str->Option Value}{tk:Nat}
  (hD:s.heap.objs.size<=D)(hC:s.heap.objs.size<=C)(hDC:D≠C)(hn:h1.Ns C m)(old:∀b o,s.heap.get? b=some o->h1.get? b=some o){k:Nat}(hl:h1.get? D=some { cls:=.type "list",data:=.seq ([]:List Value).toArray k }) :
  Inv (yt X N scope cl C s H fp) [] (jr n js σ) (upd H D (.lst [])) { s with heap:=h1,toks:=tk } where
 ok:=L.ok I hf hlt hC
 os:=rfl
 bare:=I.bare
 base:=Un.laid old hD (I.hok.fresh hD)
 loc:=by
  refine⟨m,hn,λi x v e1 e2 e3=>?_⟩;obtain⟨k,j,rfl,ej,eσ⟩:=zcK e2;obtain⟨j',c,ej',eN,kx,kr,ec⟩:=L.free k x e1;rw[ej]at ej';cases ej';obtain⟨mx,hmx,hl'⟩:=I.loc;obtain⟨u,r,lk⟩:=hl' j x v eN eσ (kx.elim (λz=>.inr (.inl z)) λz=>.inr (.inr z));refine⟨u,r,.inr ⟨kr,c,ec,?_⟩⟩;have hcx:=L.cells x c ec;rcases lk with⟨z,_⟩|⟨_,c',e',hc'⟩
  .have z':X.env.scope.names.lookup x=some .local:=z
   rcases kx with y|y<;>rw[y]at z'<;>cases z'
  .rw[hcx]at e'
   cases e';obtain⟨o,ho,hd⟩:=hc';exact⟨o,old _ _ ho,hd⟩
 cell:=λx c e=>by
  obtain⟨v,o,ho,hd⟩:=I.cell x c (L.cells x c e);exact⟨v,o,old _ _ ho,hd⟩
 free:=by
  show upd H D (.lst []) C=none;rw[zv (Ne.symm hDC)];exact I.hok.fresh hC
 freeC:=λx c e=>by
  obtain⟨v,o,ho,hd⟩:=I.cell x c (L.cells x c e);rw[zv (Nat.ne_of_lt (Nat.lt_of_lt_of_le (Heap.lt_size ho) hD))];exact I.freeC x c (L.cells x c e)
 pin:=λp hp=>absurd (show p∈([]:List (Addr×Obj))from hp) (by simp)
 hok:=I.hok.laid old hD ⟨Nat.zero_le _,[],k,.nil,hl⟩
 len:=by
  show(jr n js σ).length=N.length;unfold jr;rw[List.length_append,List.length_replicate,List.length_map];exact L.len
theorem Inv.unlc{fp:List Addr}{σ':St}{H':Hp}{s':Shared}{h':Heap}(I:Inv X pins σ H s)(hf:∀b∈fp,FpOk X pins H b)(hC:s.heap.objs.size<=C)(I':Inv (yt X N scope cl C s H fp) [] σ' H' s')(hs:Heap.SameBut C s'.heap h') :
  Inv X pins σ H' { s' with heap:=h' }:=by
 have nC:∀b o,s.heap.get? b=some o->b≠C:=λb o e=>Nat.ne_of_lt (Nat.lt_of_lt_of_le (Heap.lt_size e) hC);have hfree:H' C=none:=I'.free;have u:=I'.base;refine I.call' (ch:=fp) (s':={ s' with heap:=h' }) I'.os ⟨λb o e n hb hx=>?_,λb o e n hb hx=>?_,u.free,λb o e hx=>?_,u.tups,u.frzs,u.tbls⟩ (λb ob e=>?_) I'.bare λb hb=>⟨(hf b hb).2.2.2.1,(hf b hb).2.1,(hf b hb).2.2.2.2.1,(hf b hb).2.2.2.2.2⟩
 .exact(hs.2 b (nC b o e)).trans (u.keep b o e n hb hx)
 .obtain⟨sl,q⟩:=u.slot b o e n hb hx
  exact⟨sl,(hs.2 b (nC b o e)).trans q⟩
 .obtain⟨o',q⟩:=u.there b o e hx
  exact⟨o',(hs.2 b (nC b o e)).trans q⟩
 .refine(I'.hok b ob e).stay (λc w' hc q=>(hs.2 c ?_).trans q) (λ_ q=>q) λ_ _ q=>q
  rintro rfl;rcases hc with rfl|hc
  .rw[hfree]at e
   cases e
  .rw[hfree]at hc
   cases hc
noncomputable def tLc(wi:TI)(n:Nat)(js:List Nat)(g:TG)(tt:TT)(te:TE):TE:=λσ H Q=>wi σ H λJ H1=>∀D,H1 D=none->∃W:Nat->Nat->St->Hp->Prop,(∃m,W 0 m (jr n js σ) (upd H1 D (.lst [])))/\∀i m σ' H',W i m σ' H'->
  (J.stop i H'/\Q (.ref D) H')\/(J.go i H'/\∃ Nx:St->Hp->Prop,(∀ σ2 H2,Nx σ2 H2->∃ m',m' < m/\W (i+1) m' σ2 H2)/\
    ∀x H2,J.yld i H' x H2->g x σ' H2 λσ3 H3=>tt σ3 H3 λok H4=>if ok=true then te σ3 H4 λy H5=>∃ys,H5 D=some (.lst ys)/\ys.length<sizeLine/\Nx σ3 (upd H5 D (.lst (ys++[y])))else Nx σ3 H4)
theorem Jx{elt iter:Expr}{ifs:List Expr}{g:TG}{tt:TT}{te:TE}{it:Addr}{fp:List Addr}{tn:Nat->Heap->Prop}{J:It}{Q:V->Hp->Prop}{RR:Value->Addr->Result->Shared->Prop}
    (L:LcOk X N n js scope cl)(hc:X.calm=true)(I:Inv X pins σ H s)(T:Turn X.prog X.w X.K tg J fp it tn)(t0:tn 0 s.heap)(hf:∀b∈fp,FpOk X pins H b)
    (hg:∀C s0 H0 fp0,PG (yt X N scope cl C s0 H0 fp0) tg g)(ht:∀C s0 H0 fp0,PTs (yt X N scope cl C s0 H0 fp0) ifs tt)(he:∀C s0 H0 fp0,PE (yt X N scope cl C s0 H0 fp0) elt te)
    (hw:∀ D,H D=none->∃ W:Nat->Nat->St->Hp->Prop,(∃ m,W 0 m (jr n js σ) (upd H D (.lst [])))/\∀ i m σ' H',W i m σ' H'->
      (J.stop i H'/\Q (.ref D) H')\/(J.go i H'/\∃ Nx:St->Hp->Prop,(∀ σ2 H2,Nx σ2 H2->∃ m',m' < m/\W (i+1) m' σ2 H2)/\
        ∀x H2,J.yld i H' x H2->g x σ' H2 λσ3 H3=>tt σ3 H3 λok H4=>if ok=true then te σ3 H4 λy H5=>∃ys,H5 D=some (.lst ys)/\ys.length<sizeLine/\Nx σ3 (upd H5 D (.lst (ys++[y])))else Nx σ3 H4))
    (fin:∀D C σ' H' s',s.heap.objs.size<=C->Inv (yt X N scope cl C s H fp) [] σ' H' s'->Q (.ref D) H'->RR (.ref D) C (.ok .next) s') :
    wpAny (model X.prog X.w) X.A (newList []) (fun acc s1=>wpAny (model X.prog X.w) X.A (newFunctionEnv scope X.env.globals cl [] X.env.qual none .none (some X.env)) (fun cenv s2=>
      codeAny (model X.prog X.w) X.A (.compStart (.ListComp elt [⟨tg,iter,ifs,0⟩] scope pos) 0 (.ref it) acc { cenv with scope:=relabel scope X.env }) (RR acc cenv.locals) s2) E s1) E s:=by
  refine wpAny_newObj_type (wpAny_newFunctionEnv L.nocell (by intro y hy;simp at hy) (λh1 hn1 hs1=>?_) L.kind);dsimp only at hn1 hs1 ⊢
  generalize hG:s.heap.push { cls:=.type "list",dict:=none,data:=.seq ([]:List Value).toArray } =G at hn1 hs1 ⊢
  have eC:G.objs.size=s.heap.objs.size+1:=by rw[<-hG,Heap.size_push]
  have hC:s.heap.objs.size<=G.objs.size:=by rw[eC];exact Nat.le_succ _
  have hDC:s.heap.objs.size≠G.objs.size:=by rw[eC];exact Nat.ne_of_lt (Nat.lt_succ_self _)
  have hlt:∀b∈fp,b<s.heap.objs.size:=λb hb=>by
    obtain⟨o,e,_⟩:=T.obj 0 _ t0 b hb;exact Heap.lt_size e
  have old:∀b o,s.heap.get? b=some o->h1.get? b=some o:=λb o e=>by
    have hb:=Heap.lt_size e;exact hs1.extBut b o (Nat.ne_of_lt (Nat.lt_of_lt_of_le hb hC)) (Heap.get?_push_of_some _ (hG▸Heap.get?_push_of_some _ e))
  have hl:h1.get? s.heap.objs.size=some { cls:=.type "list",data:=.seq ([]:List Value).toArray 0 }:=hs1.extBut _ _ hDC (Heap.get?_push_of_some _ (hG▸Heap.get?_push_size _ rfl));have I1:∀tk,Inv (yt X N scope cl G.objs.size s H fp) [] (jr n js σ) (upd H s.heap.objs.size (.lst [])) { s with heap:=h1,toks:=tk }:=λtk=>Inv.lc L I hf hlt (Nat.le_refl _) hC hDC hn1 old hl;have t1:tn 0 h1:=T.keep _ _ _ t0 λb _ o e=>old b o e;obtain⟨W,⟨m0,w0⟩,step⟩:=hw s.heap.objs.size (I.hok.fresh (Nat.le_refl _));have fr1:∀b∈fp,upd H s.heap.objs.size (.lst []) b=none:=λb hb=>by
    rw[zv (Nat.ne_of_lt (hlt b hb))];exact(hf b hb).1
  have fps:∀{H':Hp},(∀b∈fp,H' b=none)->∀b∈fp,FpOk (yt X N scope cl G.objs.size s H fp) [] H' b:=λ{H'} hn b hb=>by
    refine⟨hn b hb,Nat.ne_of_lt (Nat.lt_of_lt_of_le (hlt b hb) hC),λhz=>?_,.inl hb,λx c e=>(hf b hb).2.2.2.2.1 x c (L.cells x c e),λp hp=>absurd (show p∈([]:List (Addr×Obj))from hp) (by simp)⟩;rcases List.mem_cons.mp (I.stkSub b hz)with z|z
    · exact(hf b hb).2.1 z
    · exact(hf b hb).2.2.1 z
  have loop:∀s0:Shared,s0= { s with heap:=h1,toks:=s.toks+([]:List (Str×Value)).length }->
      codeAny (model X.prog X.w) X.A (.compLoop (.ListComp elt [⟨tg,iter,ifs,0⟩] scope pos) 0 (.ref it) (.ref s.heap.objs.size) (compEnvC scope cl G.objs.size X.env)) (RR (.ref s.heap.objs.size) G.objs.size) s0:=by
    rintro s0 rfl;refine zfu (λk s'=>∃i σ' H',Inv (yt X N scope cl G.objs.size s H fp) [] σ' H' s'/\tn i s'.heap/\(∀b∈fp,H' b=none)/\W i k σ' H') ?_ m0 ⟨0,_,_,I1 _,t1,fr1,w0⟩;rintro k s3 ⟨i,σ3,H3,I3,t3,fr3,w3⟩;rcases step i k σ3 H3 w3 with⟨stop,qn⟩|⟨go,Nx,hN,body⟩
    · refine thn (T.done (yt X N scope cl G.objs.size s H fp) rfl rfl rfl hc i [] s3 σ3 H3 _ I3 (fps fr3) t3 stop) λr s4 ⟨hr,I4⟩=>?_
      subst hr;exact fin _ _ σ3 H3 s4 hC I4 qn
    · refine thn (T.item (yt X N scope cl G.objs.size s H fp) rfl rfl rfl hc i [] s3 σ3 H3 _ I3 (fps fr3) t3 go) λr s4 ⟨u,hr,h4⟩=>?_
      subst hr;refine thn h4 λ_ s5 ⟨x,H5,I5,r5,y5,t5,fr5⟩=>?_;have I5':=I5.pinned (fps fr5) (T.obj _ _ t5);refine thn (hg _ _ _ _ _ s5 σ3 H5 x u _ I5' r5 (body x H5 y5)) λ_ s6 ⟨σ6,H6,I6,q6⟩=>?_;have again:∀{σ7:St}{H7:Hp}{s7:Shared},Inv (yt X N scope cl G.objs.size s H fp) ([]++j6 fp s5.heap) σ7 H7 s7->Nx σ7 H7->
          ∃j,j<k/\∃i σ' H',Inv (yt X N scope cl G.objs.size s H fp) [] σ' H' s7/\tn i s7.heap/\(∀b∈fp,H' b=none)/\W i j σ' H':=λ{σ7 H7 s7} I7 n7=>by
        obtain⟨m',hm,w7⟩:=hN σ7 H7 n7;refine⟨m',hm,i+1,σ7,H7,I7.unpinned,T.keep _ _ _ t5 λb hb o e=>(I7.pin (b,o) (List.mem_append_right _ (List.mem_append_right _ (uD hb e)))).1,λb hb=>?_,w7⟩;obtain⟨o,e,_⟩:=T.obj _ _ t5 b hb;exact(I7.pin (b,o) (List.mem_append_right _ (List.mem_append_right _ (uD hb e)))).2.1
      refine thn (ht _ _ _ _ _ s6 σ6 H6 _ I6 q6) λok s7 ⟨H7,I7,q7⟩=>?_;cases ok with
      |false=>
        rw[if_neg (by decide)]at q7 ⊢;exact again I7 q7
      |true=>
        rw[if_pos rfl]at q7 ⊢;refine thn (he _ _ _ _ _ s7 σ6 H7 _ I7 q7) λv s8 ⟨y,H8,I8,r8,ys,e8,z8,q8⟩=>?_;refine thn (xq _ s8 σ6 H8 (.ref s.heap.objs.size) [y] (.ref s.heap.objs.size) [v] (λ_ H9=>Nx σ6 H9) I8 rfl (.cons r8 .nil) ⟨_,ys,y,rfl,rfl,e8,z8,q8⟩) λ_ s9 ⟨_,H9,I9,_,q9⟩=>?_;exact again I9 q9
  exact codeAny_compStart_list (loop _ rfl) (T.self X.A 0 _ _ _ t1 (loop _ rfl))
theorem vV{elt iter:Expr}{ifs:List Expr}{wi:TI}{g:TG}{tt:TT}{te:TE}(L:LcOk X N n js scope cl)(hc:X.calm=true)(hi:PI X tg iter wi)
  (hg:∀C s0 H0 fp0,PG (yt X N scope cl C s0 H0 fp0) tg g)(ht:∀C s0 H0 fp0,PTs (yt X N scope cl C s0 H0 fp0) ifs tt)(he:∀C s0 H0 fp0,PE (yt X N scope cl C s0 H0 fp0) elt te)
  (hs:∀x,foldedSetIterable iter X.env x=pure x:=by intro _;rfl):PE X (.ListComp elt [⟨tg,iter,ifs,0⟩] scope pos) (tLc wi n js g tt te):=by
 intro pins s σ H Q I h;rw[eval_ListComp];refine wpAny_comprehension_free (use:=none) rfl hs L.clos L.kind L.names (thn (hi pins s σ H _ I h) λv s1 h1=>thn h1 λitv s2 h2=>?_);obtain⟨it,fp,tn,J,H2,e,I2,T,t2,f2,hw⟩:=h2;subst e;refine Jx (RR:=λacc C=>compPost (model X.prog X.w) X.A X.xe none (EP X pins σ Q) acc C) L hc I2 T t2 f2 hg ht he hw ?_;intro D C σ' H' s' hC I' q;obtain⟨m,hn,_⟩:=I'.loc;exact⟨m,hn,λh' hs'=>⟨.ref D,H',I2.unlc f2 hC I' hs',rfl,q⟩⟩
theorem uT{elt iter:Expr}{ifs:List Expr}{pos' spos:Pos}{wi:TI}{g:TG}{tt:TT}{te:TE}(hN:X.N.Nodup)(hx:X.N[i]? =some x)(hk:X.env.scope.names.lookup x=some .local)
  (L:LcOk X N n js scope cl)(hc:X.calm=true)(hi:PI X tg iter wi)
  (hg:∀C s0 H0 fp0,PG (yt X N scope cl C s0 H0 fp0) tg g)(ht:∀C s0 H0 fp0,PTs (yt X N scope cl C s0 H0 fp0) ifs tt)(he:∀C s0 H0 fp0,PE (yt X N scope cl C s0 H0 fp0) elt te)
  (hsw:swapsWith (.ListComp elt [⟨tg,iter,ifs,0⟩] scope pos) (some (.Name x pos')) spos.line X.env=pure true:=by rfl)
  (hs:∀x,foldedSetIterable iter X.env x=pure x:=by intro _;rfl):PS X (.Assign [.Name x pos'] (.ListComp elt [⟨tg,iter,ifs,0⟩] scope pos) spos) (ZJ (tLc wi n js g tt te) (qj i)):=by
 intro pins s σ H Dn I h;rw[exec_Assign_Name_used _ _ _ _ hsw];refine wpAny_bind (wpAny_standAt (wpAny_bind ?_));show wpAny _ X.A (do let _<-comprehension (.ListComp elt [⟨tg,iter,ifs,0⟩] scope pos) scope X.env _ (newList []) false (eval iter X.env) (some (assign (.Name x pos') X.env))) _ _ s;refine wpAny_bind (thn (wpAny_comprehension_free (use:=some (assign (.Name x pos') X.env)) (Q:=λ_ s'=>SP X pins Dn .next s') rfl hs L.clos L.kind L.names (thn (hi pins s σ H _ I h) λv s1 h1=>thn h1 λitv s2 h2=>?_)) λ_ s' hq=>wpAny_pure (wpAny_pure hq));obtain⟨it,fp,tn,J,H2,e,I2,T,t2,f2,hw⟩:=h2;subst e;refine Jx (Q:=λx H1=>qj i x σ H1 Dn.nx) (RR:=λacc C=>compPost (model X.prog X.w) X.A X.xe (some (assign (.Name x pos') X.env)) (λ_ s'=>SP X pins Dn .next s') acc C) L hc I2 T t2 f2 hg ht he hw ?_;intro D C σ' H' s' hC I' q;obtain⟨m,hn,_⟩:=I'.loc;have I3:Inv X pins σ H' s':=I2.unlc (h':=s'.heap) f2 hC I' (.refl ..);show wpAny _ X.A (assign (.Name x pos') X.env (.ref D)) _ X.xe s';refine wpAny_assign_Name (XG (v:=.ref D) I3 hN hx (.inl hk) rfl (λs4 I4 hb=>?_) (.inr hk));obtain⟨a,hsa,ha⟩:=hb;have bl:∀b o,s2.heap.get? b=some o->b≠C:=λb o e=>Nat.ne_of_lt (Nat.lt_of_lt_of_le (Heap.lt_size e) hC);have hL:C≠X.env.locals:=λz=>absurd (Nat.lt_of_lt_of_le I2.lt (z▸hC)) (Nat.lt_irrefl _);have hcl:∀y c,X.env.cells.lookup y=some c->c≠C:=λy c e=>by
  obtain⟨v,o,ho,_⟩:=I2.cell y c e;exact bl c o ho
 have hCa:C≠a:=by
  rcases ha with rfl|ha
  .exact hL
  .exact Ne.symm (hcl _ _ ha)
 exact⟨m,hn.sameBut hsa hCa,λh' hs'=>⟨_,H',I4.turned (h':=h') (t':=s4.toks) (it:=C) (λb o hb e=>(hs'.2 b hb).trans e) I'.free hL (.inr (Nat.le_trans I2.sz hC)) hcl (λp hp=>bl _ _ (I2.pin p hp).1),q⟩⟩
end
structure Cal (P:Program) (w:World) (K:W.Frag) (mg:Str->Option Value) (base:Heap) (k:Nat) (x:Str) (dvs:List V) (sp:Sp):Prop where
 ex:∃(f:Addr) (fd:FuncData) (ps:List Str) (ds:List Value),FnOk P w K mg base CX0 k f fd ps sp/\mg x=some (.ref f)/\W.keepIn K (.ref f)=true/\Binds K fd ps ds/\Vals dvs ds
section
variable {k:Nat}{sp:Sp}{dvs:List V}{p:Pos}
theorem zhG(c:Cal X.prog X.w X.K X.mg X.base k x dvs sp)(hr:Room k X.A)(hg:Gl X x)(ha:PA X (e::es) t)(hdb:(x==("__debug__":Str))=false:=by decide)
  (he:starEach (e::es) X.env=(false,eval e X.env)::starEach es X.env:=by rfl)(hpl:(backTo pos (starEach es X.env)).any (·.1)=false:=by rfl):PE X (.Call (.Name x p) (e::es) [] pos) (Zg sp dvs E0 t):=by
 obtain⟨f,fd,ps,ds,F,hm,hk,hb,hd⟩:=c.ex;exact zfp F hr hg hm hk hb hd Yf ha hdb he hpl
end
theorem zhH:OpR X (compareOp .Is) (λx y H Q=>∃b,y=.bl b/\Q (.bl (decide (x=.bl b))) H):=by
 intro pins s σ H x y v u Q I rx ry h;obtain⟨b,rfl,q⟩:=h;cases ry;refine wpAny_is_plain ?_ (yg I q ?_)
 all_goals cases x<;>first
  |(obtain⟨t,rfl⟩:=rx;rfl)
  |(cases rx;rfl)
  |(cases rx;rename_i c;cases c<;>cases b<;>rfl)
theorem QV:yv X (.builtin "isinstance") (λxs H Q=>∃x n t b,xs=[x,.ty n]/\TyOf X.K H x t/\W.kitOne X.K t (.type n)=some b/\Q (.bl b) H):=by
 intro pins s σ H xs us Q I r h;obtain⟨x,n,t,b,rfl,ty,e,q⟩:=h;obtain⟨u,c,rfl,ru,rc⟩:=r.two;cases rc;exact XH I ru ty e λtk=>⟨.bl b,H,I.tok tk,rfl,q⟩
noncomputable def zjQ(K:W.Frag)(H:Hp)(x:V):Prop:=∃n,TyOf K H x (.type n)/\(n= "NoneType"\/n= "str"\/n= "list"\/n= "tuple"\/n= "dict")
noncomputable def Th(K:W.Frag)(H:Hp)(x:V):Option Int->Prop
 |some i=>x=.int i
 |none=>(∃b,x=.bl b)\/zjQ K H x
mutual
noncomputable def Rep(K:W.Frag)(H:Hp):PyData->V->Prop
 |.none,x=>x=.non
 |.bool b,x=>x=.bl b
 |.int i,x=>x=.int i
 |.str z,x=>x=.str z
 |.list ds,x=>∃a xs,x=.ref a/\SqL K H a xs/\Reps K H ds xs
 |.tuple ds,x=>∃a xs,x=.ref a/\SqT K H a xs/\Reps K H ds xs
 |.dict kvs,x=>kvs=[]/\∃a,x=.ref a/\Rd H a (.dK [])
noncomputable def Reps(K:W.Frag)(H:Hp):List PyData->List V->Prop
 |[],xs=>xs=[]
 |d::ds,xs=>∃x r,xs=x::r/\Rep K H d x/\Reps K H ds r
end
theorem SqL.same{H':Hp}{xs:List V}(e:Same H H')(h:SqL K H a xs):SqL K H' a xs:=e.seq h
theorem SqT.same{H':Hp}{xs:List V}(e:Same H H')(h:SqT K H a xs):SqT K H' a xs:=by
 rcases h with(h|⟨o,h⟩)|h
 .exact .inl (.inl (e _ _ h))
 .exact .inl (.inr ⟨o,e _ _ h⟩)
 .exact .inr h
mutual
theorem Rep.same{H':Hp}(e:Same H H'):∀(d:PyData) (x:V),Rep K H d x->Rep K H' d x
 |.none,_,h=>h
 |.bool _,_,h=>h
 |.int _,_,h=>h
 |.str _,_,h=>h
 |.list ds,x,h=>by
  obtain⟨a,xs,e1,h1,h2⟩:=h;exact⟨a,xs,e1,h1.same e,Reps.same e ds xs h2⟩
 |.tuple ds,x,h=>by
  obtain⟨a,xs,e1,h1,h2⟩:=h;exact⟨a,xs,e1,h1.same e,Reps.same e ds xs h2⟩
 |.dict _,_,h=>by
  obtain⟨e1,a,e2,h1⟩:=h;refine⟨e1,a,e2,?_⟩;rcases h1 with h1|⟨o,h1⟩
  .exact .inl (e _ _ h1)
  .exact .inr ⟨o,e _ _ h1⟩
theorem Reps.same{H':Hp}(e:Same H H'):∀(ds:List PyData) (xs:List V),Reps K H ds xs->Reps K H' ds xs
 |[],_,h=>h
 |d::ds,xs,h=>by
  obtain⟨x,r,e1,h1,h2⟩:=h;exact⟨x,r,e1,Rep.same e d x h1,Reps.same e ds r h2⟩
end
theorem Reps.length:∀{ds:List PyData}{xs:List V},Reps K H ds xs->ds.length=xs.length
 |[],xs,h=>by
  cases(show xs=[]from h);rfl
 |d::ds,_,h=>by
  obtain⟨x,r,rfl,_,h2⟩:=h;rw[List.length_cons,List.length_cons,h2.length]
theorem Reps.snoc:∀{ds:List PyData}{xs:List V}{d:PyData}{x:V},Reps K H ds xs->Rep K H d x->Reps K H (ds++[d]) (xs++[x])
 |[],_,d,x,h,h'=>by
  rw[show _=_ from h];exact⟨x,[],rfl,h',rfl⟩
 |d0::ds,_,d,x,h,h'=>by
  obtain⟨y,r,rfl,h1,h2⟩:=h;exact⟨y,r++[x],rfl,h1,h2.snoc h'⟩
mutual
theorem Rep.reads(I:Inv X pins σ H s):∀(d:PyData) (x:V) (u:Value),Rep X.K H d x->RelV x u->∃as,Reads s.heap u d as
 |.none,x,u,h,r=>by
  cases(show x=V.non from h);cases r;exact⟨_,.none⟩
 |.bool b,x,u,h,r=>by
  cases(show x=V.bl b from h);cases r;exact⟨_,.bool b⟩
 |.int i,x,u,h,r=>by
  cases(show x=V.int i from h);obtain⟨t,rfl⟩:=r;exact⟨_,.int i t⟩
 |.str z,x,u,h,r=>by
  cases(show x=V.str z from h);obtain⟨t,rfl⟩:=r;exact⟨_,.str z t⟩
 |.list ds,x,u,h,r=>by
  obtain⟨a,xs,rfl,h1,h2⟩:=h;cases r;obtain⟨its,rv,⟨o,n,e,c,_,dt⟩,_⟩:=I.list h1;obtain⟨as,q⟩:=Reps.reads I ds xs its h2 rv;exact⟨_,.list e c dt (by simpa using q)⟩
 |.tuple ds,x,u,h,r=>by
  obtain⟨a,xs,rfl,h1,h2⟩:=h;cases r;obtain⟨its,rv,⟨o,e,c,n,dt⟩,_⟩:=I.tuple h1;obtain⟨as,q⟩:=Reps.reads I ds xs its h2 rv;exact⟨_,.tuple e c dt (by simpa using q)⟩
 |.dict kvs,x,u,h,r=>by
  obtain⟨rfl,a,rfl,h1⟩:=h;cases r;obtain⟨_,_,vs,kv,dd⟩:=(show ym X.prog X.w H s.heap a (.dK [])from h1.ok I.hok);cases kv;obtain⟨o,es,ep,h2,h3,h4,_,h5,_⟩:=dd;have e0:es= #[]:=by
   have:=h5.length;exact Array.eq_empty_of_size_eq_zero (by simpa using this)
  subst e0;exact⟨_,.dict h2 h3.1 h4 .nil .nil⟩
theorem Reps.reads(I:Inv X pins σ H s):∀(ds:List PyData) (xs:List V) (us:List Value),Reps X.K H ds xs->Vals xs us->∃as,ReadsAll s.heap us ds as
 |[],xs,us,h,r=>by
  cases(show xs=[]from h);cases r;exact⟨_,.nil⟩
 |d::ds,xs,us,h,r=>by
  obtain⟨x,y6,rfl,h1,h2⟩:=h;cases r with
  |cons r1 r2=>
   obtain⟨as,q⟩:=Rep.reads I d x _ h1 r1;obtain⟨bs,q2⟩:=Reps.reads I ds y6 _ h2 r2;exact⟨_,.cons q q2⟩
end
noncomputable def zcL(K:W.Frag):R2:=λx y H Q=>∃d e,Rep K H d x/\Rep K H e y/\SeqAt.shaped d=true/\SeqAt.shaped e=true/\Q (.bl (PyData.eqv d e)) H
noncomputable def zcM(K:W.Frag):R2:=λx y H Q=>∃d e,Rep K H d x/\Rep K H e y/\SeqAt.shaped d=true/\SeqAt.shaped e=true/\Q (.bl (!PyData.eqv d e)) H
theorem zhI(hu:X.A.units+64<cLine):OpR X (compareOp .Eq) (zcL X.K):=by
 intro pins s σ H x y v u Q I rx ry h;obtain⟨d,e,h1,h2,s1,s2,q⟩:=h;obtain⟨as,r1⟩:=Rep.reads I d x v h1 rx;obtain⟨bs,r2⟩:=Rep.reads I e y u h2 ry;exact eq_dataH r1 r2 s1 s2 hu ⟨.bl _,H,I,rfl,q⟩
theorem zhJ(hu:X.A.units+64<cLine):OpR X (compareOp .NotEq) (zcM X.K):=by
 intro pins s σ H x y v u Q I rx ry h;obtain⟨d,e,h1,h2,s1,s2,q⟩:=h;obtain⟨as,r1⟩:=Rep.reads I d x v h1 rx;obtain⟨bs,r2⟩:=Rep.reads I e y u h2 ry;exact ne_dataH r1 r2 s1 s2 hu ⟨.bl _,H,I,rfl,q⟩
noncomputable def V4:Expr->Bool
 |.Starred ..=>false
 |_=>true
theorem Vc{env:Env}(h:V4 e=true):starEach (e::es) env=(false,eval e env)::starEach es env:=by
 cases e<;>first|rfl|cases h
structure QA (X:Cx) (es:List Expr) (t:TA):Prop where
 pa:PA X es t
theorem qn:QA X [] uh:=⟨zhu⟩
theorem qc{te:TE}(ha:PE X e te)(hr:QA X es t)(h:V4 e=true:=by rfl):QA X (e::es) (xZ te t):=⟨zfo ha hr.pa (Vc h)⟩
theorem yJ(h:QA X es t):PE X (.List es pos) (VT t):=zaI h.pa
theorem yb{k:Nat}(h:QA X es t):PE X (.Tuple es k pos) (zcz t):=zhv h.pa
noncomputable def Sm(a:Int):Prop:=-1000000000000<=a/\a<=1000000000000
theorem Sm.mulL{a b:Int}(h:Sm a):YX a b:=.inl ⟨Int.lt_of_lt_of_le (by decide) h.1,Int.lt_of_le_of_lt h.2 (by decide)⟩
theorem Sm.mulR{a b:Int}(h:Sm b):YX a b:=.inr ⟨Int.lt_of_lt_of_le (by decide) h.1,Int.lt_of_le_of_lt h.2 (by decide)⟩
theorem zfv{a b:Int}(h1:-1000000000000<=a)(h2:a<=1000000000000):YX a b:=Sm.mulL ⟨h1,h2⟩
theorem zcN{a b:Int}(h1:-1000000000000<=b)(h2:b<=1000000000000):YX a b:=Sm.mulR ⟨h1,h2⟩
theorem uU{o:HO}(hp:H p=none):Same H (upd H p o):=λb u e=>by
 rw[zv (yu e hp)];exact e
theorem ZN{H':Hp}{r:Addr}{o:HO}(hs:Same H H')(hr:H r=none):Same H (upd H' r o):=λb u e=>by
 rw[zv (yu e hr)];exact hs b u e
structure FunD (K:W.Frag) (x qual:Str) (st:Stmt) (ds:List Value) (f:Addr) (fd:FuncData):Prop where
 ex:∃(oc:Value) (od:Option Addr) (kV doc pm:Value) (an:Option Addr) (cdv ct:Value) (osl:Array (Option Value)) (T:Addr) (oT:Obj) (n:Nat),
  fd=W.fnOf x qual (defArgs st) (defBody st) (defScope st) (.ref T) kV doc pm an cdv ct/\K.lookup f=some ⟨oc,od,.func fd,osl⟩/\W.codeIn K cdv qual=true/\K.lookup T=some oT/\oT.data=.seq ds.toArray n
 kp:W.keepIn K (.ref f)=true
section
variable {w:World}
theorem FunD.ok{qual:Str}{ds:List Value}{ps:List Str}{k:Nat}{sp:Sp}(F:FunD K x qual st ds f fd)(S:FnScope N ps (defScope st))(len:∀vs H Q E,sp vs H Q E->vs.length=ps.length)
    (hbody:∀ (cdv:Value) (A:Around) (outer:List Env) (s:Shared) (H:Hp) (vs:List V) (Q:VK) (E:XK),Room k (A.deeper (envOfC qual (defScope st) s.heap.objs.size f cdv))->sp vs H Q E->
      ∃t,PSs (vH CX0 P w K mg base N qual (defScope st) f cdv A outer s H E).nox (defBody st) t/\t { nx:=λ_ H'=>Q .non H',rt:=Q } (L2.start N vs) H):FnOk P w K mg base CX0 (k+1) f fd ps sp:=by
  obtain⟨oc,od,kV,doc,pm,an,cdv,ct,osl,T,oT,n,rfl,lk,hcd,_,_⟩:=F.ex;refine zeo lk hcd S len λA outer s H vs Q E hr hsp=>?_;obtain⟨t,h,q⟩:=hbody cdv A outer s H vs Q E hr hsp;exact⟨t,h.nox,q⟩
theorem FunD.binds{qual:Str}{ds es:List Value}{ps:List Str}(F:FunD K x qual st ds f fd)
    (h:∀ (T:Addr) (kV doc pm:Value) (an:Option Addr) (cdv ct:Value) (us:List Value),(us ++ es).length=ps.length->
      ∃k,bindArgs (W.fnOf x qual (defArgs st) (defBody st) (defScope st) (.ref T) kV doc pm an cdv ct) ⟨us,[]⟩=seqItems? (W.fnOf x qual (defArgs st) (defBody st) (defScope st) (.ref T) kV doc pm an cdv ct).defaults >>= k/\k (some ds.toArray)=pure (ps.zip (us++es))):Binds K fd ps es:=by
  obtain⟨oc,od,kV,doc,pm,an,cdv,ct,osl,T,oT,n,rfl,lk,hcd,hT,hd⟩:=F.ex;intro s us hK hl;obtain⟨k,h1,h2⟩:=h T kV doc pm an cdv ct us hl;exact .of_defaults rfl (hK _ _ hT) hd h1 h2
end
theorem qx{α:Type}{c:α}:∀{l:List (Str×α)},l.lookup x=some c->(x,c)∈l
 |[],h=>by cases h
 |(y,d)::l,h=>by
  rw[List.lookup_cons]at h;cases e:x==y with
  |true=>
   rw[e]at h;have h1:x=y:=by simpa using e
   have h2:d=c:=Option.some.inj h;rw[h1,h2];exact List.mem_cons_self
  |false=>
   rw[e]at h;exact List.mem_cons_of_mem _ (qx h)
noncomputable def Y2(k:Option NameKind):Bool:=match k with
 |some .cell=>true
 |some .free=>true
 |_=>false
theorem Jy{k:Option NameKind}(h:Y2 k=true):k=some .cell\/k=some .free:=by
 unfold Y2 at h;split at h
 .exact .inl rfl
 .exact .inr rfl
 .cases h
inductive CellsIn (big:List (Str×Addr)):List (Str×Addr)->Prop
 |nil:CellsIn big []
 |cons {x:Str}{c:Addr}{l:List (Str×Addr)}:big.lookup x=some c->CellsIn big l->CellsIn big ((x,c)::l)
theorem CellsIn.mem{big:List (Str×Addr)}{c:Addr}:∀{l:List (Str×Addr)},CellsIn big l->(x,c)∈l->big.lookup x=some c
 |_,.nil,h=>by cases h
 |_,.cons e r,h=>by
  rcases List.mem_cons.mp h with z|z
  .cases z
   exact e
  .exact r.mem z
theorem xB{js:List Nat}{scope:Scope}{cl:List (Str×Addr)}(clos:closureFor scope X.env=pure cl:=by rfl)(nocell:(scope.names.all λy=>!(y.2 == .cell))=true:=by rfl)(kind:scope.kind=.function:=by rfl)
  (names:(scope.names.all λy=>!(y.2 == .local)||scope.names.lookup y.1==some .local)=true:=by rfl)(cells:CellsIn X.env.cells cl:=by repeat' first|exact CellsIn.nil|refine CellsIn.cons rfl ?_)
  (has:((relabel scope X.env).names.all λy=>!(Y2 (some y.2))||(cl.lookup y.1).isSome)=true:=by rfl)(len:n+js.length=N.length:=by rfl)
  (free:((N.drop n).zip js).all (λp=>X.N[p.2]? == some p.1&&Y2 (X.env.scope.names.lookup p.1)&&Y2 ((relabel scope X.env).names.lookup p.1)&&(cl.lookup p.1).isSome)=true:=by rfl):LcOk X N n js scope cl where
 clos:=clos
 nocell:=λy hy e=>by
  have h:=List.all_eq_true.mp nocell y hy;rw[e]at h;cases h
 kind:=kind
 names:=λy hy e=>by
  have h:=List.all_eq_true.mp names y hy;rw[e]at h;simpa using h
 cells:=λx c h=>cells.mem (qx h)
 has:=λx h=>by
  have key:∀k,(relabel scope X.env).names.lookup x=some k->Y2 (some k)=true->∃c,cl.lookup x=some c:=λk e hk=>by
   have h1:=List.all_eq_true.mp has (x,k) (qx e);rw[hk]at h1;exact Option.isSome_iff_exists.mp (by simpa using h1)
  rcases h with h|h
  .exact key _ h rfl
  .exact key _ h rfl
 len:=len
 free:=λi x h=>by
  have hd:(N.drop n)[i]? =some x:=by rw[List.getElem?_drop];exact h
  have hi:i<(N.drop n).length:=(List.getElem?_eq_some_iff.mp hd).1;have hj:i<js.length:=by rw[List.length_drop]at hi;omega
  have hz:((N.drop n).zip js)[i]? =some (x,js[i]):=by
   rw[List.getElem?_zip_eq_some];exact⟨hd,List.getElem?_eq_getElem hj⟩
  have h1:=List.all_eq_true.mp free (x,js[i]) (List.mem_of_getElem? hz);simp only[Bool.and_eq_true,beq_iff_eq]at h1;obtain⟨⟨⟨a1,a2⟩,a3⟩,a4⟩:=h1;obtain⟨c,hc⟩:=Option.isSome_iff_exists.mp a4;exact⟨js[i],c,List.getElem?_eq_getElem hj,a1,Jy a2,Jy a3,hc⟩
noncomputable abbrev Cel:=Str×Int
noncomputable abbrev zkI:=List (List Cel)
noncomputable def celD(c:Cel):PyData:=.tuple [.str c.1,.int c.2]
noncomputable def okC(c:Cel):Prop:=PyData.strOk c.1=true
theorem zfw(c d:Cel):PyData.eqv (celD c) (celD d)=decide (c=d):=by
 obtain⟨x,i⟩:=c;obtain⟨y,j⟩:=d;by_cases h1:x=y<;>by_cases h2:i=j<;>simp[celD,PyData.eqv,PyData.eqvAll,h1,h2]
section
variable {H0 H1:Hp}{av:List Addr}{r t l:Addr}{es:List PyData}{d:PyData}
end
section
variable {H0 H1:Hp}{r t:Addr}{p:zkI}{row:List Cel}
end
noncomputable def rLo(K:W.Frag):List V->Hp->VK->Prop:=λxs H Q=>∃p ys,xs=[.ref p]/\(SqL K H p ys\/SqT K H p ys)/\∀l:Addr,H l=none->Q (.ref l) (upd H l (.lst ys))
theorem Vz(h:X.K=K):yv X (.type "list") (rLo K):=by
 subst h;exact V2
theorem kd(h:X.K=K):SlR X (zcF K):=by
 subst h;exact zft
theorem yP(h:X.K=K):IxR X (Ke K):=by
 subst h;exact zfs
noncomputable def zhK(K:W.Frag):R2:=λx y H Q=>∃l b xs zs,x=.ref l/\y=.ref b/\SqL K H l xs/\SqL K H b zs/\xs.length+zs.length<=sizeLine/\∀p,H p=none->Q (.ref p) (upd H p (.lst (xs++zs)))
theorem V5(hK:X.K=K):OpR X (binaryOp .Add) (zhK K):=by
 subst hK;intro pins s σ H x y v u Q I rx ry h;obtain⟨l,b,xs,zs,rfl,rfl,hH,hB,hz,q⟩:=h;cases rx;cases ry;obtain⟨its,r,⟨o1,n1,e1,c1,d1,m1⟩,z1⟩:=I.list hH;obtain⟨ita,r2,⟨o2,n2,e2,c2,d2,m2⟩,z2⟩:=I.list hB;obtain⟨g1,g2,g3,g4⟩:=o1;obtain⟨f1,f2,f3,f4⟩:=o2;simp only at c1 d1 m1 c2 d2 m2;subst c1 d1 m1 c2 d2 m2;have hs:its.length+ita.length<=sizeLine:=by
  rw[<-r.length,<-r2.length];exact hz
 have ea:its.toArray++ita.toArray=(its++ita).toArray:=by simp
 refine concat_meets ⟨_,e1,rfl⟩ ⟨_,e2,rfl⟩ noFill_list_add seq_list_add F.slot_list_add F.entry_list_add (F.args_list_add_2 _ _) (list_addW l b its.toArray ita.toArray n1 n2 none none g4 f4 (by simpa using hs)) ⟨e1,e2,?_⟩;rw[ea];exact⟨.ref _,_,I.lnew (t':=s.toks) (r.append r2) (by rw[List.length_append];omega),rfl,q _ I.fresh⟩
section
variable {M:Model}
end
end L2
namespace L2
open PySem PySem.W PySem.Spec PySem.Calls PyProof.Rows
section
variable {w:World}{e:Addr}{oe:Obj}
end
section
variable {ps:List (Addr×Obj)}{Z:Value->Shared->Prop}{e:Addr}
end
end L2
namespace L2
open PySem PySem.Spec PyProof.Rows
section
variable {js:List Nat}{scope:Scope}{cl:List (Str×Addr)}{y:Str}
end
section
variable {κ:Type}[DecidableEq κ]
noncomputable def y7(kvs:List (κ×V))(k:κ):Option V:=(kvs.find? λkv=>decide (kv.1=k)).map (·.2)
noncomputable def xC(kvs:List (κ×V))(k:κ)(v:V):List (κ×V):=
 if(kvs.any λkv=>decide (kv.1=k))=true then kvs.map (λkv=>if kv.1=k then(kv.1,v)else kv)else kvs++[(k,v)]
noncomputable def jt(kvs:List (κ×V))(k:κ):List (κ×V):=kvs.filter λkv=>decide (kv.1≠k)
theorem ju{p:κ×V}{r:List (κ×V)}{k:κ}(e:p.1=k):y7 (p::r) k=some p.2:=by simp[y7,List.find?_cons,e]
theorem jv{p:κ×V}{r:List (κ×V)}{k:κ}(e:¬p.1=k):y7 (p::r) k=y7 r k:=by simp[y7,List.find?_cons,e]
theorem V6(k:κ):∀kvs:List (κ×V),(kvs.any λkv=>decide (kv.1=k))=(y7 kvs k).isSome
 |[]=>rfl
 |p::r=>by
  rw[List.any_cons];by_cases e:p.1=k
  .simp only[ju e,decide_eq_true e,Bool.true_or,Option.isSome_some]
  .rw[jv e,decide_eq_false e,Bool.false_or];exact V6 k r
theorem qy(kvs:List (κ×V))(k:κ)(v:V):(xC kvs k v).length<=kvs.length+1:=by
 unfold xC;split
 .rw[List.length_map];omega
 .rw[List.length_append,List.length_cons,List.length_nil];omega
theorem xz.isSome_eq{o:Option V}{u:Option Value}(r:xz o u):o.isSome=u.isSome:=by
 cases o with
 |none=>cases u with
  |none=>rfl
  |some _=>exact(show False from r).elim
 |some _=>cases u with
  |none=>exact(show False from r).elim
  |some _=>rfl
theorem xz.getD{o:Option V}{u:Option Value}{d:V}{d':Value}(r:xz o u)(rd:RelV d d'):RelV (o.getD d) (u.getD d'):=by
 cases o with
 |none=>cases u with
  |none=>exact rd
  |some _=>exact(show False from r).elim
 |some _=>cases u with
  |none=>exact(show False from r).elim
  |some _=>exact r
theorem KV.val{kvs:List (κ×V)}{vs:List (κ×Value)}(r:KV kvs vs)(k:κ):xz (y7 kvs k) (valueAt vs k):=by
 unfold KV at r
 induction r with
 |nil=>exact True.intro
 |@cons p q ps qs h t ih=>
  obtain⟨h1,h2⟩:=h;by_cases e:p.1=k
  .have e':q.1=k:=h1.symm.trans e
   have b:valueAt (q::qs) k=some q.2:=by simp[valueAt,List.find?_cons,e']
   rw[ju e,b];exact h2
  .have e':¬q.1=k:=λz=>e (h1.trans z)
   have b:valueAt (q::qs) k=valueAt qs k:=by simp[valueAt,List.find?_cons,e']
   rw[jv e,b];exact ih
theorem KV.any{kvs:List (κ×V)}{vs:List (κ×Value)}(r:KV kvs vs)(k:κ):(kvs.any λkv=>decide (kv.1=k))=vs.any λkv=>decide (kv.1=k):=by
 unfold KV at r
 induction r with
 |nil=>rfl
 |cons h t ih=>rw[List.any_cons,List.any_cons,ih,h.1]
theorem KV.repl{kvs:List (κ×V)}{vs:List (κ×Value)}(r:KV kvs vs)(k:κ){y:V}(ry:RelV y u) :
  KV (kvs.map λkv=>if kv.1=k then(kv.1,y)else kv) (vs.map λkv=>if kv.1=k then(kv.1,u)else kv):=by
 unfold KV at r ⊢
 induction r with
 |nil=>exact .nil
 |@cons p q ps qs h t ih=>
  rw[List.map_cons,List.map_cons];refine .cons ?_ ih;obtain⟨h1,h2⟩:=h;by_cases e:p.1=k
  .rw[if_pos e,if_pos (h1.symm.trans e)];exact⟨h1,ry⟩
  .rw[if_neg e,if_neg (λz=>e (h1.trans z))];exact⟨h1,h2⟩
theorem KV.put{kvs:List (κ×V)}{vs:List (κ×Value)}(r:KV kvs vs)(k:κ){y:V}(ry:RelV y u):KV (xC kvs k y) (stored vs k u):=by
 unfold xC stored;rw[r.any k];by_cases e:(vs.any λkv=>decide (kv.1=k))=true
 .rw[if_pos e,if_pos e];exact r.repl k ry
 .rw[if_neg e,if_neg e];exact Paired.snoc r ⟨rfl,ry⟩
theorem KV.drop{kvs:List (κ×V)}{vs:List (κ×Value)}(r:KV kvs vs)(k:κ):KV (jt kvs k) (without vs k):=by
 unfold KV at r ⊢;unfold jt without
 induction r with
 |nil=>exact .nil
 |@cons p q ps qs h t ih=>
  obtain⟨h1,h2⟩:=h;rw[List.filter_cons,List.filter_cons];by_cases e:p.1=k
  .have a:¬decide (p.1≠k)=true:=by simp[e]
   have b:¬decide (q.1≠k)=true:=by simp[h1.symm.trans e]
   rw[if_neg a,if_neg b];exact ih
  .have e':¬q.1=k:=λz=>e (h1.trans z)
   have a:decide (p.1≠k)=true:=by simp[e]
   have b:decide (q.1≠k)=true:=by simp[e']
   rw[if_pos a,if_pos b];exact .cons ⟨h1,h2⟩ ih
theorem KV.keys{kvs:List (κ×V)}{vs:List (κ×Value)}(r:KV kvs vs):kvs.map (·.1)=vs.map (·.1):=by
 unfold KV at r
 induction r with
 |nil=>rfl
 |cons h t ih=>rw[List.map_cons,List.map_cons,ih,h.1]
theorem KV.length{kvs:List (κ×V)}{vs:List (κ×Value)}(r:KV kvs vs):kvs.length=vs.length:=Paired.length r
theorem zcO(kvs:List (κ×V))(k:κ):(jt kvs k).length<=kvs.length:=List.length_filter_le _ _
end
theorem jw{w:World}{k:Key}(r:RelV (kV k) u):(yk P w).is k u=true:=by
 cases k with
 |inl i=>obtain⟨t,e⟩:=(show ∃t,u=Value.int i t from r);subst e;exact QS P w i t
 |inr x=>obtain⟨t,e⟩:=(show ∃t,u=Value.str x t from r);subst e;exact QT P w x t
theorem XO{w:World}:∀{ks:List Key}{us:List Value},Vals (ks.map kV) us->ItemsAre (yk P w) ks us
 |[],_,r=>by rw[List.map_nil]at r;cases r;exact .nil
 |k::ks,_,r=>by
  rw[List.map_cons]at r;cases r with
  |cons h t=>exact .cons (jw h) (XO t)
noncomputable abbrev KT(H:Hp):List (List Key×V)->List (List Key×Addr×Value)->Prop:=Paired λp q=>p.1=q.1/\H q.2.1=some (.tup (p.1.map kV))/\RelV p.2 q.2.2
theorem KT.val{kvs:List (List Key×V)}{xs:List (List Key×Addr×Value)}(r:KT H kvs xs)(k:List Key):xz (y7 kvs k) ((atKey xs k).map (·.2)):=by
 induction r with
 |nil=>exact True.intro
 |@cons p q ps qs h t ih=>
  obtain⟨h1,_,h2⟩:=h;by_cases e:p.1=k
  .have e':q.1=k:=h1.symm.trans e
   have b:atKey (q::qs) k=some q.2:=by simp[atKey,List.find?_cons,e']
   rw[ju e,b];exact h2
  .have e':¬q.1=k:=λz=>e (h1.trans z)
   have b:atKey (q::qs) k=atKey qs k:=by simp[atKey,List.find?_cons,e']
   rw[jv e,b];exact ih
theorem KT.repl{kvs:List (List Key×V)}{xs:List (List Key×Addr×Value)}(r:KT H kvs xs)(k:List Key){y:V}(ry:RelV y u) :
  KT H (kvs.map λkv=>if kv.1=k then(kv.1,y)else kv) (xs.map (putAt k u)):=by
 induction r with
 |nil=>exact .nil
 |@cons p q ps qs h t ih=>
  rw[List.map_cons,List.map_cons];refine .cons ?_ ih;obtain⟨h1,h2,h3⟩:=h;unfold putAt;by_cases e:p.1=k
  .rw[if_pos e,if_pos (h1.symm.trans e)];exact⟨h1,h2,ry⟩
  .rw[if_neg e,if_neg (λz=>e (h1.trans z))];exact⟨h1,h2,h3⟩
theorem KT.put{kvs:List (List Key×V)}{xs:List (List Key×Addr×Value)}(r:KT H kvs xs)(k:List Key){y:V}(hb:H b=some (.tup (k.map kV)))(ry:RelV y u) :
  KT H (xC kvs k y) (storedH xs k b u):=by
 have e:(kvs.any λkv=>decide (kv.1=k))=(atKey xs k).isSome:=by
  rw[V6,(r.val k).isSome_eq,Option.isSome_map]
 unfold xC storedH;rw[e];by_cases q:(atKey xs k).isSome=true
 .rw[if_pos q,if_pos q];exact r.repl k ry
 .rw[if_neg q,if_neg q];exact Paired.snoc r ⟨rfl,hb,ry⟩
theorem KT.keeps{H':Hp}{kvs:List (List Key×V)}{xs:List (List Key×Addr×Value)}(r:KT H kvs xs)(ht:∀b ys,H b=some (.tup ys)->H' b=some (.tup ys)):KT H' kvs xs:=
 Paired.mapP r λ_ _ z=>⟨z.1,ht _ _ z.2.1,z.2.2⟩
section
variable {w:World}
theorem zes{u:HO}(ok:HOk P w H h)(e:Rd H a u):ym P w H h a u:=e.ok ok
theorem Kh(ok:HOk P w H h)(e:Rd H a (.dK kvs)):kvs.length<=sizeLine/\(a==sysModules)=false/\∃vs,KV kvs vs/\h.DictOf (yk P w) a vs:=
 show ym P w H h a (.dK kvs)from zes ok e
theorem jx(ok:HOk P w H h)(e:H a=some (.dK kvs)):kvs.length<=sizeLine/\(a==sysModules)=false/\∃vs,KV kvs vs/\h.DictOf (yk P w) a vs:=Kh ok (.inl e)
theorem V7{ks:List Key}(ok:HOk P w H h)(e:H a=some (.tup (ks.map kV))):(tupleKind (yk P w)).is h ks a:=by
 obtain⟨_,its,r,o,h1,h2,n,h3⟩:=(show ym P w H h a (.tup (ks.map kV))from ok a _ e);exact⟨o,its.toArray,n,h1,h2,h3,by simpa using XO r⟩
theorem Ki{kvs:List (List Key×V)}(ok:HOk P w H h)(e:Rd H a (.dT kvs)):kvs.length<=sizeLine/\(a==sysModules)=false/\
  ∃xs,KT H kvs xs/\h.DictOfH (tupleKind (yk P w)) a xs:=by
 obtain⟨z,y,xs,r,o,es,ep,h1,h2,h3,h4,h5⟩:=(show ym P w H h a (.dT kvs)from zes ok e);refine⟨z,y,xs,r,o,es,ep,h1,h2,h3,h4,λx hx=>?_,h5⟩;have all:∀{l:List (List Key×V)}{m:List (List Key×Addr×Value)},KT H l m->∀x∈m,(tupleKind (yk P w)).is h x.1 x.2.1:=by
  intro l m q
  induction q with
  |nil=>intro x hx;exact nomatch hx
  |@cons p q ps qs hq t ih=>
   intro x hx;rcases List.mem_cons.mp hx with e|hx
   .subst e
    exact V7 ok (by rw[<-hq.1];exact hq.2.1)
   .exact ih x hx
 exact all r x hx
theorem zjR{kvs:List (List Key×V)}(ok:HOk P w H h)(e:H a=some (.dT kvs)):kvs.length<=sizeLine/\(a==sysModules)=false/\
  ∃xs,KT H kvs xs/\h.DictOfH (tupleKind (yk P w)) a xs:=Ki ok (.inl e)
end
noncomputable def V8(H:Hp)(a:Addr)(y:V)(r:Option V):Prop:=
 (∃kvs k,Rd H a (.dK kvs)/\y=kV k/\r=y7 kvs k)\/∃kvs k b,Rd H a (.dT kvs)/\y=.ref b/\H b=some (.tup (k.map kV))/\r=y7 kvs k
noncomputable def V9(H:Hp)(a:Addr)(y v:V)(H':Hp):Prop:=
 (∃kvs k,H a=some (.dK kvs)/\y=kV k/\kvs.length<sizeLine/\H'=upd H a (.dK (xC kvs k v)))\/
 ∃kvs k b,H a=some (.dT kvs)/\y=.ref b/\H b=some (.tup (k.map kV))/\kvs.length<sizeLine/\H'=upd H a (.dT (xC kvs k v))
theorem V8.k{k:Key}(e:H a=some (.dK kvs)):V8 H a (kV k) (y7 kvs k):=.inl ⟨kvs,k,.inl e,rfl,rfl⟩
theorem V9.k{k:Key}(e:H a=some (.dK kvs))(hl:kvs.length<sizeLine):V9 H a (kV k) v (upd H a (.dK (xC kvs k v))):=.inl ⟨kvs,k,e,rfl,hl,rfl⟩
section
variable {y:V}{r:Value}{o:Option V}
theorem Inv.big(I:Inv X pins σ H s):sysModules<s.heap.objs.size:=by
 have h:mainGlobals<s.heap.objs.size:=(I.mod.glob.keeps I.bk).lt;exact Nat.lt_trans (by decide) h
theorem ja{h':Heap}{t':Nat}{ob:HO}(I:Inv X pins σ H s)(mu:Mut (H a))(hs:Heap.SameBut a s.heap h')(he:∃q,h'.get? a=some q)(new:ym X.prog X.w (upd H a ob) h' a ob) :
  Inv X pins σ (upd H a ob) { s with heap:=h',toks:=t' }:=
 I.write (x:=a) (e:=a) mu (.inl rfl) (λb q hb z=>(hs.2 b hb).trans z) he new
theorem ke{w:World}{H':Hp}{h':Heap}{vs:List (Key×Value)}(z:kvs.length<=sizeLine)(hd:(a==sysModules)=false)(rel:KV kvs vs)(dd:h'.DictOf (yk P w) a vs) :
  ym P w H' h' a (.dK kvs):=⟨z,hd,vs,rel,dd⟩
theorem zaS{H':Hp}{Q:Unit->Shared->Prop}(hu:A.units+1<cLine)(I:Inv X pins σ H s)(g:V9 H a y v H')(ry:RelV y u)(rv:RelV v r)(h:∀s',Inv X pins σ H' s'->Q () s') :
  wpAny (model X.prog X.w) A (setItem (.ref a) u r) Q E s:=by
 rcases g with⟨kvs,k,e,ey,l,eH⟩|⟨kvs,k,b,e,ey,eb,l,eH⟩
 .subst ey eH
  obtain⟨z,hd,vs,rel,dd⟩:=jx I.hok e;have hz:vs.length<=sizeLine:=by rw[<-rel.length];exact z
  have hl:(xC kvs k v).length<=sizeLine:=by have:=qy kvs k v;omega
  refine wpAny_setItem_pairs (hsz:=hz) (jw ry) dd λh' dd' hs=>h _ ?_;have he:∃q,h'.get? a=some q:=let⟨q,_,_,hq,_⟩:=dd';⟨q,hq⟩
  exact ja I (by rw[e];exact True.intro) hs he (ke hl hd (rel.put k rv) dd')
 .subst ey eH
  cases(show u=Value.ref b from ry);obtain⟨z,hd,xs,rel,dd⟩:=zjR I.hok e;have hz:xs.length<=sizeLine:=by rw[<-Paired.length rel];exact z
  have hl:(xC kvs k v).length<=sizeLine:=by have:=qy kvs k v;omega
  refine wpAny_setItem_heap (hsz:=hz) (tupleKind_room_in1 hu) (V7 I.hok eb) dd λh' dd' hs=>h _ ?_;obtain⟨q,es,ep,hq,h2,h3,h4,_,h5⟩:=dd';refine ja I (by rw[e];exact True.intro) hs ⟨q,hq⟩ ⟨hl,hd,_,(rel.put k eb rv).keeps λc ys ec=>?_,q,es,ep,hq,h2,h3,h4,h5⟩;rw[zv (zjM ec e (λz=>nomatch z))];exact ec
end
section
variable {k:Key}
theorem zjS{more:List Value}(I:Inv X pins σ H s)(e:H a=some (.dK kvs))(ry:RelV (kV k) u)(l:y7 kvs k=some v)(hm:more=[]\/∃x,more=[x])
  (h:∀w' s',Inv X pins σ (upd H a (.dK (jt kvs k))) s'->RelV v w'->Q w' s'):wpAny (model X.prog X.w) A (call (.builtin "dict.pop") (.ref a::u::more)) Q E s:=by
 obtain⟨z,hd,vs,rel,dd⟩:=jx I.hok e;obtain⟨w',hw,rw'⟩:=xz.some_of (v:=v) (o:=valueAt vs k) (by rw[<-l];exact rel.val k);have hp:(keyPart u).isSome=true:=by
  cases k with
  |inl i=>obtain⟨t,q⟩:=(show ∃t,u=Value.int i t from ry);subst q;rfl
  |inr x=>obtain⟨t,q⟩:=(show ∃t,u=Value.str x t from ry);subst q;rfl
 have ha:argsOk "dict.pop" ⟨.ref a::u::more,[]⟩:=by
  rcases hm with q|⟨x,q⟩
  .subst q;exact PySem.F.args_dict_pop_2 _ _
  .subst q;exact PySem.F.args_dict_pop_3 _ _ _
 refine call_meetsIn PySem.F.slot_dict_pop dd.typeIs PySem.F.entry_dict_pop ha (meets_dict_pop_there (yk X.prog X.w) a (jw ry) more hm hp)
  ⟨vs,w',dd,by rw[<-rel.length];exact z,hw,λh' dd' hs=>h w' _ ?_ rw'⟩
 have he:∃q,h'.get? a=some q:=let⟨q,_,_,hq,_⟩:=dd';⟨q,hq⟩
 exact ja I (by rw[e];exact True.intro) hs he (ke (Nat.le_trans (zcO kvs k) z) hd (rel.drop k) dd')
theorem zhL{r:Value}(I:Inv X pins σ H s)(e:H a=some (.dK kvs))(ry:RelV (kV k) u)(l:y7 kvs k=none)(h:∀s',Inv X pins σ H s'->Q r s') :
  wpAny (model X.prog X.w) A (call (.builtin "dict.pop") [.ref a,u,r]) Q E s:=by
 obtain⟨z,hd,vs,rel,dd⟩:=jx I.hok e;have hn:valueAt vs k=none:=xz.none_of (by rw[<-l];exact rel.val k);have hp:(keyPart u).isSome=true:=by
  cases k with
  |inl i=>obtain⟨t,q⟩:=(show ∃t,u=Value.int i t from ry);subst q;rfl
  |inr x=>obtain⟨t,q⟩:=(show ∃t,u=Value.str x t from ry);subst q;rfl
 exact call_meetsIn PySem.F.slot_dict_pop dd.typeIs PySem.F.entry_dict_pop (PySem.F.args_dict_pop_3 _ _ _) (meets_dict_pop_default (yk X.prog X.w) a (jw ry) hd hp r) ⟨vs,dd,hn,h _ (I.tok _)⟩
theorem zfx(I:Inv X pins σ H s)(e:H a=some (.dK kvs))(h:∀s',Inv X pins σ (upd H a (.dK [])) s'->Q .none s'):wpAny (model X.prog X.w) A (call (.builtin "dict.clear") [.ref a]) Q E s:=by
 obtain⟨z,hd,vs,rel,dd⟩:=jx I.hok e;refine call_meetsIn PySem.F.slot_dict_clear dd.typeIs PySem.F.entry_dict_clear (PySem.F.args_dict_clear_1 _) (meets_dict_clear (yk X.prog X.w) a) ⟨vs,dd,by rw[<-rel.length];exact z,λh' dd' hs=>h _ ?_⟩;have he:∃q,h'.get? a=some q:=let⟨q,_,_,hq,_⟩:=dd';⟨q,hq⟩
 exact ja (t':=s.toks) I (by rw[e];exact True.intro) hs he (ke (Nat.zero_le _) hd .nil dd')
end
noncomputable def zjT(td ty tv:TE):TS:=λD σ H=>tv σ H λv H1=>td σ H1 λx H2=>ty σ H2 λy H3=>∃a H4,x=.ref a/\V9 H3 a y v H4/\D.nx σ H4
section
variable {o i value:Expr}{pos' tpos:Pos}{td ty tv:TE}
theorem zfy(hu:X.A.units+1<cLine)(ho:PE X o td)(hi:PE X i ty)(hv:PE X value tv)(hs:swapsWith value (some (.Subscript o i pos')) pos.line X.env=pure false) :
  PS X (.Assign [.Subscript o i pos'] value pos) (zjT td ty tv):=by
 intro pins s σ H D I h;refine wpAny_Assign_Subscript (thn (hv pins s σ H _ I h) λr s1 ⟨v,H1,I1,rv,q1⟩=>thn (ho pins s1 σ H1 _ I1 q1) λu s2 ⟨x,H2,I2,rx,q2⟩=>thn (hi pins s2 σ H2 _ I2 q2) λiv s3 ⟨y,H3,I3,ry,a,H4,ex,g,q3⟩=>?_) hs;subst ex;obtain rfl:u=Value.ref a:=rx;exact zaS hu I3 g ry rv λs4 I4=>⟨σ,H4,I4,q3⟩
end
theorem zcP{w:World}(h:Heap)(hb:sysModules<h.objs.size):ym P w H (h.push { cls:=.type "dict",data:=.dict #[] }) h.objs.size (.dK []):=
 ⟨Nat.zero_le _,beq_eq_false_iff_ne.mpr (Ne.symm (Nat.ne_of_lt hb)),[],.nil,Heap.DictOf.new h⟩
noncomputable def Yg:List (TE×TE)->St->Hp->(List (V×V)->Hp->Prop)->Prop
 |[],_,H,Q=>Q [] H
 |(tk,tv)::r,σ,H,Q=>tk σ H λx H1=>tv σ H1 λy H2=>Yg r σ H2 λps H3=>Q ((x,y)::ps) H3
noncomputable abbrev VV:List (V×V)->List (Value×Value)->Prop:=Paired λp q=>RelV p.1 q.1/\RelV p.2 q.2
noncomputable def PPs(X:Cx)(pos:Pos)(keys:List (Option Expr))(values:List Expr)(trs:List (TE×TE)):Prop:=
 ∀(pins:List (Addr×Obj)) (s:Shared) (σ:St) (H:Hp) (Q:List (V×V)->Hp->Prop),Inv X pins σ H s->Yg trs σ H Q->
  wpAny (model X.prog X.w) X.A (evalPairs (pairTrees keys values X.env pos)) (λvs s'=>∃ps H',Inv X pins σ H' s'/\VV ps vs/\Q ps H') X.xe s
theorem zfz:PPs X pos [] [] []:=λpins s σ H Q I h=>pairTrees_nil_walk ⟨[],H,I,.nil,h⟩
theorem vJ{k v:Expr}{ks:List (Option Expr)}{vs:List Expr}{tk tv:TE}{trs:List (TE×TE)}(hk:PE X k tk)(hv:PE X v tv)(hr:PPs X pos ks vs trs) :
    PPs X pos (some k::ks) (v::vs) ((tk,tv)::trs):=λpins s σ H Q I h=>
  pairTrees_cons_walk (thn (hk pins s σ H _ I h) fun u s1 ⟨x,H1,I1,rx,q1⟩=>thn (hv pins s1 σ H1 _ I1 q1) fun w2 s2 ⟨y,H2,I2,ry,q2⟩=>
    thn (hr pins s2 σ H2 _ I2 q2) λws s3 ⟨ps,H3,I3,rel,q3⟩=>⟨(x,y)::ps,H3,I3,.cons ⟨rx,ry⟩ rel,q3⟩)
noncomputable def xI(kvs more:List (Key×V)):List (Key×V):=more.foldl (λacc kv=>xC acc kv.1 kv.2) kvs
theorem KV.merge:∀{more:List (Key×V)}{rs:List (Key×Value)}{kvs:List (Key×V)}{vs:List (Key×Value)},KV more rs->KV kvs vs->KV (xI kvs more) (merged vs rs):=by
 intro more rs kvs vs r;unfold KV at r
 induction r generalizing kvs vs with
 |nil=>intro q;exact q
 |@cons p q ps qs h t ih=>
  intro r0;have e:KV (xC kvs p.1 p.2) (stored vs q.1 q.2):=by
   have:=r0.put p.1 h.2;rw[<-h.1];exact this
  exact ih e
theorem uk:∀(more kvs:List (Key×V)),(xI kvs more).length<=kvs.length+more.length
 |[],kvs=>by show kvs.length<=kvs.length+0;omega
 |p::r,kvs=>by
  have h1:=uk r (xC kvs p.1 p.2);have h2:=qy kvs p.1 p.2;show(xI (xC kvs p.1 p.2) r).length<=_;rw[List.length_cons];omega
theorem Yh{P:Program}{w:World}:∀{kvs:List (Key×V)}{ws:List (Value×Value)},VV (kvs.map λkv=>(kV kv.1,kv.2)) ws->∃rs,Carries (yk P w) ws rs/\KV kvs rs
 |[],_,r=>by rw[List.map_nil]at r;cases r;exact⟨[],True.intro,.nil⟩
 |p::kvs,_,r=>by
  rw[List.map_cons]at r;cases r with
  |@cons a b as bs h t=>
   obtain⟨rs,c,q⟩:=Yh (P:=P) (w:=w) t;obtain⟨b1,b2⟩:=b;exact⟨(p.1,b2)::rs,⟨jw h.1,rfl,c⟩,.cons ⟨rfl,h.2⟩ q⟩
noncomputable def zet(trs:List (TE×TE)):TE:=λσ H Q=>∀p,H p=none->Yg trs σ (upd H p (.dK [])) λps H2=>H2 p=some (.dK [])/\∃kvs:List (Key×V),ps=kvs.map (λkv=>(kV kv.1,kv.2))/\kvs.length<=15/\Q (.ref p) (upd H2 p (.dK (xI [] kvs)))
theorem zfA{keys:List (Option Expr)}{values:List Expr}{trs:List (TE×TE)}(h:PPs X pos keys values trs)(hall:keys.all (·.isSome)=true)(hl:keys.length=values.length)(h0:keys≠[])
  (h15:keys.length<=15):PE X (.Dict keys values pos) (zet trs):=by
 intro pins s σ H Q I q;have hn:=I.hok.fresh (Nat.le_refl s.heap.objs.size);have I1:=I.laid (a:=s.heap.objs.size) (o:=.dK []) (h':=s.heap.push { cls:=.type "dict",data:=.dict #[] }) (t':=s.toks) (λ_ _ q=>Heap.get?_push_of_some _ q) (Nat.le_refl _) (zcP s.heap I.big);refine wpAny_Dict_walk (knd:=yk X.prog X.w) hall hl h0 h15 (thn (h pins _ σ _ _ I1 (q _ hn)) λws s2 ⟨ps,H2,I2,rel,e,kvs,ep,lk,q2⟩=>?_);subst ep;obtain⟨rs,c,rk⟩:=Yh (P:=X.prog) (w:=X.w) rel;obtain⟨z,hd,vs0,r0,dd⟩:=jx I2.hok e;cases r0;refine⟨rs,c,dd,λh' dd' hs=>⟨.ref s.heap.objs.size,_,?_,rfl,q2⟩⟩;have hz:(xI [] kvs).length<=sizeLine:=by
  have h1:=uk kvs [];rw[List.length_nil]at h1;rw[sizeLine_eq];omega
 have he:∃q,h'.get? s.heap.objs.size=some q:=let⟨q,_,_,hq,_⟩:=dd';⟨q,hq⟩
 exact ja I2 (by rw[e];exact True.intro) hs he (ke hz hd (rk.merge .nil) dd')
structure M2 (X:Cx) (o:Expr) (m:Str) (apos:Pos) (e f:Expr) (cpos:Pos):Prop where
  base:attributeBase o m X.env (eval o X.env)=eval o X.env
  few:((backTo cpos (starEach [e,f] X.env)).all (fun x=>!x.1) && (backToKw cpos (keywordEach [] X.env)).all (fun x=>x.1.isSome)
    && decide (([e,f]:List Expr).length+([]:List Keyword).length+(if([]:List Keyword).isEmpty then 0 else 1)<30))=true
  line:(apos.endLine==cpos.line)=true
  trees:backTo cpos (starEach [e,f] X.env)=[(false,eval e X.env),(false,eval f X.env)]
noncomputable def IsD(H:Hp)(a:Addr):Prop:=(∃kvs,Rd H a (.dK kvs))\/∃kvs,Rd H a (.dT kvs)
theorem zaT(I:Inv X pins σ H s)(d:IsD H a) :
  s.TypeIs (.ref a) "dict"/\(∀b,Value.ref a=.ref b->∃ob,s.heap.get? b=some ob/\ob.dict=none)/\(a==sysModules)=false:=by
 rcases d with⟨kvs,e⟩|⟨kvs,e⟩
 .obtain⟨_,hd,vs,_,dd⟩:=Kh I.hok e
  refine⟨dd.typeIs,λb q=>?_,hd⟩;cases q;obtain⟨ob,_,_,h1,h2,_⟩:=dd;exact⟨ob,h1,h2.2.1⟩
 .obtain⟨_,hd,xs,_,dd⟩:=Ki I.hok e
  refine⟨dd.typeIs,λb q=>?_,hd⟩;cases q;obtain⟨ob,_,_,h1,h2,_⟩:=dd;exact⟨ob,h1,h2.2.1⟩
section
variable {y d:V}{r:Value}{o:Option V}
theorem zhM(hu:A.units+1<cLine)(I:Inv X pins σ H s)(g:V8 H a y o)(ry:RelV y u)(rd:RelV d r)(h:∀w' s',Inv X pins σ H s'->RelV (o.getD d) w'->Q w' s') :
  wpAny (model X.prog X.w) A (call (.builtin "dict.get") [.ref a,u,r]) Q E s:=by
 rcases g with⟨kvs,k,e,ey,l⟩|⟨kvs,k,b,e,ey,eb,l⟩
 .subst ey
  obtain⟨z,hd,vs,rel,dd⟩:=Kh I.hok e;refine call_meetsIn PySem.F.slot_dict_get dd.typeIs PySem.F.entry_dict_get (PySem.F.args_dict_get_3 _ _ _) (meets_dict_get_default (yk X.prog X.w) a (jw ry) hd r) ⟨_,dd.mapOf,h _ _ (I.tok _) ?_⟩;rw[l];exact(rel.val k).getD rd
 .subst ey
  cases(show u=Value.ref b from ry);obtain⟨z,hd,xs,rel,dd⟩:=Ki I.hok e;refine call_meetsIn PySem.F.slot_dict_get dd.typeIs PySem.F.entry_dict_get (PySem.F.args_dict_get_3 _ _ _) (meetsH_dict_get_default (tupleKind (yk X.prog X.w)) a b hd r) ⟨tupleKind_room_in1 hu,k,xs,V7 I.hok eb,dd,h _ _ (I.tok _) ?_⟩;rw[l];exact(rel.val k).getD rd
end
noncomputable def zaU(td ty tx:TE):TE:=λσ H Q=>td σ H λx H1=>∃a,x=.ref a/\IsD H1 a/\ty σ H1 λy H2=>tx σ H2 λz H3=>∃o,V8 H3 a y o/\Q (o.getD z) H3
noncomputable def zaV(td ty tx:TE):TE:=λσ H Q=>td σ H λx H1=>∃a,x=.ref a/\IsD H1 a/\ty σ H1 λy H2=>tx σ H2 λz H3=>∃kvs k,H3 a=some (.dK kvs)/\y=kV k/\
 (∀v,y7 kvs k=some v->Q v (upd H3 a (.dK (jt kvs k))))/\(y7 kvs k=none->Q z H3)
section
variable {o f:Expr}{apos cpos:Pos}{td ty tx:TE}
theorem zcQ(hu:X.A.units+1<cLine)(ho:PE X o td)(he:PE X e ty)(hf:PE X f tx)(m:M2 X o "get" apos e f cpos):PE X (.Call (.Attribute o "get" apos) [e,f] [] cpos) (zaU td ty tx):=by
  intro pins s σ H Q I h;refine wpAny_Call_method m.base m.few m.line PySem.F.plainAttrs_dict PySem.F.slot_dict_get PySem.F.type_dict_get (thn (ho pins s σ H _ I h) λu s1 ⟨x,H1,I1,rx,a,ex,d,q1⟩=>?_);subst ex;obtain rfl:u=Value.ref a:=rx;obtain⟨t1,t2,_⟩:=zaT I1 d;refine⟨t1,t2,?_⟩;rw[m.trees];refine Calls.callWith_builtin rfl (Calls.evalArgs_plain (Calls.spliced_cons (thn (he pins s1 σ H1 _ I1 q1) fun iv s2 ⟨y,H2,I2,ry,q2⟩=>
    Calls.spliced_cons (thn (hf pins s2 σ H2 _ I2 q2) λfv s3 ⟨z,H3,I3,rz,ov,g,q3⟩=>Calls.spliced_nil ?_))))
  exact zhM hu I3 g ry rz λw' s4 I4 rw'=>⟨_,H3,I4,rw',q3⟩
theorem zcR(ho:PE X o td)(he:PE X e ty)(hf:PE X f tx)(m:M2 X o "pop" apos e f cpos):PE X (.Call (.Attribute o "pop" apos) [e,f] [] cpos) (zaV td ty tx):=by
  intro pins s σ H Q I h;refine wpAny_Call_method m.base m.few m.line PySem.F.plainAttrs_dict PySem.F.slot_dict_pop PySem.F.type_dict_pop (thn (ho pins s σ H _ I h) λu s1 ⟨x,H1,I1,rx,a,ex,d,q1⟩=>?_);subst ex;obtain rfl:u=Value.ref a:=rx;obtain⟨t1,t2,_⟩:=zaT I1 d;refine⟨t1,t2,?_⟩;rw[m.trees];refine Calls.callWith_builtin rfl (Calls.evalArgs_plain (Calls.spliced_cons (thn (he pins s1 σ H1 _ I1 q1) fun iv s2 ⟨y,H2,I2,ry,q2⟩=>
    Calls.spliced_cons (thn (hf pins s2 σ H2 _ I2 q2) λfv s3 ⟨z,H3,I3,rz,kvs,k,ea,ey,q3,q4⟩=>Calls.spliced_nil ?_))))
  subst ey;cases l:y7 kvs k with
  |some v=>exact zjS I3 ea ry l (.inr ⟨fv,rfl⟩) λw' s4 I4 rw'=>⟨v,_,I4,rw',q3 v l⟩
  |none=>exact zhL I3 ea ry l λs4 I4=>⟨z,H3,I4,rz,q4 l⟩
end
section
variable {y:V}
end
end L2
namespace PySem
theorem Vd:typeLookup (.type "list") "keys" =pure none:=by rw[typeLookup_type,builtinLookup_eq_fast];kernel_rfl
theorem jb:entryFor table "dict.update.loop" =some Builtin.«dict.update.loop»:=entryFor_of_tree (by kernel_rfl)
theorem xP:plainId "dict.update.loop" =true:=by decide +kernel
section
variable {w:World}
theorem QW{o:Obj}{xs:Array Value}{k:Nat}{Q:Option Value->Shared->Prop}
  (hx:s.heap.get? a=some o)(hc:o.cls=.type "list")(hdat:o.data=.seq xs k)(hd:o.dict=none)(hA:A.handled=none)
  (h:∀h' tk,(∀b u,s.heap.get? b=some u->h'.get? b=some u)->Q none { s with heap:=h',toks:=tk }) :
  wpAny (model prog w) A (getAttr? (.ref a) "keys") Q E s:=by
 obtain⟨c,dct,dat,sl⟩:=o;simp only at hc hdat hd;subst hc hdat hd;obtain⟨hp,g,d,tk,os⟩:=s;have hT:∀tk',(⟨hp,g,d,tk',os⟩:Shared).TypeIs (.ref a) "list":=λ_=>⟨_,hx,rfl⟩;have f1:=sub_AttributeError;have f3:=F.slot_list_getattribute.lookup;have f4:=F.slot_list_getattribute.bind (.ref a);have f5:=am_list_getattr_none;have hname:(["__module__","__name__","__qualname__","__doc__","__annotations__"]:List Str).contains "keys" =false:=by decide
 unfold getAttr? getAttrBy? getAttrBy
 repeat(any_goals (first|assumption|exact hT _|((with_reducible show wpAny _ _ (call (Value.builtin "list.__getattribute__") _ _) _ _ _);refine call_meets F.slot_list_getattribute (hT _) am_entry_list_getattribute (F.args_list_getattribute_2 _ _) (meets_getattribute_miss_list a xs k sl "keys" _ Vd hname (by decide)) ⟨hx,hA,λh' tk' e hx'=>?_⟩)|wp_step))
 obtain⟨t',u',he⟩:=hx'.there;show wpAny _ _ (getattributeRaised _ _ _ _ _ _ _) _ _ _;unfold getattributeRaised
 repeat(any_goals (first|assumption|wp_step))
 exact h _ _ hx'.keeps
end
section
variable {w:World}{K:Type}[DecidableEq K]{knd:KeyKind prog w K}
theorem zcS(hh:A.handled=none){d it l:Addr}{items:Array Value}{r:Value}{R:Result->Shared->Prop}(hdi:d≠it)(hdl:d≠l)(hil:it≠l) :
  ∀(more:List (K×Value)) (i:Nat) (s:Shared) (kvs:List (K×Value)),i+more.length=items.size->s.heap.DictOf knd d kvs->s.heap.IsListIter it l i->s.heap.IsList l items->
   (∀(j:Nat) kv,more[j]? =some kv->∃t key,items[i+j]? =some (.ref t)/\t≠d/\t≠it/\PyProof.Rows.IsTup s.heap t #[key,kv.2]/\knd.is kv.1 key=true)->kvs.length+more.length<=sizeLine->
   (∀h' tk,h'.DictOf knd d (merged kvs more)->(∀c o,c≠d->c≠it->s.heap.get? c=some o->h'.get? c=some o)->R (.ok (.ret r)) { s with heap:=h',toks:=tk })->
   codeAny (model prog w) A (.builtin "dict.update.loop" ⟨[.ref d,.ref it,rawInt i,r],[]⟩) R s:=by
 intro more
 induction more with
 |nil=>
  intro i s kvs hi hd hit hl hp hz hR;refine codeAny_builtin jb ?_;rw[Around.under_plainId xP _];show wpAny _ A.in1 (pyNext (.ref it) >>= _) _ _ _;refine wpAny_bind (wpAny_pyNext_list_end (A:=A.in1) hh hit hl (by simp at hi;simp;omega) λh' eb=>?_);show wpAny _ _ (Builtin.Dict.addKeywords d [] >>= _) _ _ _;exact wpAny_bind (wpAny_pure (wpAny_pure (hR h' s.toks (hd.extBut eb hdi) λc o _ hc q=>eb c o hc q)))
 |cons kv more ih=>
  intro i s kvs hi hd hit hl hp hz hR;obtain⟨t,key,hx,htd,hti,⟨o,ho,hc,n,hdat⟩,hk⟩:=hp 0 kv rfl;refine codeAny_builtin jb ?_;rw[Around.under_plainId xP _];show wpAny _ A.in1 (pyNext (.ref it) >>= _) _ _ _;refine wpAny_bind (wpAny_pyNext_list_item hit hl (x:=.ref t) (by simpa using hx) λh1 hit1 sb1=>?_);have ho1:h1.get? t=some o:=(sb1.2 t hti).trans ho;show wpAny _ _ (holding [.ref t] _ >>= _) _ _ _;refine wpAny_bind (wpAny_holding ?_);refine wpAny_bind (wpAny_tryCatch ?_);unfold Builtin.Dict.pairItems;refine wpAny_bind (wpAny_typeOf (T:="tuple") ⟨o,ho1,hc⟩ ?_);rw[if_pos (by decide)];refine wpAny_bind (wpAny_seqItems ho1 hdat ?_);refine wpAny_pure ?_;show wpAny _ _ (holding [key,kv.2] (dictSet d key kv.2)) _ _ _;refine wpAny_holding (wpAny_dictSet_pairs hk (hd.sameBut sb1 hdi) (λh2 hd2 sb2=>?_) (by simp at hz;omega));show wpAny _ _ (again (.builtin "dict.update.loop" ⟨[.ref d,.ref it,rawInt ((i:Int)+1),r],[]⟩)) _ _ _;have ei:((i:Int)+1)=(((i+1:Nat)):Int):=by omega
  rw[ei];have keep:∀c o,c≠d->c≠it->s.heap.get? c=some o->h2.get? c=some o:=λc o h3 h4 q=>(sb2.2 c h3).trans ((sb1.2 c h4).trans q);refine wpAny_pure ⟨plainId_quiet xP _,ih (i+1) _ (stored kvs kv.1 kv.2) (by simp at hi;omega) hd2 ?_ ?_ (λj kv' hj=>?_) ?_ λh3 tk hd3 k3=>?_⟩
  .obtain⟨oi,hoi,r1⟩:=hit1
   exact⟨oi,(sb2.2 it (Ne.symm hdi)).trans hoi,r1⟩
  .obtain⟨ol,hol,r1⟩:=hl
   exact⟨ol,keep l ol (Ne.symm hdl) (Ne.symm hil) hol,r1⟩
  .obtain⟨t',key',h1',h2',h3',⟨o',ho',r'⟩,h5'⟩:=hp (j+1) kv' (by simpa using hj)
   refine⟨t',key',?_,h2',h3',⟨o',keep t' o' h2' h3' ho',r'⟩,h5'⟩;rw[<-h1']
   congr 1
   omega
  .have:=stored_length_le kvs kv.1 kv.2
   simp at hz;omega
  .exact hR h3 tk hd3 λc o h4 h5 q=>k3 c o h4 h5 (keep c o h4 h5 q)
theorem zcT(hh:A.handled=none){l:Addr}{o:Obj}{items:Array Value}(ho:s.heap.get? l=some o)(hc:o.cls=.type "list")(hdat:o.data=.seq items n)(hnd:o.dict=none){more:List (K×Value)}(hlen:more.length=items.size)
  (hp:∀(j:Nat) kv,more[j]? =some kv->∃t key,items[j]? =some (.ref t)/\PyProof.Rows.IsTup s.heap t #[key,kv.2]/\knd.is kv.1 key=true)(hz:more.length<=sizeLine)
  (h:∀h' tk,h'.DictOf knd s.heap.objs.size (merged [] more)->(∀c o,s.heap.get? c=some o->h'.get? c=some o)->Q (.ref s.heap.objs.size) { s with heap:=h',toks:=tk }) :
  wpAny (model prog w) A (call (.type "dict") [.ref l]) Q E s:=by
 refine callType_codes (Q₁:=λobj s₁=>obj=.ref s.heap.objs.size/\s₁= { s with heap:=s.heap.push { cls:=.type "dict",data:=.dict #[] } }) F.kt_called_dict (F.kt_typeCall_dict_1 _) F.entry_dict_init (kt_code_dict_new _ ⟨rfl,rfl⟩) ?_;rintro obj s₁ ⟨rfl,rfl⟩;have hnew:(s.heap.push { cls:=.type "dict",data:=.dict #[] }).DictOf knd s.heap.objs.size []:=Heap.DictOf.new s.heap;refine⟨hnew.typeIs,F.args_dict_init_2 _ _,?_⟩;have ho1:(s.heap.push { cls:=.type "dict",data:=.dict #[] }).get? l=some o:=Heap.get?_push_of_some _ ho;refine wpAny_bind ?_;unfold Builtin.Dict.selfAndRest;refine wpAny_bind (wpAny_notOrdered_dict hnew.typeIs ?_);refine wpAny_pure ?_;show wpAny _ _ (Builtin.Dict.updateFrom "dict.__init__" s.heap.objs.size (.ref l) [] .none) _ _ _;unfold Builtin.Dict.updateFrom;refine wpAny_bind (wpAny_typeOf (T:="list") ⟨o,ho1,hc⟩ ?_);rw[if_pos (by decide)];refine wpAny_bind (QW (A:=A.in1.in1) ho1 hc hdat hnd hh λh1 tk k1=>?_);rw[if_pos (by rfl)];refine wpAny_bind (wpAny_rule ?_);have ho2:h1.get? l=some o:=k1 _ _ ho1;refine wpAny_bind (wpAny_pyIter_list (items:=items) ⟨o,ho2,hc,n,hdat⟩ ?_);have hlt:s.heap.objs.size<h1.objs.size:=Heap.lt_size (k1 _ _ (Heap.get?_push_size s.heap (o:={ cls:=.type "dict",data:=.dict #[] }) rfl));have hl0:l<s.heap.objs.size:=Heap.lt_size ho;obtain⟨od,es,ep,hod,rd⟩:=hnew;have kk:∀c u,s.heap.get? c=some u->(h1.push { cls:=.type "list_iterator",data:=.fields #[.ref l,.int 0 0] }).get? c=some u:=λc u q=>Heap.get?_push_of_some _ (k1 _ _ (Heap.get?_push_of_some _ q));refine wpAny_pure ⟨plainId_quiet xP _,zcS (knd:=knd) (A:=A.in1) (d:=s.heap.objs.size) (it:=h1.objs.size) (l:=l) (items:=items) hh (Nat.ne_of_lt hlt) (Nat.ne_of_gt hl0) (Nat.ne_of_gt (Nat.lt_trans hl0 hlt)) more 0 _ [] (by rw[hlen];omega) ?_ ?_ ?_ (λj kv hj=>?_) (by simpa using hz) λh' tk' hd' k'=>⟨rfl,?_⟩⟩
 .exact⟨od,es,ep,Heap.get?_push_of_some _ (k1 _ _ hod),rd⟩
 .exact⟨_,Heap.get?_push_size _ rfl,rfl,rfl⟩
 .exact⟨o,Heap.get?_push_of_some _ ho2,hc,n,hdat⟩
 .obtain⟨t,key,e1,⟨ot,e2,r2⟩,e3⟩:=hp j kv hj
  have ht:t<s.heap.objs.size:=Heap.lt_size e2;exact⟨t,key,by simpa using e1,Nat.ne_of_lt ht,Nat.ne_of_lt (Nat.lt_trans ht hlt),⟨ot,kk _ _ e2,r2⟩,e3⟩
 .exact h h' tk' hd' λc u q=>k' c u (Nat.ne_of_lt (Heap.lt_size q)) (Nat.ne_of_lt (Nat.lt_trans (Heap.lt_size q) hlt)) (kk c u q)
end
end PySem
namespace PySem
open PySem PySem.W PySem.Calls PyProof.Rows
section
variable {w:World}{T:String}{r d:Addr}{P:Nat->Value->Prop}{OK:Heap->Prop}
theorem Ua:∀(vs:List Value) (ns:List Int),vs.length=ns.length->(∀(j:Nat) v,vs[j]? =some v->∃i t,v=Value.int i t/\ns[j]? =some i)->PyProof.Rows.IntsAre vs ns
 |[],[],_,_=>.nil
 |v::vs,i::ns,e,h=>by
  obtain⟨k,t,rfl,hk⟩:=h 0 v rfl;cases hk;exact .cons _ t (Ua vs ns (by simpa using e) λj v hj=>h (j+1) v (by simpa using hj))
theorem zfB(C:KdlSrc prog w T r d n P OK)(hh:A.handled=none)(hok:OK s.heap)(hn:n<=sizeLine){ns:List Int}(hns:ns.length=n)(h64:n<64)(hP:∀(j:Nat) v,P j v->∃i t,v=Value.int i t/\ns[j]? =some i)
  (h:∀(h1 h':Heap) (tk:Nat) (out:Array Value) (ns':List Int) (e:Nat),PyProof.Rows.IntsAre out.toList ns'->ns'.Perm ns->ns'.Pairwise (·<=·)->(∀b o,s.heap.get? b=some o->h1.get? b=some o)->(∀b o,h1.get? b=some o->h'.get? b=some o)->h'.get? h1.objs.size=some (seqObj "list" out e)->Q (.ref h1.objs.size) { s with heap:=h',toks:=tk }) :
  wpAny (model prog w) A (call (.builtin "sorted") [.ref r]) Q E s:=by
 refine call_function_entry kind_sorted plain_sorted entry_sorted (args_sorted1 _) ?_;unfold Builtin.«sorted»;refine wpAny_bind (m:=checkCount "sorted" 1 1 _) (wpAny_pure ?_);refine wpAny_bind (kdu_collect (A:=A.in1) C hh hok hn λh1 tk acc hk hacc=>?_);have hl:acc.toList.length=n:=by rw[Array.length_toList];exact hacc.1
 refine wpAny_bind (wpAny_newList ?_ (by rw[hl];exact hn));have hoL:(h1.push (seqObj "list" acc.toList.toArray 0)).get? h1.objs.size=some (seqObj "list" acc.toList.toArray 0):=Heap.get?_push_size _ rfl;have hI:PyProof.Rows.IntsAre acc.toList ns:=Ua _ _ (by rw[hl,hns]) λj v hj=>hP j v (hacc.2 j v (by rw[<-Array.getElem?_toList];exact hj));refine wpAny_bind (wpAny_holding (wpAny_call_entry slot_list_sort ⟨_,hoL,rfl⟩ entry_list_sort (list_sort_tree hoL hI (by rw[hl];exact h64) λout ns' a1 a2 a3=>⟨_,rfl,?_⟩) (args_list_sort _)));obtain⟨e,he⟩:=sortedHeap_at (out:=out) hoL;exact wpAny_pure ⟨_,rfl,h h1 _ tk out ns' e a1 a2 a3 hk (λb o q=>by rw[sortedHeap_old (Nat.ne_of_lt (Heap.lt_size q)) (by rw[size_push'];exact Nat.lt_succ_of_lt (Heap.lt_size q))];exact Heap.get?_push_of_some _ q) he⟩
end
end PySem
namespace L2
open PySem PySem.Spec PyProof.Rows
theorem Inv.turnedL{h':Heap}{t':Nat}{fp:List Addr}(I:Inv X pins σ H s)(k:∀b o,b∉fp->s.heap.get? b=some o->h'.get? b=some o)
  (hf:∀b∈fp,FpOk X pins H b):Inv X pins σ H { s with heap:=h',toks:=t' }:=by
 have nit:∀b u,H b=some u->b∉fp:=λb u e z=>by rw[(hf b z).1]at e;cases e
 refine I.step (g':=s.gens) (d':=s.drawn) (ch:=fp) (λb hb=>?_) (λb o _ _ hc e _=>k b o hc e) (λb o _ _ hc e _=>⟨o.slots,k b o hc e⟩) (λ_ _ _ _ n=>n)
  (λb o hc e=>⟨o,k b o hc e⟩) (λ_ _ e=>e) (λ_ _ _ e=>e) (λb ps e=>⟨#[],by rw[e];simp⟩) (λm hm=>?_) (λb u e=>?_) I.bare
 .obtain⟨f0,f1,f2,f3,f4,f5⟩:=hf b hb
  exact⟨f3,f1,f4,f5⟩
 .obtain⟨o,es,ep,ho,r⟩:=hm
  exact⟨o,es,ep,k _ o (λz=>(hf _ z).2.1 rfl) ho,r⟩
 .refine(I.hok b u e).stay (λc v hc q=>k c v ?_ q) (λ_ q=>q) λ_ _ q=>q
  rcases hc with z|z
  .rw[z];exact nit b u e
  .exact nit c _ z
noncomputable def Ite(K:W.Frag)(a:Addr):It:=
 ⟨λi H=>∃xs x,SqL K H a xs/\xs[i]? =some x,λi H x H'=>∃t y,x=.ref t/\H t=none/\H'=upd H t (.tup [.int i,y])/\∀xs,SqL K H a xs->xs[i]? =some y,λi H=>∃xs,SqL K H a xs/\xs.length<=i⟩
theorem zaW{w:World}{k:Nat}(a e it:Addr)(hne:e≠it) :
    Turn P w K (.Tuple es k pos) (Ite K a) [e,it] e (λi h=>(∃old,IsEnum h e it (i:Nat) old)/\h.IsListIter it a i) where
  mem:=by simp
  obj:=λi h st b hb=>by
    obtain⟨⟨old,he⟩,o,e1,c,d⟩:=st;have hb':b=e\/b=it:=by simpa using hb
    rcases hb' with rfl|rfl
    · exact⟨_,he,fun v z=>by
        have z':Data.fields _=Data.cell v:=z;cases z'⟩
    · exact⟨o,e1,λv z=>by rw[d]at z;cases z⟩
  keep:=λi h h' st k=>⟨st.1.elim λold he=>⟨old,k e (by simp) _ he⟩,st.2.at λo q=>k it (by simp) o q⟩
  item:=by
    intro X hP hw hK hc i pins s σ H E I hf st hg;subst hP hw hK;obtain⟨⟨old,he⟩,hit⟩:=st;obtain⟨xs,x,hq,hx⟩:=hg;obtain⟨its,rv,p,hz⟩:=I.list hq;obtain⟨u,hu,ru⟩:=rv.get hx;refine wpAny_pyNext_enum_item he hit p.isList (x:=u) (by simpa using hu) hne λh' he' hit' ht hsz kk=>?_;refine⟨_,rfl,wpAny_letOwnedTupleGo_enum he' λh2 he2 sb=>?_⟩;have hn:=I.hok.fresh (Nat.le_refl s.heap.objs.size);have I1:Inv X pins σ (upd H s.heap.objs.size (.tup [.int i,x])) { s with heap:=s.heap.push { cls:=.type "tuple",data:=.seq [Value.int i s.toks,u].toArray },toks:=s.toks+1 }:=
      I.laid (λb o e=>Heap.get?_push_of_some _ e) (Nat.le_refl _) ⟨by show 2<=sizeLine;decide,[Value.int i s.toks,u],.cons ⟨_,rfl⟩ (.cons ru .nil),IsTup.new s.heap _⟩
    have lt:∀b∈[e,it],b≠s.heap.objs.size:=λb hb=>by
      have hb':b=e\/b=it:=by simpa using hb
      rcases hb' with rfl|rfl
      · exact Nat.ne_of_lt (Heap.lt_size he)
      · obtain⟨o,e1,_⟩:=hit
        exact Nat.ne_of_lt (Heap.lt_size e1)
    have nt:∀b∈[e,it],upd H s.heap.objs.size (.tup [.int i,x]) b=none:=λb hb=>by rw[zv (lt b hb)];exact(hf b hb).1
    have I2:=I1.turnedL (h':=h2) (t':=s.toks+1) (fp:=[e,it]) (fun b o hb q=>by
      have h1:b≠e:=λz=>hb (by simp[z]);have h2':b≠it:=λz=>hb (by simp[z]);by_cases hbz:b=s.heap.objs.size
      · subst hbz
        have q':(s.heap.push { cls:=.type "tuple",data:=.seq #[Value.int i s.toks,u] }).get? s.heap.objs.size=some o:=q;rw[Heap.get?_push_size s.heap (o:={ cls:=.type "tuple",data:=.seq #[Value.int i s.toks,u] }) rfl]at q';exact(sb.2 _ h1).trans (ht.trans q')
      · have q':(s.heap.push { cls:=.type "tuple",data:=.seq #[Value.int i s.toks,u] }).get? b=some o:=q
        rw[Heap.get?_push_ne _ _ _ hbz]at q';exact(sb.2 b h1).trans (kk b o h1 h2' q')) λb hb=>⟨nt b hb,(hf b hb).2⟩
    have ei:((i:Int)+1)=(((i+1:Nat)):Int):=by omega
    refine⟨.ref s.heap.objs.size,_,I2,rfl,⟨_,x,rfl,hn,rfl,λys hy=>by rw[I.list_inj hy hq];exact hx⟩,⟨⟨_,ei▸he2⟩,hit'.at λo q=>(sb.2 it (Ne.symm hne)).trans q⟩,nt⟩
  done:=by
    intro X hP hw hK hc i pins s σ H E I hf st hg;subst hP hw hK;obtain⟨⟨old,he⟩,hit⟩:=st;obtain⟨xs,hq,hx⟩:=hg;obtain⟨its,rv,p,hz⟩:=I.list hq;have hl:=rv.length;obtain⟨f0,f1,f2,f3,f4,f5⟩:=hf it (by simp);exact wpAny_pyNext_enum_end (I.ok.hd hc) he hit p.isList (by simp;omega) λh' eb=>⟨rfl,I.turned (t':=s.toks) (λb o hb e=>eb b o hb e) f0 f1 f3 f4 f5⟩
  self:=λ_ _ _ _ _ st h=>st.1.elim λold he=>wpAny_pyIter_enum he h
noncomputable def Kj(K:W.Frag)(ta:TA):TI:=λσ H R=>ta σ H λvs H1=>∃a,vs=[.ref a]/\(∃xs,SqL K H1 a xs)/\R (Ite K a) H1
theorem zfC{k:Nat}{tp:Pos}{l:Expr}{ta:TA}{p:Pos}(hg:Gl X "enumerate")(hm:X.mg "enumerate" =none)(ha:PA X [l] ta)(hs:starEach [l] X.env=[(false,eval l X.env)]:=by rfl) :
  PI X (.Tuple es k tp) (.Call (.Name "enumerate" p) [l] [] pos) (Kj X.K ta):=by
 intro pins s σ H R I h;refine Call_ (vX I hg hm boot_enumerate (PyProof.Rows.callWith_type1 (thn (ha pos pins s σ H _ I h) λus s1 ⟨vs,H1,I1,r1,q1⟩=>?_) hs rfl));obtain⟨a,e,⟨xs,hq⟩,q⟩:=q1;subst e;cases r1 with
 |cons r rr=>
  cases rr;cases r;obtain⟨its,rv,p,hz⟩:=I1.list hq;refine call_enumerate_list p.isList λh' hE hI hsz hk=>wpAny_pyIter_enum hE ?_;refine⟨s1.heap.objs.size+1,[s1.heap.objs.size+1,s1.heap.objs.size],_,_,H1,rfl,I1.kept (t':=s1.toks) hk,zaW a _ _ (Nat.succ_ne_self _),⟨⟨_,hE⟩,hI⟩,λb hb=>?_,q⟩;have hb':b=s1.heap.objs.size+1\/b=s1.heap.objs.size:=by simpa using hb
  rcases hb' with rfl|rfl
  .exact I1.fpOk (Nat.le_succ _) (I1.hok.fresh (Nat.le_succ _))
  .exact I1.fpOk (Nat.le_refl _) (I1.hok.fresh (Nat.le_refl _))
noncomputable def zhN(lo c:Int)(n:Nat):It:=⟨λi _=>i<n,λi H x H'=>H'=H/\x=.int (lo+(i:Nat)*c),λi _=>n<=i⟩
theorem QX{w:World}(it:Addr)(lo c:Int)(n:Nat):Turn P w K tg (zhN lo c n) [it] it (λi h=>IsRangeIter h it (lo+(i:Nat)*c) ((n:Int)-(i:Nat)) c) where
 mem:=by simp
 obj:=λi h st b hb=>by
  have e:b=it:=by simpa using hb
  subst e;exact⟨_,st,fun v z=>by
   have z':Data.fields _=Data.cell v:=z;cases z'⟩
 keep:=λi h h' st k=>k it (by simp) _ st
 item:=by
  intro X hP hw hK hc i pins s σ H E I hf st hg;subst hP hw hK;obtain⟨f0,f1,f2,f3,f4,f5⟩:=hf it (by simp);have W:=Walks.range (prog:=X.prog) (w:=X.w) (I.ok.hd hc) it lo c n;refine W.item i s _ _ hg st λv h' tk hv st' kk=>?_;obtain⟨t,rfl⟩:=hv;have I1:Inv X pins σ H { s with heap:=h',toks:=tk }:=I.turned (λb o hb e=>kk b o (by simpa using hb) e) f0 f1 f3 f4 f5;exact⟨_,rfl,Ze (s:={ s with heap:=h',toks:=tk }) (n:="range_iterator") st' rfl rfl (by decide) ⟨.int (lo+(i:Nat)*c),H,I1,⟨t,rfl⟩,⟨rfl,rfl⟩,st',λb hb=>(hf b hb).1⟩⟩
 done:=by
  intro X hP hw hK hc i pins s σ H E I hf st hg;subst hP hw hK;obtain⟨f0,f1,f2,f3,f4,f5⟩:=hf it (by simp);exact wpAny_pyNext_range_end (I.ok.hd hc) st (by have:n<=i:=hg;omega) λh' eb=>⟨rfl,I.turned (t':=s.toks) (λb o hb e=>eb b o hb e) f0 f1 f3 f4 f5⟩
 self:=λ_ _ _ _ _ st h=>wpAny_pyIter_rangeiter st h
noncomputable def R3(i j c:Int)(n:Nat):Prop:=c≠0/\Builtin.Range.small i j c=true/\Builtin.Range.rangeSize i j c=n/\Builtin.divisionGoesByPylong (j-i) c=false
noncomputable def zeu(ta:TA):TI:=λσ H R=>ta σ H λvs H1=>∃(i j c:Int) (n:Nat),vs=[.int i,.int j,.int c]/\R3 i j c n/\R (zhN i c n) H1
theorem zaX{a b c:Expr}{ta:TA}{p:Pos}(hg:Gl X "range")(hm:X.mg "range" =none)(ha:PA X [a,b,c] ta)(hs:starEach [a,b,c] X.env=(false,eval a X.env)::starEach [b,c] X.env:=by rfl)
  (hs2:(backTo pos (starEach [b,c] X.env)).any (·.1)=false:=by rfl):PI X tg (.Call (.Name "range" p) [a,b,c] [] pos) (zeu ta):=by
 intro pins s σ H R I h;refine Call_ (vX I hg hm boot_range (PyProof.Rows.callWith_type1 (thn (ha pos pins s σ H _ I h) λus s1 ⟨vs,H1,I1,r1,q1⟩=>?_) hs hs2));obtain⟨i,j,k,n,e,⟨k0,sm,sz,dv⟩,q⟩:=q1;subst e;cases r1 with
 |cons r rr=>
  cases rr with
  |cons r' rr=>
   cases rr with
   |cons r2 rr=>
    cases rr;obtain⟨t,rfl⟩:=r;obtain⟨t',rfl⟩:=r';obtain⟨t2,rfl⟩:=r2;refine call_range_3 k0 ?_ (.inl dv);refine wpAny_pyIter_range (IsRange.new ..) sm ?_;have I2:Inv X pins σ H1 { s1 with heap:=s1.heap.push { cls:=.type "range",data:=.fields #[.int i t,.int j t',.int k t2] } }:=I1.kept (t':=s1.toks) λb o e=>Heap.get?_push_of_some _ e;refine⟨_,[(s1.heap.push { cls:=.type "range",data:=.fields #[.int i t,.int j t',.int k t2] }).objs.size],_,_,H1,rfl,I2.kept (t':=s1.toks) λb o e=>Heap.get?_push_of_some _ e,QX _ i k n,?_,λb hb=>?_,q⟩
    .have e1:i+((0:Nat):Int)*k=i:=by simp
     have e2:((n:Nat):Int)-((0:Nat):Int)=Builtin.Range.rangeSize i j k:=by rw[sz];simp
     show IsRangeIter _ _ (i+((0:Nat):Int)*k) (((n:Nat):Int)-((0:Nat):Int)) k;rw[e1,e2];exact Heap.get?_push_size _ rfl
    .have e:b=(s1.heap.push { cls:=.type "range",data:=.fields #[.int i t,.int j t',.int k t2] }).objs.size:=by simpa using hb
     subst e;exact I2.fpOk (Nat.le_refl _) (I2.hok.fresh (Nat.le_refl _))
noncomputable def zev(K:W.Frag):List V->Hp->VK->Prop:=λxs H Q=>∃d x,xs=[x]/\Rep K H d x/\(isDisplay d && !d.hasDict)=true/\d.showable=true/\d.depth<=60/\d.shown.length<=sizeLine/\Q (.str d.shown) H
theorem Kk(hg:X.A.guards=some [])(hu:X.A.units+64<cLine):yv X (.builtin "repr") (zev X.K):=by
 intro pins s σ H xs us Q I r h;obtain⟨d,x,rfl,h1,h2,h3,h4,h5,q⟩:=h;rw[Bool.and_eq_true]at h2;obtain⟨h2,h0⟩:=h2;obtain⟨u,rfl,ru⟩:=r.one;obtain⟨as,rd⟩:=Rep.reads I d x u h1 ru;obtain⟨a,rfl⟩:=isRef_of_reads rd h2;exact repr_of_reads' rd h3 (λz=>absurd z (by cases hz:d.hasDict<;>simp_all)) hg (by omega) (λ_ _ e=>e) (λh' u tk hk=>⟨.str d.shown,H,I.kept (t':=tk) hk,⟨u,rfl⟩,q⟩) h5
noncomputable def srt(ns:List Int):List Int:=ns.mergeSort λa b=>decide (a<=b)
theorem zhO(ns:List Int):(srt ns).Pairwise (·<=·):=by
 have h:=List.pairwise_mergeSort (le:=λa b:Int=>decide (a<=b)) (λa b c h1 h2=>by simp at h1 h2 ⊢;omega) (λa b=>by simp;omega) ns;exact h.imp λh=>by simpa using h
theorem Ub:∀{a b:List Int},a.Perm b->a.Pairwise (·<=·)->b.Pairwise (·<=·)->a=b
 |[],b,h,_,_=>by
  have:=h.length_eq;cases b with
  |nil=>rfl
  |cons=>cases this
 |x::a,[],h,_,_=>by cases h.length_eq
 |x::a,y::b,h,ha,hb=>by
  have e:x=y:=by
   have h1:x∈y::b:=h.mem_iff.mp (List.mem_cons_self ..);have h2:y∈x::a:=h.mem_iff.mpr (List.mem_cons_self ..);have l1:x<=y:=by
    rcases List.mem_cons.mp h2 with z|z
    .exact Int.le_of_eq z.symm
    .exact(List.pairwise_cons.mp ha).1 y z
   have l2:y<=x:=by
    rcases List.mem_cons.mp h1 with z|z
    .exact Int.le_of_eq z.symm
    .exact(List.pairwise_cons.mp hb).1 x z
   omega
  subst e;rw[Ub (List.Perm.cons_inv h) (List.pairwise_cons.mp ha).2 (List.pairwise_cons.mp hb).2]
theorem zhP{ns ns':List Int}(h1:ns'.Perm ns)(h2:ns'.Pairwise (·<=·)):ns'=srt ns:=Ub (h1.trans (List.mergeSort_perm ns _).symm) h2 (zhO ns)
theorem zfD(ns:List Int):(srt ns).length=ns.length:=(List.mergeSort_perm ns _).length_eq
theorem uV:∀{ns:List Int}{us:List Value},Vals (ns.map V.int) us->IntsAre us ns
 |[],_,h=>by cases h;exact .nil
 |n::ns,_,h=>by
  cases h with
  |cons h1 h2=>
   obtain⟨t,rfl⟩:=h1;exact .cons n t (uV h2)
noncomputable def Kl:List V->Hp->VK->Prop:=λxs H Q=>∃a kvs ns,xs=[.ref a]/\H a=some (.dK kvs)/\kvs.map (·.1)=ns.map (Sum.inl:Int->Key)/\ns.length<64/\∀p,H p=none->Q (.ref p) (upd H p (.lst ((srt ns).map V.int)))
theorem Uc(hc:X.calm=true):yv X (.builtin "sorted") Kl:=by
 intro pins s σ H xs us Q I r h;obtain⟨a,kvs,ns,rfl,e,hk,hl,q⟩:=h;obtain⟨u,rfl,ru⟩:=r.one;cases ru;obtain⟨z,hd,vs,rel,dd⟩:=jx I.hok e;obtain⟨ep,hat⟩:=dd.dictAt;have kk:=rel.keys;rw[hk]at kk;have hlen:ns.length=vs.length:=by have:=congrArg List.length kk;simpa using this
 refine zfB (PySem.W.kdl_dict (knd:=yk X.prog X.w) (kvs:=vs) (ep:=ep) hd) (I.ok.hd hc) hat (by rw[sizeLine_eq];omega) (ns:=ns) hlen (by omega) (λj v hv=>?_) λh1 h' tk out ns' e' a1 a2 a3 k1 k2 hp=>?_
 .obtain⟨k,x,hx,hkv⟩:=hv
  have h2:(vs.map (·.1))[j]? =some k:=by rw[List.getElem?_map,hx];rfl
  rw[<-kk,List.getElem?_map]at h2;cases hn:ns[j]? with
  |none=>rw[hn]at h2;cases h2
  |some i=>
   rw[hn]at h2;have h3:(Sum.inl i:Key)=k:=Option.some.inj h2;subst h3;rcases yE (k:=Sum.inl i) (show qi (Sum.inl i) v=true from hkv)with⟨i',t,e1,e2⟩|⟨x',t,e1,e2⟩
   .cases e1
    exact⟨i,t,e2,rfl⟩
   .cases e1
 .have en:=zhP a2 a3
  subst en;have I1:Inv X pins σ H { s with heap:=h1 }:=I.kept (t':=s.toks) k1;refine⟨.ref h1.objs.size,_,I1.laid (a:=h1.objs.size) (o:=.lst ((srt ns).map V.int)) (t':=tk) k2 (Nat.le_refl _) ⟨?_,out.toList,e',kb a1,?_⟩,rfl,q _ (I1.hok.fresh (Nat.le_refl _))⟩
  .rw[List.length_map,zfD,sizeLine_eq];omega
  .rw[Array.toArray_toList];exact hp
noncomputable def Yi(K:W.Frag)(H:Hp):List V->List (Key×V)->Prop:=Paired λy kv=>∃t,y=.ref t/\SqT K H t [kV kv.1,kv.2]
theorem Yi.keep{H':Hp}{ys:List V}(h:Yi K H ys kvs)(k:∀b xs,SqT K H b xs->SqT K H' b xs):Yi K H' ys kvs:=
 Paired.imp' (λy kv ⟨t,e,q⟩=>⟨t,e,k t _ q⟩) h
noncomputable def zaY(K:W.Frag):List V->Hp->VK->Prop:=λxs H Q=>∃a ys kvs,xs=[.ref a]/\SqL K H a ys/\Yi K H ys kvs/\kvs.length<=1000/\∀p,H p=none->Q (.ref p) (upd H p (.dK (xI [] kvs)))
theorem Km(hc:X.calm=true):yv X (.type "dict") (zaY X.K):=by
 intro pins s σ H xs us Q I r h;obtain⟨a,ys,kvs,rfl,hq,hp,hl,q⟩:=h;obtain⟨u,rfl,ru⟩:=r.one;cases ru;obtain⟨its,rv,⟨o,n,e,c,hnd,dt⟩,hz⟩:=I.list hq;have l1:=Paired.length hp;have l2:=rv.length;have hval:∃ws:List (Key×Value),KV kvs ws/\∀(j:Nat) kv,ws[j]? =some kv->∃t key,its[j]? =some (.ref t)/\IsTup s.heap t #[key,kv.2]/\(yk X.prog X.w).is kv.1 key=true:=by
  clear q dt e hz l1 l2 hq
  induction hp generalizing its with
  |nil=>exact⟨[],.nil,λj kv hj=>by simp at hj⟩
  |@cons y kv ys kvs hy t ih=>
   cases rv with
   |@cons _ w1 _ ws1 r1 r2=>
    obtain⟨ws,k1,k2⟩:=ih (by simp at hl;omega) _ r2;obtain⟨b,rfl,hb⟩:=hy;cases r1;obtain⟨tt,rt,pt,_⟩:=I.tuple hb;cases rt with
    |@cons _ key _ t1 rk t1r=>
     cases t1r with
     |@cons _ v _ t2 rv' t2r=>
      cases t2r;refine⟨(kv.1,v)::ws,.cons ⟨rfl,rv'⟩ k1,λj kv' hj=>?_⟩;cases j with
      |zero=>
       cases hj;obtain⟨ot,e1,e2,_,e3⟩:=pt;exact⟨b,key,rfl,⟨ot,e1,e2,_,e3⟩,jw rk⟩
      |succ j=>
       obtain⟨t',key',g1,g2,g3⟩:=k2 j kv' (by simpa using hj);exact⟨t',key',by simpa using g1,g2,g3⟩
 obtain⟨ws,k1,k2⟩:=hval;have l3:=k1.length;refine zcT (knd:=yk X.prog X.w) (I.ok.hd hc) e c dt hnd (more:=ws) (by simp;omega) (λj kv hj=>?_) (by rw[sizeLine_eq];omega) λh' tk dd kk=>?_
 .obtain⟨t,key,g1,g2,g3⟩:=k2 j kv hj
  exact⟨t,key,by simpa using g1,g2,g3⟩
 .refine⟨.ref s.heap.objs.size,_,I.laid (a:=s.heap.objs.size) (o:=.dK (xI [] kvs)) (t':=tk) kk (Nat.le_refl _) ?_,rfl,q _ (I.hok.fresh (Nat.le_refl _))⟩
  have hz2:(xI [] kvs).length<=sizeLine:=by
   have h1:=uk kvs [];rw[List.length_nil]at h1;rw[sizeLine_eq];omega
  exact ke hz2 (beq_eq_false_iff_ne.mpr (Ne.symm (Nat.ne_of_lt I.big))) (KV.merge k1 .nil) dd
noncomputable def Jz:V->List V->Hp->VK->Prop:=λx vs H Q=>∃a kvs,x=.ref a/\vs=[]/\H a=some (.dK kvs)/\Q .non (upd H a (.dK []))
theorem zaZ:MtR X "dict.clear" Jz:=by
 intro pins s σ H x xs v us Q I rx r h;obtain⟨a,kvs,rfl,rfl,e1,q⟩:=h;cases r;cases rx;exact zfx I e1 λs' I'=>⟨.non,_,I',rfl,q⟩
structure CalM (P:Program) (w:World) (K:W.Frag) (mg:Str->Option Value) (base:Heap) (k:Nat) (x:Str) (C:Addr) (sp:Sp):Prop where
 ex:∃(f:Addr) (fd:FuncData) (ps:List Str),Mk K C f/\FnOk P w K mg base CX0 k f fd ps sp/\mg x=some (.ref C)/\Binds K fd ps []
section
variable {k:Nat}{sp:Sp}{p:Pos}
theorem uc(c:CalM X.prog X.w X.K X.mg X.base k x C sp)(hr:Room (k+1) X.A)(hg:Gl X x)(ha:PA X (e::es) t)(hdb:(x==("__debug__":Str))=false:=by decide)
  (he:starEach (e::es) X.env=(false,eval e X.env)::starEach es X.env:=by rfl)(hpl:(backTo pos (starEach es X.env)).any (·.1)=false:=by rfl):PE X (.Call (.Name x p) (e::es) [] pos) (Yc C sp [] E0 t):=by
 obtain⟨f,fd,ps,M,F,hm,hb⟩:=c.ex;exact zfr M F hr hg hm hb .nil Yf ha hdb he hpl
end
theorem qo{i:Int}(hg:Gl X x)(h:∃t,X.mg x=some (.int i t))(hd:(x==("__debug__":Str))=false:=by decide):PE X (.Name x pos) (tC (.int i)):=by
 obtain⟨t,e⟩:=h;exact uK hg e ⟨t,rfl⟩ hd
noncomputable def cE:Expr->Option V
 |.Constant (.int i) _ _=>some (.int i)
 |.Constant .none _ _=>some .non
 |.Constant (.bool b) _ _=>some (.bl b)
 |.Constant (.str x) _ _=>some (.str x)
 |_=>none
noncomputable def Kn:List Expr->Option (List V)
 |[]=>some []
 |e::es=>match cE e,Kn es with
  |some v,some vs=>some (v::vs)
  |_,_=>none
noncomputable def tCs(vs:List V):TA:=λ_ H Q=>Q vs H
theorem zjU(h:cE e=some v):PE X e (tC v):=by
 unfold cE at h;split at h
 .cases h;exact zc
 .cases h;exact yF
 .cases h;exact yq
 .cases h;exact zk
 .cases h
theorem zfE(h:cE e=some v):V4 e=true:=by
 unfold cE at h;split at h<;>first|rfl|cases h
theorem za0:∀{es:List Expr}{vs:List V},Kn es=some vs->QA X es (tCs vs)
 |[],vs,h=>by
  cases h;exact qn
 |e::es,vs,h=>by
  simp only[Kn]at h;split at h
  .rename_i v ws h1 h2
   cases h;exact qc (zjU h1) (za0 h2) (zfE h1)
  .cases h
theorem Zj(h:Kn es=some vs):PE X (.List es pos) (VT (tCs vs)):=yJ (za0 h)
end L2
namespace L2
open PySem PySem.W PySem.Calls PyProof.Rows
theorem XQ{vs:List Value}{ns:List Int}(hi:IntsAre vs ns):∃xs,vs.toArray=PySem.intItems xs/\ns=xs.toList.map (·.1):=by
 obtain⟨xs,e⟩:=hi.allInts.items;exact⟨xs,e,by rw[<-hi.numsOf,<-nums_intItems,<-e]⟩
end L2
namespace PySem
open PySem PySem.W PySem.Calls PyProof.Rows
section
variable {w:World}{R:Result->Shared->Prop}{I S:Addr}{fp wr:List Addr}{P:Nat->Value->Prop}{St:Nat->Heap->Prop}
noncomputable def Ko(val:Nat->Int)(j:Nat)(v:Value):Prop:=∃b t,b<j/\v=.int (val b) t/\∀i,i<j->val b<=val i
theorem zcU(W:Walks prog w A.in1 I fp wr n P St)(val:Nat->Int)(hval:∀i v,P i v->∃t,v=.int (val i) t)(hSf:S∉fp)(d:Value)(k:Nat) :
  ∀(j:Nat) (s:Shared) (held:Array Value) (c:Nat),n-j=k->j<=n->St j s.heap->((j= 0/\held= #[])\/∃v,Ko val j v/\held= #[v,v])->
   s.heap.get? S=some { cls:=.type "list",dict:=none,data:=.seq held c,slots:=#[] }->
   (∀v h' tk,((n= 0/\v=d)\/Ko val n v)->(∀b o,b∉wr->b≠S->s.heap.get? b=some o->h'.get? b=some o)->R (.ok (.ret v)) { s with heap:=h',toks:=tk })->
   codeAny (model prog w) A (.builtin "min.loop" ⟨[.ref I,.none,.ref S],[("default",d)]⟩) R s:=by
 have w0:S∉wr:=λz=>hSf (W.sub _ z);have nm:(toString "min" ++ toString ".loop":String)= "min.loop":=by decide
 induction k with
 |zero=>
  intro j s held c ek ej est eh eS fin;have ejn:j=n:=by omega
  subst ejn;refine codeAny_builtin F.entry_min_loop ?_;rw[Around.under_plainId F.plain_min_loop _];rcases eh with⟨e0,rfl⟩|⟨v,hv,rfl⟩
  .show wpAny _ A.in1 (seqItems? (.ref S) >>= _) _ _ s
   refine wpAny_bind (wpAny_seqItems eS rfl (?_:wpAny _ A.in1 (tryCatch (pyNext (.ref I)) _ >>= _) _ _ s));refine wpAny_bind (wpAny_tryCatch (W.done s _ _ est λh1 tk1 kept=>?_));refine wpAny_bind (wpAny_rule (wpAny_pure ?_));exact fin d h1 tk1 (.inl ⟨e0,rfl⟩) λb o h2 _ h3=>kept b o h2 h3
  .show wpAny _ A.in1 (seqItems? (.ref S) >>= _) _ _ s
   refine wpAny_bind (wpAny_seqItems eS rfl (?_:wpAny _ A.in1 (tryCatch (pyNext (.ref I)) _ >>= _) _ _ s));refine wpAny_bind (wpAny_tryCatch (W.done s _ _ est λh1 tk1 kept=>?_));have eS1:=kept S _ w0 eS;refine wpAny_bind (m:=updateSeq S (λ_=>#[])) (wpAny_updateSeq eS1 rfl (wpAny_bind (wpAny_letGo (wpAny_pure ?_))));exact fin v _ tk1 (.inr hv) λb o h2 h3 h4=>(Heap.get?_update_other _ _ (Ne.symm h3)).trans (kept b o h2 h4)
 |succ k ih=>
  intro j s held c ek ej est eh eS fin;have lt:j<n:=by omega
  refine codeAny_builtin F.entry_min_loop ?_;rw[Around.under_plainId F.plain_min_loop _];have go:∀(h2:Heap) (tk2:Nat) (v2:Value) (c2:Nat),Ko val (j+1) v2->St (j+1) h2->h2.get? S=some { cls:=.type "list",dict:=none,data:=.seq #[v2,v2] c2,slots:=#[] }->(∀b o,b∉wr->b≠S->s.heap.get? b=some o->h2.get? b=some o)->
    codeAny (model prog w) A (.builtin "min.loop" ⟨[.ref I,.none,.ref S],[("default",d)]⟩) R { s with heap:=h2,toks:=tk2 }:=λh2 tk2 v2 c2 b1 b2 b3 b4=>
   ih (j+1) _ _ c2 (by omega) lt b2 (.inr ⟨v2,b1,rfl⟩) b3 λv h' tk z kk=>fin v h' tk z λb o x1 x2 x3=>kk b o x1 x2 (b4 b o x1 x2 x3)
  rcases eh with⟨e0,rfl⟩|⟨v,⟨b0,t0,hb0,rfl,hle⟩,rfl⟩
  .subst e0
   show wpAny _ A.in1 (seqItems? (.ref S) >>= _) _ _ s;refine wpAny_bind (wpAny_seqItems eS rfl (?_:wpAny _ A.in1 (tryCatch (pyNext (.ref I)) _ >>= _) _ _ s));refine wpAny_bind (wpAny_tryCatch (W.item 0 s _ _ lt est λx h1 tk1 px st1 kept=>?_));have eS1:=kept S _ w0 eS;obtain⟨t,rfl⟩:=hval _ _ px;refine wpAny_bind (m:=updateSeq S (λ_=>#[.int (val 0) t,.int (val 0) t])) (wpAny_updateSeq eS1 rfl ?_);rw[nm];refine wpAny_pure ⟨plainId_quiet F.plain_min_loop _,go _ tk1 _ _ ⟨0,t,by omega,rfl,λi hi=>?_⟩ (W.frame _ _ _ st1 λb hb o e=>?_) (Heap.get?_update_self _ eS1 rfl) λb o x1 x2 x3=>?_⟩
   .have:i= 0:=by omega
    subst this;exact Int.le_refl _
   .exact(Heap.get?_update_other _ _ (λz:S=b=>hSf (z▸hb))).trans e
   .exact(Heap.get?_update_other _ _ (Ne.symm x2)).trans (kept b o x1 x3)
  .show wpAny _ A.in1 (seqItems? (.ref S) >>= _) _ _ s
   refine wpAny_bind (wpAny_seqItems eS rfl (?_:wpAny _ A.in1 (tryCatch (pyNext (.ref I)) _ >>= _) _ _ s));refine wpAny_bind (wpAny_tryCatch (W.item j s _ _ lt est λx h1 tk1 px st1 kept=>?_));have eS1:=kept S _ w0 eS;obtain⟨t,rfl⟩:=hval _ _ px;have cmp:=CmpOf.ints_lt (prog:=prog) (w:=w) (A:=A.in1) (P:=λi v=>∃t,v=Value.int (val i) t) val (λi v h=>h);refine wpAny_bind (m:=tryCatch (holding _ (richCompare .Lt (.int (val j) t) (.int (val b0) t0) >>= _)) _) (wpAny_tryCatch (wpAny_holding (wpAny_bind (cmp j b0 _ _ _ _ _ ⟨t,rfl⟩ ⟨t0,rfl⟩ ?_))));refine wpAny_bind (wpAny_holding (wpAny_truthy_bool (wpAny_bind (wpAny_letGo (wpAny_pure ?_)))));by_cases hlt:val j<val b0
   .simp only[hlt,decide_true,if_true]
    refine wpAny_bind (m:=updateSeq S (λ_=>#[.int (val j) t,.int (val j) t])) (wpAny_updateSeq eS1 rfl (wpAny_bind (wpAny_letGo ?_)));rw[nm];refine wpAny_pure ⟨plainId_quiet F.plain_min_loop _,go _ tk1 _ _ ⟨j,t,by omega,rfl,λi hi=>?_⟩ (W.frame _ _ _ st1 λb hb o e=>?_) (Heap.get?_update_self _ eS1 rfl) λb o x1 x2 x3=>?_⟩
    .by_cases hij:i=j
     .rw[hij]
      exact Int.le_refl _
     .have:=hle i (by omega)
      omega
    .exact(Heap.get?_update_other _ _ (λz:S=b=>hSf (z▸hb))).trans e
    .exact(Heap.get?_update_other _ _ (Ne.symm x2)).trans (kept b o x1 x3)
   .simp only[hlt,decide_false,Bool.false_eq_true,if_false]
    refine wpAny_bind (wpAny_letGo ?_);rw[nm];refine wpAny_pure ⟨plainId_quiet F.plain_min_loop _,go _ tk1 _ _ ⟨b0,t0,by omega,rfl,λi hi=>?_⟩ st1 eS1 λb o x1 x2 x3=>kept b o x1 x3⟩;by_cases hij:i=j
    .rw[hij]
     omega
    .exact hle i (by omega)
noncomputable def Kp(val:Nat->Int)(j:Nat)(v:Value):Prop:=∃b t,b<j/\v=.int (val b) t/\∀i,i<j->val i<=val b
theorem zcV(W:Walks prog w A.in1 I fp wr n P St)(val:Nat->Int)(hval:∀i v,P i v->∃t,v=.int (val i) t)(hSf:S∉fp)(d:Value)(k:Nat) :
  ∀(j:Nat) (s:Shared) (held:Array Value) (c:Nat),n-j=k->j<=n->St j s.heap->((j= 0/\held= #[])\/∃v,Kp val j v/\held= #[v,v])->
   s.heap.get? S=some { cls:=.type "list",dict:=none,data:=.seq held c,slots:=#[] }->
   (∀v h' tk,((n= 0/\v=d)\/Kp val n v)->(∀b o,b∉wr->b≠S->s.heap.get? b=some o->h'.get? b=some o)->R (.ok (.ret v)) { s with heap:=h',toks:=tk })->
   codeAny (model prog w) A (.builtin "max.loop" ⟨[.ref I,.none,.ref S],[("default",d)]⟩) R s:=by
 have w0:S∉wr:=λz=>hSf (W.sub _ z);have nm:(toString "max" ++ toString ".loop":String)= "max.loop":=by decide
 induction k with
 |zero=>
  intro j s held c ek ej est eh eS fin;have ejn:j=n:=by omega
  subst ejn;refine codeAny_builtin F.entry_max_loop ?_;rw[Around.under_plainId F.plain_max_loop _];rcases eh with⟨e0,rfl⟩|⟨v,hv,rfl⟩
  .show wpAny _ A.in1 (seqItems? (.ref S) >>= _) _ _ s
   refine wpAny_bind (wpAny_seqItems eS rfl (?_:wpAny _ A.in1 (tryCatch (pyNext (.ref I)) _ >>= _) _ _ s));refine wpAny_bind (wpAny_tryCatch (W.done s _ _ est λh1 tk1 kept=>?_));refine wpAny_bind (wpAny_rule (wpAny_pure ?_));exact fin d h1 tk1 (.inl ⟨e0,rfl⟩) λb o h2 _ h3=>kept b o h2 h3
  .show wpAny _ A.in1 (seqItems? (.ref S) >>= _) _ _ s
   refine wpAny_bind (wpAny_seqItems eS rfl (?_:wpAny _ A.in1 (tryCatch (pyNext (.ref I)) _ >>= _) _ _ s));refine wpAny_bind (wpAny_tryCatch (W.done s _ _ est λh1 tk1 kept=>?_));have eS1:=kept S _ w0 eS;refine wpAny_bind (m:=updateSeq S (λ_=>#[])) (wpAny_updateSeq eS1 rfl (wpAny_bind (wpAny_letGo (wpAny_pure ?_))));exact fin v _ tk1 (.inr hv) λb o h2 h3 h4=>(Heap.get?_update_other _ _ (Ne.symm h3)).trans (kept b o h2 h4)
 |succ k ih=>
  intro j s held c ek ej est eh eS fin;have lt:j<n:=by omega
  refine codeAny_builtin F.entry_max_loop ?_;rw[Around.under_plainId F.plain_max_loop _];have go:∀(h2:Heap) (tk2:Nat) (v2:Value) (c2:Nat),Kp val (j+1) v2->St (j+1) h2->h2.get? S=some { cls:=.type "list",dict:=none,data:=.seq #[v2,v2] c2,slots:=#[] }->(∀b o,b∉wr->b≠S->s.heap.get? b=some o->h2.get? b=some o)->
    codeAny (model prog w) A (.builtin "max.loop" ⟨[.ref I,.none,.ref S],[("default",d)]⟩) R { s with heap:=h2,toks:=tk2 }:=λh2 tk2 v2 c2 b1 b2 b3 b4=>
   ih (j+1) _ _ c2 (by omega) lt b2 (.inr ⟨v2,b1,rfl⟩) b3 λv h' tk z kk=>fin v h' tk z λb o x1 x2 x3=>kk b o x1 x2 (b4 b o x1 x2 x3)
  rcases eh with⟨e0,rfl⟩|⟨v,⟨b0,t0,hb0,rfl,hle⟩,rfl⟩
  .subst e0
   show wpAny _ A.in1 (seqItems? (.ref S) >>= _) _ _ s;refine wpAny_bind (wpAny_seqItems eS rfl (?_:wpAny _ A.in1 (tryCatch (pyNext (.ref I)) _ >>= _) _ _ s));refine wpAny_bind (wpAny_tryCatch (W.item 0 s _ _ lt est λx h1 tk1 px st1 kept=>?_));have eS1:=kept S _ w0 eS;obtain⟨t,rfl⟩:=hval _ _ px;refine wpAny_bind (m:=updateSeq S (λ_=>#[.int (val 0) t,.int (val 0) t])) (wpAny_updateSeq eS1 rfl ?_);rw[nm];refine wpAny_pure ⟨plainId_quiet F.plain_max_loop _,go _ tk1 _ _ ⟨0,t,by omega,rfl,λi hi=>?_⟩ (W.frame _ _ _ st1 λb hb o e=>?_) (Heap.get?_update_self _ eS1 rfl) λb o x1 x2 x3=>?_⟩
   .have:i= 0:=by omega
    subst this;exact Int.le_refl _
   .exact(Heap.get?_update_other _ _ (λz:S=b=>hSf (z▸hb))).trans e
   .exact(Heap.get?_update_other _ _ (Ne.symm x2)).trans (kept b o x1 x3)
  .show wpAny _ A.in1 (seqItems? (.ref S) >>= _) _ _ s
   refine wpAny_bind (wpAny_seqItems eS rfl (?_:wpAny _ A.in1 (tryCatch (pyNext (.ref I)) _ >>= _) _ _ s));refine wpAny_bind (wpAny_tryCatch (W.item j s _ _ lt est λx h1 tk1 px st1 kept=>?_));have eS1:=kept S _ w0 eS;obtain⟨t,rfl⟩:=hval _ _ px;have cmp:=CmpOf.ints_gt (prog:=prog) (w:=w) (A:=A.in1) (P:=λi v=>∃t,v=Value.int (val i) t) val (λi v h=>h);refine wpAny_bind (m:=tryCatch (holding _ (richCompare .Gt (.int (val j) t) (.int (val b0) t0) >>= _)) _) (wpAny_tryCatch (wpAny_holding (wpAny_bind (cmp j b0 _ _ _ _ _ ⟨t,rfl⟩ ⟨t0,rfl⟩ ?_))));refine wpAny_bind (wpAny_holding (wpAny_truthy_bool (wpAny_bind (wpAny_letGo (wpAny_pure ?_)))));by_cases hlt:val j>val b0
   .simp only[hlt,decide_true,if_true]
    refine wpAny_bind (m:=updateSeq S (λ_=>#[.int (val j) t,.int (val j) t])) (wpAny_updateSeq eS1 rfl (wpAny_bind (wpAny_letGo ?_)));rw[nm];refine wpAny_pure ⟨plainId_quiet F.plain_max_loop _,go _ tk1 _ _ ⟨j,t,by omega,rfl,λi hi=>?_⟩ (W.frame _ _ _ st1 λb hb o e=>?_) (Heap.get?_update_self _ eS1 rfl) λb o x1 x2 x3=>?_⟩
    .by_cases hij:i=j
     .rw[hij]
      exact Int.le_refl _
     .have:=hle i (by omega)
      omega
    .exact(Heap.get?_update_other _ _ (λz:S=b=>hSf (z▸hb))).trans e
    .exact(Heap.get?_update_other _ _ (Ne.symm x2)).trans (kept b o x1 x3)
   .simp only[hlt,decide_false,Bool.false_eq_true,if_false]
    refine wpAny_bind (wpAny_letGo ?_);rw[nm];refine wpAny_pure ⟨plainId_quiet F.plain_max_loop _,go _ tk1 _ _ ⟨b0,t0,by omega,rfl,λi hi=>?_⟩ st1 eS1 λb o x1 x2 x3=>kept b o x1 x3⟩;by_cases hij:i=j
    .rw[hij]
     omega
    .exact hle i (by omega)
theorem za1(a v:Value):argsOk "min" ⟨[a],[("default",v)]⟩:=by
 unfold argsOk
 kernel_rfl
theorem call_minDf{l:Addr}{xs:Array (Int×Tok)}{d:Value}(hh:A.handled=none)(hl:s.heap.IsList l (intItems xs))
  (h:∀v h' tk,((xs.size= 0/\v=d)\/Ko (numAt xs) xs.size v)->(∀b o,s.heap.get? b=some o->h'.get? b=some o)->Q v { s with heap:=h',toks:=tk }):wpAny (model prog w) A (call (.builtin "min") [.ref l] [("default",d)]) Q E s:=by
 have nm:(toString "min" ++ toString ".loop":String)= "min.loop":=by decide
 have sz:(intItems xs).size=xs.size:=by simp[intItems]
 refine kmb_tree F.kind_min F.plain_min F.entry_min (za1 _ _) ?_;refine wpAny_bind (m:=Builtin.Builtins.bindParams "min" ["key","default"] 0 ⟨[],[("default",d)]⟩) (wpAny_of_eq (show _=pure [none,some d]from rfl) ?_);refine wpAny_bind (wpAny_pure (wpAny_bind (iter_intList hl λs2 e st fpl nel=>?_)));subst e;refine wpAny_bind (wpAny_newObj_type ?_);rw[nm];have WL:=Walks.list (prog:=prog) (w:=w) (A:=A.in1) hh s.heap.objs.size l nel (intItems xs);refine wpAny_pure ⟨plainId_quiet F.plain_min_loop _,zcU WL (numAt xs) (λ_ _=>intItems_at) (λz=>Nat.lt_irrefl _ (fpl _ z)) d _ 0 _ #[] _ rfl (Nat.zero_le _) (WL.frame _ _ _ st λb _ o e=>Heap.get?_push_of_some _ e) (.inl ⟨rfl,rfl⟩) (Heap.get?_push_size _ rfl) λv h' tk z kk=>?_⟩;rw[sz]at z;exact h v h' tk z (old_kept λb o x1 x2=>kk b o x1 (Nat.ne_of_lt (Heap.lt_size x2)) (Heap.get?_push_of_some _ x2))
theorem za2(a v:Value):argsOk "max" ⟨[a],[("default",v)]⟩:=by
 unfold argsOk
 kernel_rfl
theorem call_maxDf{l:Addr}{xs:Array (Int×Tok)}{d:Value}(hh:A.handled=none)(hl:s.heap.IsList l (intItems xs))
  (h:∀v h' tk,((xs.size= 0/\v=d)\/Kp (numAt xs) xs.size v)->(∀b o,s.heap.get? b=some o->h'.get? b=some o)->Q v { s with heap:=h',toks:=tk }):wpAny (model prog w) A (call (.builtin "max") [.ref l] [("default",d)]) Q E s:=by
 have nm:(toString "max" ++ toString ".loop":String)= "max.loop":=by decide
 have sz:(intItems xs).size=xs.size:=by simp[intItems]
 refine kmb_tree F.kind_max F.plain_max F.entry_max (za2 _ _) ?_;refine wpAny_bind (m:=Builtin.Builtins.bindParams "max" ["key","default"] 0 ⟨[],[("default",d)]⟩) (wpAny_of_eq (show _=pure [none,some d]from rfl) ?_);refine wpAny_bind (wpAny_pure (wpAny_bind (iter_intList hl λs2 e st fpl nel=>?_)));subst e;refine wpAny_bind (wpAny_newObj_type ?_);rw[nm];have WL:=Walks.list (prog:=prog) (w:=w) (A:=A.in1) hh s.heap.objs.size l nel (intItems xs);refine wpAny_pure ⟨plainId_quiet F.plain_max_loop _,zcV WL (numAt xs) (λ_ _=>intItems_at) (λz=>Nat.lt_irrefl _ (fpl _ z)) d _ 0 _ #[] _ rfl (Nat.zero_le _) (WL.frame _ _ _ st λb _ o e=>Heap.get?_push_of_some _ e) (.inl ⟨rfl,rfl⟩) (Heap.get?_push_size _ rfl) λv h' tk z kk=>?_⟩;rw[sz]at z;exact h v h' tk z (old_kept λb o x1 x2=>kk b o x1 (Nat.ne_of_lt (Heap.lt_size x2)) (Heap.get?_push_of_some _ x2))
end
end PySem
namespace L2
open PySem PySem.W PySem.Calls PyProof.Rows
section
variable {p:Pos}{kws:List Keyword}{ks:List Str}{tk:TA}{id:String}{r:List V->List V->Hp->VK->Prop}
noncomputable def zhQ(r:List V->List V->Hp->VK->Prop)(t tk:TA):TE:=λσ H Q=>t σ H λvs H1=>tk σ H1 λzs H2=>r vs zs H2 Q
noncomputable def kf(X:Cx)(f:Value)(ks:List Str)(r:List V->List V->Hp->VK->Prop):Prop:=∀(pins:List (Addr×Obj)) (s:Shared) (σ:St) (H:Hp) (vs:List V) (us:List Value) (zs:List V) (ws:List Value) (Q:VK),
 Inv X pins σ H s->Vals vs us->Vals zs ws->r vs zs H Q->wpAny (model X.prog X.w) X.A (call f us (ks.zip ws)) (EP X pins σ Q) X.xe s
theorem XR(hc:kf X (.builtin id) ks r)(hg:Gl X x)(hm:X.mg x=none)(hv:bootBuiltins x=some (.builtin id))(ha:PA X (e::es) t)(hkw:PK X kws tk)(hks:(backToKw pos (keywordEach kws X.env)).filterMap (·.1)=ks:=by rfl)
  (hn:x≠"__name__":=by decide)(hdb:(x==("__debug__":Str))=false:=by decide)(he:backTo pos (starEach (e::es) X.env)=(false,eval e X.env)::backTo pos (starEach es X.env):=by rfl)(hpl:(backTo pos (starEach (e::es) X.env)).any (·.1)=false:=by rfl)
  (hall:(backToKw pos (keywordEach kws X.env)).all (·.1.isSome)=true:=by rfl)(hno:(backToKw pos (keywordEach kws X.env)).any (·.1.isNone)=false:=by rfl):PE X (.Call (.Name x p) (e::es) kws pos) (zhQ r t tk):=by
 intro pins s σ H Q I h;refine wpAny_Call_Name_kw (vX I hg hm hv ?_ hn hdb);refine callWith_kw (thn (ha pos pins s σ H _ I h) λus s1 ⟨vs,H1,I1,r1,q1⟩=>thn (hkw pos pins s1 σ H1 _ I1 q1) λws s2 ⟨zs,H2,I2,rz,q2⟩=>?_) he hpl hall hno;rw[hks];exact hc pins s2 σ H2 vs us zs ws Q I2 r1 rz q2
noncomputable def Ud(K:W.Frag):List V->List V->Hp->VK->Prop:=λvs zs H Q=>∃(a:Addr) (ns:List Int) (d:Int),vs=[.ref a]/\zs=[.int d]/\SqL K H a (ns.map V.int)/\(ns=[]->Q (.int d) H)/\∀M,M∈ns->(∀b∈ns,M<=b)->Q (.int M) H
noncomputable def Ue(K:W.Frag):List V->List V->Hp->VK->Prop:=λvs zs H Q=>∃(a:Addr) (ns:List Int) (d:Int),vs=[.ref a]/\zs=[.int d]/\SqL K H a (ns.map V.int)/\(ns=[]->Q (.int d) H)/\∀M,M∈ns->(∀b∈ns,b<=M)->Q (.int M) H
theorem call_minDf(hc:X.calm=true):kf X (.builtin "min") ["default"] (Ud X.K):=by
 intro pins s σ H vs us zs ws Q I r rz h;obtain⟨a,ns,d,rfl,rfl,hq,q0,q⟩:=h;obtain⟨u,rfl,ru⟩:=r.one;obtain⟨v,rfl,tv,rfl⟩:=rz.one;cases ru;obtain⟨its,rv,p,hz⟩:=I.list hq;obtain⟨ys,e,hns⟩:=XQ (uV rv);have hl:=p.isList;rw[e]at hl;have len:ns.length=ys.size:=by rw[hns,List.length_map,Array.length_toList]
 refine PySem.call_minDf (I.ok.hd hc) hl λv h' tk z hk=>?_;rcases z with⟨z,rfl⟩|⟨b,t,hb,rfl,hle⟩
 .exact⟨.int d,H,I.kept (t':=tk) hk,⟨tv,rfl⟩,q0 (List.length_eq_zero_iff.mp (by omega))⟩
 .refine⟨.int _,H,I.kept (t':=tk) hk,⟨t,rfl⟩,q _ ?_ λa ha=>?_⟩
  .rw[hns,numAt_eq];exact getD_mem (by rw[List.length_map,Array.length_toList];omega)
  .rw[hns]at ha
   obtain⟨j,hj,rfl⟩:=mem_getD ha;rw[List.length_map,Array.length_toList]at hj;rw[<-numAt_eq];exact hle j (by omega)
theorem call_maxDf(hc:X.calm=true):kf X (.builtin "max") ["default"] (Ue X.K):=by
 intro pins s σ H vs us zs ws Q I r rz h;obtain⟨a,ns,d,rfl,rfl,hq,q0,q⟩:=h;obtain⟨u,rfl,ru⟩:=r.one;obtain⟨v,rfl,tv,rfl⟩:=rz.one;cases ru;obtain⟨its,rv,p,hz⟩:=I.list hq;obtain⟨ys,e,hns⟩:=XQ (uV rv);have hl:=p.isList;rw[e]at hl;have len:ns.length=ys.size:=by rw[hns,List.length_map,Array.length_toList]
 refine PySem.call_maxDf (I.ok.hd hc) hl λv h' tk z hk=>?_;rcases z with⟨z,rfl⟩|⟨b,t,hb,rfl,hle⟩
 .exact⟨.int d,H,I.kept (t':=tk) hk,⟨tv,rfl⟩,q0 (List.length_eq_zero_iff.mp (by omega))⟩
 .refine⟨.int _,H,I.kept (t':=tk) hk,⟨t,rfl⟩,q _ ?_ λa ha=>?_⟩
  .rw[hns,numAt_eq];exact getD_mem (by rw[List.length_map,Array.length_toList];omega)
  .rw[hns]at ha
   obtain⟨j,hj,rfl⟩:=mem_getD ha;rw[List.length_map,Array.length_toList]at hj;rw[<-numAt_eq];exact hle j (by omega)
end
end L2
namespace L2
open PySem PySem.Spec PyProof.Rows
structure CalT (P:Program) (w:World) (K:W.Frag) (mg:Str->Option Value) (base:Heap) (k:Nat) (m:Str) (C:Addr) (sp:Sp):Prop where
 ex:∃(f:Addr) (fd:FuncData) (ps:List Str),Cls K C/\Meth K C m f/\FnOk P w K mg base CX0 k f fd ps sp/\Binds K fd ps []
section
variable {k:Nat}{sp:Sp}{m:Str}{apos:Pos}{o:Expr}
theorem vc{pl:Sem Bool}(c:CalT X.prog X.w X.K X.mg X.base k m C sp)(hr:Room k X.A)(he:PE X o ta)
    (ht:eval (.Call (.Attribute o m apos) [] [] pos) X.env=(do
      let ov<-eval o X.env
      standAt apos.atName
      let(f,first)<-holding [ov] (getMethod ov m pl)
      callWith pos f first (backTo pos (starEach [] X.env)) (backToKw pos (keywordEach [] X.env))):=by rfl):PE X (.Call (.Attribute o m apos) [] [] pos) (Zh C m sp [] E0 ta uh):=by
  obtain⟨f,fd,ps,c,M,F,hb⟩:=c.ex;exact zcA (pl:=pl) he c M F hr hb .nil Yf ht
theorem zhR{pl:Sem Bool}(c:CalT X.prog X.w X.K X.mg X.base k m C sp)(hr:Room k X.A)(he:PE X o ta)(ha:PA X (e::es) t)
    (hst:starEach (e::es) X.env=(false,eval e X.env)::starEach es X.env:=by rfl)(hpl:(backTo pos (starEach es X.env)).any (·.1)=false:=by rfl)
    (ht:eval (.Call (.Attribute o m apos) (e :: es) [] pos) X.env=(do
      let ov<-eval o X.env
      standAt apos.atName
      let(f,first)<-holding [ov] (getMethod ov m pl)
      callWith pos f first (backTo pos (starEach (e::es) X.env)) (backToKw pos (keywordEach [] X.env))):=by rfl):PE X (.Call (.Attribute o m apos) (e::es) [] pos) (Zh C m sp [] E0 ta t):=by
  obtain⟨f,fd,ps,c,M,F,hb⟩:=c.ex;exact zfq (pl:=pl) he c M F hr hb .nil Yf ha hst hpl ht
end
structure SV where
 wide:Int
 high:Int
 row:Int
 col:Int
 late:Bool
 ink:Int
 wrap:Bool
 putting:Bool
 home:Bool
 top:Int
 bottom:Int
 left:Int
 right:Int
 last:V
section
variable {st kp:Addr}{S:SV}
end
structure Sta (K:W.Frag) (C:Addr):Prop where
 cl:Cls K C
 n_picture:NoAttr K C "picture"
 n_wide:NoAttr K C "wide"
 n_high:NoAttr K C "high"
 n_row:NoAttr K C "row"
 n_column:NoAttr K C "column"
 n_late:NoAttr K C "late"
 n_ink:NoAttr K C "ink"
 n_wrap:NoAttr K C "wrap"
 n_putting:NoAttr K C "putting"
 n_home:NoAttr K C "home"
 n_top:NoAttr K C "top"
 n_bottom:NoAttr K C "bottom"
 n_left:NoAttr K C "left"
 n_right:NoAttr K C "right"
 n_stops:NoAttr K C "stops"
 n_kept:NoAttr K C "kept"
 n_last:NoAttr K C "last"
section
variable {sl:Addr}{S:SV}
end
noncomputable def za3(td ty tv:TE):TS:=λD σ H=>tv σ H λv H1=>td σ H1 λx H2=>ty σ H2 λy H3=>∃a kvs k,x=.ref a/\H3 a=some (.dK kvs)/\y=kV k/\kvs.length<1000/\D.nx σ (upd H3 a (.dK (xC kvs k v)))
section
variable {o i value:Expr}{td ty tv:TE}{pos':Pos}
theorem PE.cl{t:TE}(h:PE X e t):PE X e (λσ H Q=>∃Q':VK,t σ H Q'/\∀x H1,Q' x H1->Q x H1):=λpins s σ H Q I ⟨Q',q,w⟩=>
 thn (h pins s σ H Q' I q) λv s1 ⟨x,H1,I1,r1,q1⟩=>⟨x,H1,I1,r1,w x H1 q1⟩
theorem zcW(hu:X.A.units+1<cLine)(ho:PE X o td)(hi:PE X i ty)(hv:PE X value tv)(hs:swapsWith value (some (.Subscript o i pos')) pos.line X.env=pure false) :
  PS X (.Assign [.Subscript o i pos'] value pos) (za3 td ty tv):=λpins s σ H D I h=>
 (zfy hu ho.cl hi.cl hv.cl hs) pins s σ H D I ⟨_,h,λv H1 h1=>⟨_,h1,λx H2 h2=>⟨_,h2,λy H3 ⟨a,kvs,k,e1,e2,e3,e4,q⟩=>⟨a,_,e1,by rw[e3];exact V9.k e2 (xH (by omega)),q⟩⟩⟩⟩
end
noncomputable def Sh(i:Int):Prop:=-1000000<=i/\i<=1000000
theorem XS:∀ns:List Int,Reps K H (ns.map .int) (ns.map V.int)
 |[]=>rfl
 |n::ns=>⟨_,_,rfl,rfl,XS ns⟩
theorem Sh.log{i:Int}(h:Sh i):i.natAbs.log2<20:=by
 obtain⟨h1,h2⟩:=h;by_cases h0:i.natAbs= 0
 .rw[h0];decide
 .exact(Nat.log2_lt h0).mpr (by omega)
theorem Sh.w{i:Int}(h:Sh i):PyData.weight (.int i)<=21:=by
 have:=h.log;simp only[PyData.weight];split<;>omega
theorem Sh.short{i:Int}(h:Sh i):PyData.intsShort 13 (.int i)=true:=by
 obtain⟨h1,h2⟩:=h;have q:(toString i).length<=7+1:=int_text_length_le10 (by decide) (show i.natAbs<10 ^ 7 by omega);have e:(PyData.int i).shown.length=(toString i).length:=by
  simp only[PyData.shown];exact PySem.ofString_length _
 simp only[PyData.intsShort,decide_eq_true_eq];omega
theorem Sh.sho{i:Int}(h:Sh i):PyData.showable (.int i)=true:=by
 have:=h.log;simp only[PyData.showable,decide_eq_true_eq];omega
noncomputable def DK(K:W.Frag)(a:Addr)(D:List (Int×Int)):Prop:=KTD.keyedLook (λb=>K.lookup b) a (D.map λp=>(p.1,PyData.int p.2))=true
noncomputable def xE(D:List (Int×Int))(k:Int):Option Int:=match D with
 |[]=>none
 |(i,d)::r=>if k=i then some d else xE r k
theorem ZD(k:Int):∀D:List (Int×Int),KTD.datumAt k (D.map λp=>(p.1,PyData.int p.2))=(xE D k).map PyData.int
 |[]=>rfl
 |(i,d)::D=>by
  have ih:=ZD k D;show(if decide (k=i)=true then some (PyData.int d)else KTD.datumAt k (D.map λp=>(p.1,PyData.int p.2)))=((if k=i then some d else xE D k).map PyData.int);by_cases h:k=i
  .rw[if_pos (decide_eq_true h),if_pos h,Option.map_some]
  .rw[if_neg (by simpa using h),if_neg h,ih]
noncomputable def Kq(K:W.Frag)(to:TE)(t:TA):TE:=λσ H Q=>to σ H λx H1=>∃a D,x=.ref a/\DK K a D/\t σ H1 λxs H2=>∃i d,xs=[.int i,.int d]/\Q (.int ((xE D i).getD d)) H2
theorem zfF{o:Expr}{to:TE}{apos cpos:Pos}(ho:PE X o to)(ha:PA X (e::es) t)
    (hbase:attributeBase o "get" X.env (eval o X.env)=eval o X.env:=by rfl)
    (hfew:((backTo cpos (starEach (e :: es) X.env)).all (fun x=>!x.1) && (backToKw cpos (keywordEach [] X.env)).all (fun x=>x.1.isSome)
      && decide ((e::es).length+([]:List Keyword).length+(if([]:List Keyword).isEmpty then 0 else 1)<30))=true:=by rfl)
    (hline:(apos.endLine==cpos.line)=true:=by rfl)(hs:starEach (e::es) X.env=(false,eval e X.env)::starEach es X.env:=by rfl)(hplain:(backTo cpos (starEach es X.env)).any (·.1)=false:=by rfl) :
    PE X (.Call (.Attribute o "get" apos) (e::es) [] cpos) (Kq X.K to t):=by
  intro pins s σ H Q I h;refine wpAny_Call_method_late hbase hfew hline rfl (thn (ho pins s σ H _ I h) λv s1 ⟨x,H1,I1,r1,a,D,ex,hD,q1⟩=>?_);subst ex;cases r1;have KD:=KTD.keyed_of_look (h:=s1.heap) (λb o q=>I1.kIn b o q) hD;obtain⟨_,kvs,⟨ob,bs,ep,hob,hc,_⟩,_⟩:=id (KD X.prog X.w);refine⟨"dict","dict.get",PySem.F.plainAttrs_dict,PySem.F.slot_dict_get,PySem.F.type_dict_get,⟨ob,hob,hc.1⟩,λb e=>by injection e with e;subst e;exact⟨ob,hob,hc.2.1⟩,?_⟩;have hA:=ha cpos pins s1 σ H1 _ I1 q1;rw[hs]at hA ⊢;refine Calls.callWith_builtin (by show(false||(backTo cpos (starEach es X.env)).any (·.1))=false;rw[hplain]<;>rfl) (Calls.evalArgs_plain ?_);refine thn hA λus s2 ⟨vs,H2,I2,r2,i,d,ev,q2⟩=>?_;subst ev;obtain⟨u1,u2,rfl,h1,h2⟩:=r2.two;obtain⟨t1,rfl⟩:=h1;obtain⟨t2,rfl⟩:=h2;have KD2:=KTD.keyed_of_look (h:=s2.heap) (λb o q=>I2.kIn b o q) hD;refine call_get2_intTab (KD2 X.prog X.w) (.int d t2) λv hv=>?_;rw[KTD.lookup_keyed,ZD]at hv;have hv':PyProof.V.Flat v (PyData.int ((xE D i).getD d)):=by
    cases e:xE D i with
    |none=>rw[e]at hv;exact hv
    |some z=>rw[e]at hv;exact hv
  generalize(xE D i).getD d=z at hv' q2
  cases hv' s2.heap with
  |int _ t=>exact⟨.int _,H2,I2.tok _,⟨t,rfl⟩,q2⟩
inductive W where
 |d (x:PyData)
 |own (a:Addr)
 |row (a:Addr) (i:Nat)
inductive OO where
 |lst (ws:List W)
 |dK (kvs:List (Key×W))
 |ins (C dx:Addr) (fs:List (Str×W))
 |grid (rows:List (List PyData))
 |raw (p:HO->Hp->Prop)
noncomputable abbrev OM:=Addr->Option OO
noncomputable def updO(O:OM)(a:Addr)(o:OO):OM:=λb=>if b=a then some o else O b
noncomputable def del(O:OM)(a:Addr):OM:=λb=>if b=a then none else O b
theorem zf{O:OM}{o:OO}:updO O a o a=some o:=by simp[updO]
theorem ze{O:OM}{o:OO}(h:b≠a):updO O a o b=O b:=by simp[updO,h]
theorem xt{O:OM}:del O a a=none:=by simp[del]
theorem vj{O:OM}(h:b≠a):del O a b=O b:=by simp[del,h]
theorem yR{O:OM}{o u:OO}:updO (updO O a o) a u=updO O a u:=by
 funext b;unfold updO;split<;>rfl
structure Gh where
 Z:Hp
 G:Addr->Option (List Addr)
 F:Hp
structure Le (Γ Γ':Gh):Prop where
 f:Γ'.F=Γ.F
 z:Same Γ.Z Γ'.Z
 g:∀a rs,Γ.G a=some rs->∃more,Γ'.G a=some (rs++more)
theorem Le.refl(Γ:Gh):Le Γ Γ:=⟨rfl,Same.refl _,λ_ rs h=>⟨[],by rw[List.append_nil];exact h⟩⟩
theorem Le.trans {Γ Γ1 Γ2:Gh}(a:Le Γ Γ1) (b:Le Γ1 Γ2):Le Γ Γ2:=⟨b.f.trans a.f,a.z.trans b.z,fun x rs h=>by
 obtain⟨m,h1⟩:=a.g x rs h;obtain⟨m2,h2⟩:=b.g x _ h1;exact⟨m++m2,by rw[<-List.append_assoc];exact h2⟩⟩
theorem Le.zOnly{Γ:Gh}{Z:Hp}(h:Same Γ.Z Z):Le Γ ⟨Z,Γ.G,Γ.F⟩:=⟨rfl,h,λ_ rs h=>⟨[],by rw[List.append_nil];exact h⟩⟩
section
variable (K:W.Frag)
noncomputable def relW(Γ:Gh):W->V->Prop
 |.d x,v=>Rep K Γ.Z x v
 |.own a,v=>v=.ref a
 |.row a i,v=>∃rs r,Γ.G a=some rs/\rs[i]? =some r/\v=.ref r
noncomputable abbrev relWs(Γ:Gh):List W->List V->Prop:=Paired (relW K Γ)
noncomputable def Zk(Γ:Gh):Option W->Option V->Prop
 |some w,some v=>relW K Γ w v
 |none,_=>True
 |_,_=>False
noncomputable abbrev relR(Γ:Gh):List (Option W)->St->Prop:=Paired (Zk K Γ)
noncomputable def yp{κ:Type}(Γ:Gh):List (κ×W)->List (κ×V)->Prop:=Paired λp q=>p.1=q.1/\relW K Γ p.2 q.2
noncomputable def ObjW(Γ:Gh)(O:OM)(H:Hp)(a:Addr):OO->Prop
 |.lst ws=>∃vs,H a=some (.lst vs)/\relWs K Γ ws vs
 |.dK kvs=>∃vs,H a=some (.dK vs)/\yp K Γ kvs vs
 |.ins C dx fs=>∃vs,H a=some (.ins C dx vs)/\yp K Γ fs vs
 |.grid rows=>∃rs,Γ.G a=some rs/\H a=some (.lst (rs.map V.ref))/\rs.length=rows.length/\rs.Nodup/\
   ∀(i:Nat) (r:Addr) (ds:List PyData),rs[i]? =some r->rows[i]? =some ds->Γ.Z r=none/\O r=none/\∃vs,H r=some (.lst vs)/\Reps K Γ.Z ds vs
 |.raw p=>∃o,H a=some o/\∀Z,Same Γ.Z Z->p o Z
structure Sim (Γ:Gh) (O:OM) (H:Hp):Prop where
 z:Same Γ.Z H
 o:∀a oo,O a=some oo->Γ.Z a=none/\ObjW K Γ O H a oo
 gd:∀a rs,Γ.G a=some rs->∃o,H a=some o
 f:Same Γ.F H
 gn:∀a oo,O a=some oo->(∀rows,oo≠.grid rows)->Γ.G a=none
 fg:∀a o,Γ.F a=some o->Γ.G a=none
 fd:∀a o,Γ.F a=some o->Γ.Z a=none/\O a=none/\∀b rows rs,O b=some (.grid rows)->Γ.G b=some rs->a∉rs
 u:∀a b ra rb rs ss r,O a=some (.grid ra)->O b=some (.grid rb)->Γ.G a=some rs->Γ.G b=some ss->r∈rs->r∈ss->a=b
end
section
variable {Γ Γ':Gh}{O:OM}{H':Hp}
theorem relW.mono(h:Le Γ Γ'):∀{w:W}{v:V},relW K Γ w v->relW K Γ' w v
 |.d x,v,r=>Rep.same h.z x v r
 |.own a,v,r=>r
 |.row a i,v,⟨rs,r,e,f,g⟩=>by
  obtain⟨m,e'⟩:=h.g _ _ e;have hi:i<rs.length:=(List.getElem?_eq_some_iff.mp f).1;exact⟨rs++m,r,e',by rw[List.getElem?_append_left hi];exact f,g⟩
theorem relWs.mono(h:Le Γ Γ'){ws:List W}(r:relWs K Γ ws vs):relWs K Γ' ws vs:=Paired.mapP r λ_ _ z=>z.mono h
theorem Zk.mono(h:Le Γ Γ'):∀{w:Option W}{v:Option V},Zk K Γ w v->Zk K Γ' w v
 |some w,some v,r=>relW.mono h r
 |none,_,_=>trivial
 |some _,none,r=>r.elim
theorem relR.mono(h:Le Γ Γ'){ρ:List (Option W)}(r:relR K Γ ρ σ):relR K Γ' ρ σ:=Paired.mapP r λ_ _ z=>z.mono h
theorem yp.mono{κ:Type}(h:Le Γ Γ'){a:List (κ×W)}{b:List (κ×V)}(r:yp K Γ a b):yp K Γ' a b:=Paired.mapP r λ_ _ z=>⟨z.1,z.2.mono h⟩
theorem relR.get{ρ:List (Option W)}:∀{i:Nat}{w:W},relR K Γ ρ σ->ρ[i]? =some (some w)->∃v,σ[i]? =some (some v)/\relW K Γ w v:=by
 intro i w r
 induction r generalizing i with
 |nil=>intro e;simp at e
 |cons h t ih=>
  rename_i x y xs ys
  intro e;cases i with
  |zero=>
   simp at e;subst e;cases y with
   |none=>exact h.elim
   |some v=>exact⟨v,rfl,h⟩
  |succ i=>simpa using ih (i:=i) (by simpa using e)
theorem Paired.getP{α β:Type}{F:α->β->Prop}{xs:List α}{ys:List β}(r:Paired F xs ys):∀{i:Nat}{x:α},xs[i]? =some x->∃y,ys[i]? =some y/\F x y:=by
 induction r with
 |nil=>intro i x e;simp at e
 |cons h t ih=>
  intro i x e;cases i with
  |zero=>simp at e;subst e;exact⟨_,rfl,h⟩
  |succ i=>simpa using ih (i:=i) (by simpa using e)
theorem Paired.getQ{α β:Type}{F:α->β->Prop}{xs:List α}{ys:List β}(r:Paired F xs ys):∀{i:Nat}{y:β},ys[i]? =some y->∃x,xs[i]? =some x/\F x y:=by
 induction r with
 |nil=>intro i x e;simp at e
 |cons h t ih=>
  intro i x e;cases i with
  |zero=>simp at e;subst e;exact⟨_,rfl,h⟩
  |succ i=>simpa using ih (i:=i) (by simpa using e)
theorem Paired.setP{α β:Type}{F:α->β->Prop}{xs:List α}{ys:List β}{x:α}{y:β}(r:Paired F xs ys)(h:F x y):∀{i:Nat},Paired F (xs.set i x) (ys.set i y):=by
 induction r with
 |nil=>intro i;exact .nil
 |cons g t ih=>
  intro i;cases i with
  |zero=>exact .cons h t
  |succ i=>exact .cons g ih
theorem Paired.appP{α β:Type}{F:α->β->Prop}{xs xs':List α}{ys ys':List β}(r:Paired F xs ys)(s:Paired F xs' ys'):Paired F (xs++xs') (ys++ys'):=by
 induction r with
 |nil=>exact s
 |cons h t ih=>exact .cons h ih
theorem Paired.takeP{α β:Type}{F:α->β->Prop}{xs:List α}{ys:List β}(r:Paired F xs ys):∀n,Paired F (xs.take n) (ys.take n):=by
 induction r with
 |nil=>intro n;simp;exact .nil
 |cons h t ih=>
  intro n;cases n with
  |zero=>exact .nil
  |succ n=>exact .cons h (ih n)
theorem Paired.dropP{α β:Type}{F:α->β->Prop}{xs:List α}{ys:List β}(r:Paired F xs ys):∀n,Paired F (xs.drop n) (ys.drop n):=by
 induction r with
 |nil=>intro n;simp;exact .nil
 |cons h t ih=>
  intro n;cases n with
  |zero=>exact .cons h t
  |succ n=>exact ih n
theorem yG:∀{ds:List PyData}{vs:List V},Reps K Γ.Z ds vs->relWs K Γ (ds.map .d) vs
 |[],_,h=>by rw[show _=[]from h];exact .nil
 |d::ds,_,h=>by
  obtain⟨x,r,rfl,h1,h2⟩:=h;exact .cons h1 (yG h2)
theorem ya:∀{ds:List PyData}{vs:List V},relWs K Γ (ds.map .d) vs->Reps K Γ.Z ds vs
 |[],_,h=>by cases h;rfl
 |d::ds,_,h=>by
  cases h with
  |cons a b=>exact⟨_,_,rfl,a,ya b⟩
noncomputable def yc(O:OM):W->Option (List W)
 |.d (.list ds)=>some (ds.map .d)
 |.own a=>match O a with
  |some (.lst ws)=>some ws
  |some (.grid rows)=>some ((List.range rows.length).map (.row a))
  |_=>none
 |.row a i=>match O a with
  |some (.grid rows)=>(rows[i]?).map (·.map .d)
  |_=>none
 |_=>none
noncomputable def yS:W->Option (List PyData)
 |.d (.tuple ds)=>some ds
 |_=>none
theorem vd{w:W}(S:Sim K Γ O H)(r:relW K Γ w v)(e:yS w=some ds):∃a vs,v=.ref a/\SqT K H a vs/\relWs K Γ (ds.map .d) vs:=by
 cases w with
 |d x=>
  cases x with
  |tuple es=>
   simp[yS]at e;subst e;obtain⟨a,xs,e1,h1,h2⟩:=r;exact⟨a,xs,e1,h1.same S.z,yG h2⟩
  |_=>simp[yS]at e
 |own a=>simp[yS]at e
 |row a i=>simp[yS]at e
theorem yC{w:W}{ws:List W}(S:Sim K Γ O H)(r:relW K Γ w v)(e:yc O w=some ws):∃a vs,v=.ref a/\SqL K H a vs/\relWs K Γ ws vs:=by
 cases w with
 |d x=>
  cases x with
  |list es=>
   simp[yc]at e;subst e;obtain⟨a,xs,e1,h1,h2⟩:=r;exact⟨a,xs,e1,h1.same S.z,yG h2⟩
  |_=>simp[yc]at e
 |own a=>
  cases(show v=.ref a from r);simp only[yc]at e;split at e
  .rename_i us h
   cases e;obtain⟨_,vs,h1,h2⟩:=S.o _ _ h;exact⟨a,vs,rfl,SqL.of h1,h2⟩
  .rename_i rows h
   cases e;obtain⟨_,rs,hg,h1,hl,_,_⟩:=S.o _ _ h;refine⟨a,_,rfl,SqL.of h1,?_⟩;rw[<-hl];have key:∀(ss:List Addr) (k:Nat),(∀i,ss[i]? =rs[k+i]?)->relWs K Γ ((List.range' k ss.length).map (W.row a)) (ss.map V.ref):=by
    intro ss
    induction ss with
    |nil=>intro k _;exact .nil
    |cons s ss ih=>
     intro k hk;refine .cons ⟨rs,s,hg,?_,rfl⟩ (ih (k+1) λi=>?_)
     .have:=hk 0;simpa using this.symm
     .have:=hk (i+1)
      rw[List.getElem?_cons_succ]at this;rw[this]
      congr 1
      omega
   have h0:=key rs 0 (λi=>by rw[Nat.zero_add]);rw[List.range_eq_range'];exact h0
  .cases e
 |row a i=>
  obtain⟨rs,r0,hg,hr,rfl⟩:=r;simp only[yc]at e;split at e
  .rename_i rows h
   cases hi:rows[i]? with
   |none=>rw[hi]at e;cases e
   |some ds=>
    rw[hi]at e;cases e;obtain⟨_,rs',hg',h1,hl,_,hrow⟩:=S.o _ _ h;rw[hg]at hg';cases hg';obtain⟨_,_,vs,h2,h3⟩:=hrow i r0 ds hr hi;exact⟨r0,vs,rfl,SqL.of h2,yG h3⟩
  .cases e
noncomputable def yH:List W->Option (List PyData)
 |[]=>some []
 |.d x::ws=>(yH ws).map (x :: ·)
 |_::_=>none
theorem yz:∀ds:List PyData,yH (ds.map .d)=some ds
 |[]=>rfl
 |d::ds=>by simp[yH,yz ds]
theorem xj:∀{ws:List W}{ds:List PyData},yH ws=some ds->ws=ds.map .d
 |[],ds,e=>by cases e;rfl
 |.d x::ws,ds,e=>by
  simp[yH]at e;obtain⟨es,h1,h2⟩:=e;subst h2;rw[xj h1];rfl
 |.own _::_,_,e=>by simp[yH]at e
 |.row _ _::_,_,e=>by simp[yH]at e
noncomputable def datW(O:OM):W->Option PyData
 |.d x=>some x
 |.own a=>match O a with
  |some (.lst ws)=>(yH ws).map .list
  |some (.grid rows)=>some (.list (rows.map .list))
  |_=>none
 |.row a i=>match O a with
  |some (.grid rows)=>(rows[i]?).map .list
  |_=>none
theorem uW{w:W}{x:PyData}(S:Sim K Γ O H)(r:relW K Γ w v)(e:datW O w=some x):Rep K H x v:=by
 cases w with
 |d y=>cases e;exact Rep.same S.z _ _ r
 |own a=>
  cases(show v=.ref a from r);simp only[datW]at e;split at e
  .rename_i ws h
   cases hd:yH ws with
   |none=>rw[hd]at e;cases e
   |some ds=>
    rw[hd]at e;cases e;obtain⟨_,vs,h1,h2⟩:=S.o _ _ h;rw[xj hd]at h2;exact⟨a,vs,rfl,SqL.of h1,Reps.same S.z _ _ (ya h2)⟩
  .rename_i rows h
   cases e;obtain⟨_,rs,hg,h1,hl,_,hrow⟩:=S.o _ _ h;refine⟨a,_,rfl,SqL.of h1,?_⟩;have key:∀(rows:List (List PyData)) (rs:List Addr),rs.length=rows.length->(∀(i:Nat) (r:Addr) (ds:List PyData),rs[i]? =some r->rows[i]? =some ds->∃vs,H r=some (.lst vs)/\Reps K Γ.Z ds vs)->Reps K H (rows.map .list) (rs.map V.ref):=by
    intro rows
    induction rows with
    |nil=>intro rs hl _;cases rs with|nil=>rfl|cons _ _=>simp at hl
    |cons row rows ih=>
     intro rs hl hr;cases rs with
     |nil=>simp at hl
     |cons r rs=>
      obtain⟨vs,h1,h2⟩:=hr 0 r row rfl rfl;exact⟨.ref r,_,rfl,⟨r,vs,rfl,SqL.of h1,Reps.same S.z _ _ h2⟩,ih rs (by simpa using hl) λi r ds a b=>hr (i+1) r ds (by simpa using a) (by simpa using b)⟩
   exact key rows rs hl λi r ds a b=>(hrow i r ds a b).2.2
  .cases e
 |row a i=>
  obtain⟨rs,r0,hg,hr,rfl⟩:=r;simp only[datW]at e;split at e
  .rename_i rows h
   cases hi:rows[i]? with
   |none=>rw[hi]at e;cases e
   |some ds=>
    rw[hi]at e;cases e;obtain⟨_,rs',hg',h1,hl,_,hrow⟩:=S.o _ _ h;rw[hg]at hg';cases hg';obtain⟨_,_,vs,h2,h3⟩:=hrow i r0 ds hr hi;exact⟨r0,vs,rfl,SqL.of h2,Reps.same S.z _ _ h3⟩
  .cases e
theorem Sim.free(S:Sim K Γ O H)(hp:H p=none):Γ.Z p=none/\O p=none/\Γ.G p=none:=by
 refine⟨S.z.free hp,?_,?_⟩
 .cases e:O p with
  |none=>rfl
  |some oo=>
   obtain⟨_,h⟩:=S.o _ _ e;cases oo with
   |lst ws=>obtain⟨vs,h1,_⟩:=h;rw[hp]at h1;cases h1
   |dK ws=>obtain⟨vs,h1,_⟩:=h;rw[hp]at h1;cases h1
   |ins C dx ws=>obtain⟨vs,h1,_⟩:=h;rw[hp]at h1;cases h1
   |grid rows=>obtain⟨rs,_,h1,_⟩:=h;rw[hp]at h1;cases h1
   |raw p=>obtain⟨o,h1,_⟩:=h;rw[hp]at h1;cases h1
 .cases e:Γ.G p with
  |none=>rfl
  |some rs=>
   obtain⟨o,h⟩:=S.gd _ _ e;rw[hp]at h;cases h
theorem ObjW.keep{oo:OO}(h:ObjW K Γ O H a oo)(hl:Le Γ Γ'){O':OM}(ha:H' a=H a)(hG:Γ'.G a=Γ.G a)(hr:∀rs r,Γ.G a=some rs->(∃rows,oo=.grid rows)->r∈rs->H' r=H r/\Γ'.Z r=Γ.Z r/\O' r=O r):ObjW K Γ' O' H' a oo:=by
 cases oo with
 |lst ws=>obtain⟨vs,h1,h2⟩:=h;exact⟨vs,by rw[ha];exact h1,h2.mono hl⟩
 |dK ws=>obtain⟨vs,h1,h2⟩:=h;exact⟨vs,by rw[ha];exact h1,h2.mono hl⟩
 |ins C dx ws=>obtain⟨vs,h1,h2⟩:=h;exact⟨vs,by rw[ha];exact h1,h2.mono hl⟩
 |raw p=>obtain⟨o,h1,h2⟩:=h;exact⟨o,by rw[ha];exact h1,λZ hZ=>h2 Z (hl.z.trans hZ)⟩
 |grid rows=>
  obtain⟨rs,hg,h1,h2,hn,h3⟩:=h;refine⟨rs,by rw[hG];exact hg,by rw[ha];exact h1,h2,hn,λi r ds e1 e2=>?_⟩;obtain⟨q1,q2,q3⟩:=hr rs r hg ⟨rows,rfl⟩ (List.mem_of_getElem? e1);obtain⟨z1,z2,vs,z3,z4⟩:=h3 i r ds e1 e2;exact⟨by rw[q2];exact z1,by rw[q3];exact z2,vs,by rw[q1];exact z3,Reps.same hl.z _ _ z4⟩
theorem Sim.rowIn(S:Sim K Γ O H){rows:List (List PyData)}{rs:List Addr}{r:Addr}(ho:O a=some (.grid rows))(hg:Γ.G a=some rs)(hr:r∈rs):Γ.Z r=none/\O r=none/\∃vs,H r=some (.lst vs):=by
 obtain⟨_,rs',hg',h1,hl,_,hrow⟩:=S.o _ _ ho;rw[hg]at hg';cases hg';obtain⟨i,hi,rfl⟩:=List.mem_iff_getElem.mp hr;obtain⟨z1,z2,vs,z3,_⟩:=hrow i rs[i] (rows[i]'(by omega)) (List.getElem?_eq_getElem hi) (List.getElem?_eq_getElem (by omega));exact⟨z1,z2,vs,z3⟩
theorem Sim.newD(S:Sim K Γ O H)(hp:H p=none)(o:HO):Le Γ ⟨upd Γ.Z p o,Γ.G,Γ.F⟩/\Sim K ⟨upd Γ.Z p o,Γ.G,Γ.F⟩ O (upd H p o):=by
 obtain⟨hz,hO,hG⟩:=S.free hp;have le:Le Γ ⟨upd Γ.Z p o,Γ.G,Γ.F⟩:=Le.zOnly (uU hz);have hF:=S.f.free hp;refine⟨le,⟨λb u e=>?_,λa oo e=>?_,λa rs e=>?_,ZN S.f hF,S.gn,S.fg,λa o' e=>?_,S.u⟩⟩
 .replace e:upd Γ.Z p o b=some u:=e
  by_cases hb:b=p
  .subst hb;rw[zX]at e;rw[zX];exact e
  .rw[zv hb]at e;rw[zv hb];exact S.z _ _ e
 .have hap:a≠p:=λz=>by rw[z,hO]at e;cases e
  obtain⟨h1,h2⟩:=S.o _ _ e;refine⟨by show upd Γ.Z p o a=none;rw[zv hap];exact h1,h2.keep le (zv hap) rfl λrs r hg ⟨rows,hrw⟩ hr=>?_⟩;subst hrw;obtain⟨_,_,vs,q⟩:=S.rowIn e hg hr;have hrp:r≠p:=λz=>by rw[z,hp]at q;cases q
  exact⟨zv hrp,zv hrp,rfl⟩
 .obtain⟨o',h⟩:=S.gd _ _ e
  exact⟨o',by rw[zv (yu h hp)];exact h⟩
 .obtain⟨q1,q2,q3⟩:=S.fd a o' e
  exact⟨(zv (yu e hF)).trans q1,q2,q3⟩
theorem Sim.newO(S:Sim K Γ O H)(hp:H p=none){o:HO}{oo:OO}(hg:∀rows,oo≠.grid rows)(ho:ObjW K Γ O (upd H p o) p oo):Sim K Γ (updO O p oo) (upd H p o):=by
 obtain⟨hz,hO,hG⟩:=S.free hp;have hF:=S.f.free hp;have k1:∀{x:Addr}{rx:List (List PyData)},updO O p oo x=some (.grid rx)->O x=some (.grid rx):=λ{x rx} h=>by
  by_cases hx:x=p
  .subst hx;rw[zf]at h;cases h;exact absurd rfl (hg rx)
  .rw[ze hx]at h;exact h
 refine⟨λb u e=>?_,λa o' e=>?_,λa rs e=>?_,ZN S.f hF,λa o' e hn=>?_,S.fg,λa o' e=>?_,λa b ra rb rs ss r e1 e2=>S.u a b ra rb rs ss r (k1 e1) (k1 e2)⟩
 .rw[zv (λz=>by rw[z,hz]at e;cases e)];exact S.z _ _ e
 .by_cases hap:a=p
  .subst hap
   rw[zf]at e;cases e;refine⟨hz,ho.keep (Le.refl _) rfl rfl λrs r h1 ⟨rows,h2⟩=>absurd h2 (hg rows)⟩
  .rw[ze hap]at e
   obtain⟨h1,h2⟩:=S.o _ _ e;refine⟨h1,h2.keep (Le.refl _) (zv hap) rfl λrs r hg' ⟨rows,hrw⟩ hr=>?_⟩;subst hrw;obtain⟨_,q2,vs,q⟩:=S.rowIn e hg' hr;have hrp:r≠p:=λz=>by rw[z,hp]at q;cases q
   exact⟨zv hrp,rfl,ze hrp⟩
 .obtain⟨o',h⟩:=S.gd _ _ e
  exact⟨o',by rw[zv (yu h hp)];exact h⟩
 .by_cases hap:a=p
  .rw[hap];exact hG
  .rw[ze hap]at e;exact S.gn a o' e hn
 .obtain⟨q1,q2,q3⟩:=S.fd a o' e
  exact⟨q1,by rw[ze (yu e hF)];exact q2,λb rows rs e1=>q3 b rows rs (k1 e1)⟩
theorem Sim.put(S:Sim K Γ O H){oo o1:OO}{o:HO}(h0:O a=some o1)(hn:∀rows,o1≠.grid rows)(hg:∀rows,oo≠.grid rows)(ho:ObjW K Γ O (upd H a o) a oo):Sim K Γ (updO O a oo) (upd H a o):=by
 obtain⟨hz,h1⟩:=S.o _ _ h0;have k1:∀{x:Addr}{rx:List (List PyData)},updO O a oo x=some (.grid rx)->O x=some (.grid rx):=λ{x rx} h=>by
  by_cases hx:x=a
  .subst hx;rw[zf]at h;cases h;exact absurd rfl (hg rx)
  .rw[ze hx]at h;exact h
 have nF:∀b o',Γ.F b=some o'->b≠a:=λb o' e z=>by
  have:=(S.fd b o' e).2.1;rw[z,h0]at this;cases this
 refine⟨λb u e=>?_,λx o' e=>?_,λx rs e=>?_,λb u e=>?_,λx o' e hn'=>?_,S.fg,λx o' e=>?_,λx b ra rb rs ss r e1 e2=>S.u x b ra rb rs ss r (k1 e1) (k1 e2)⟩
 .rw[zv (λz=>by rw[z,hz]at e;cases e)];exact S.z _ _ e
 .by_cases hap:x=a
  .subst hap
   rw[zf]at e;cases e;exact⟨hz,ho.keep (Le.refl _) rfl rfl λrs r h1 ⟨rows,h2⟩=>absurd h2 (hg rows)⟩
  .rw[ze hap]at e
   obtain⟨h1,h2⟩:=S.o _ _ e;refine⟨h1,h2.keep (Le.refl _) (zv hap) rfl λrs r hg' ⟨rows,hrw⟩ hr=>?_⟩;subst hrw;obtain⟨_,q2,vs,q⟩:=S.rowIn e hg' hr;have hrp:r≠a:=λz=>by rw[z,h0]at q2;cases q2
   exact⟨zv hrp,rfl,ze hrp⟩
 .obtain⟨o',h⟩:=S.gd _ _ e
  by_cases hx:x=a
  .exact⟨o,by rw[hx,zX]⟩
  .exact⟨o',by rw[zv hx];exact h⟩
 .rw[zv (nF _ _ e)];exact S.f _ _ e
 .by_cases hap:x=a
  .rw[hap];exact S.gn a o1 h0 hn
  .rw[ze hap]at e;exact S.gn x o' e hn'
 .obtain⟨q1,q2,q3⟩:=S.fd x o' e
  exact⟨q1,by rw[ze (nF _ _ e)];exact q2,λb rows rs e1=>q3 b rows rs (k1 e1)⟩
theorem Sim.drop(S:Sim K Γ O H)(a:Addr):Sim K Γ (del O a) H:=by
 have k1:∀{x:Addr}{o:OO},del O a x=some o->x≠a/\O x=some o:=λ{x o} h=>by
  by_cases hx:x=a
  .subst hx;rw[xt]at h;cases h
  .rw[vj hx]at h;exact⟨hx,h⟩
 refine⟨S.z,λx o e=>?_,S.gd,S.f,λx o e hn=>S.gn x o (k1 e).2 hn,S.fg,λx o e=>⟨(S.fd x o e).1,by unfold del;split;rfl;exact(S.fd x o e).2.1,λb rows rs e1=>(S.fd x o e).2.2 b rows rs (k1 e1).2⟩,λx b ra rb rs ss r e1 e2=>S.u x b ra rb rs ss r (k1 e1).2 (k1 e2).2⟩;obtain⟨hx,e⟩:=k1 e;obtain⟨h1,h2⟩:=S.o _ _ e;refine⟨h1,h2.keep (Le.refl _) rfl rfl λrs r hg ⟨rows,hrw⟩ hr=>?_⟩;subst hrw;obtain⟨_,q2,_⟩:=S.rowIn e hg hr;refine⟨rfl,rfl,?_⟩;rw[q2];unfold del;split
 .rfl
 .exact q2
theorem Sim.freeze(S:Sim K Γ O H)(h:O a=some (.lst (ds.map .d))):∃Γ',Le Γ Γ'/\Sim K Γ' (del O a) H/\relW K Γ' (.d (.list ds)) (.ref a):=by
 obtain⟨hz,vs,h1,h2⟩:=S.o _ _ h;have le:Le Γ ⟨upd Γ.Z a (.lst vs),Γ.G,Γ.F⟩:=Le.zOnly (uU hz);have S1:=S.drop a;have nF:∀b o',Γ.F b=some o'->b≠a:=λb o' e z=>by
  have:=(S.fd b o' e).2.1;rw[z,h]at this;cases this
 refine⟨⟨upd Γ.Z a (.lst vs),Γ.G,Γ.F⟩,le,⟨λb u e=>?_,λx o e=>?_,S.gd,S.f,S1.gn,S.fg,λx o e=>⟨(zv (nF x o e)).trans (S1.fd x o e).1,(S1.fd x o e).2⟩,S1.u⟩,⟨a,vs,rfl,SqL.of zX,Reps.same le.z _ _ (ya h2)⟩⟩
 .replace e:upd Γ.Z a (.lst vs) b=some u:=e
  by_cases hb:b=a
  .subst hb;rw[zX]at e;cases e;exact h1
  .rw[zv hb]at e;exact S.z _ _ e
 .have hx:x≠a:=λz=>by rw[z,xt]at e;cases e
  obtain⟨q1,q2⟩:=S1.o _ _ e;refine⟨by show upd Γ.Z a _ x=none;rw[zv hx];exact q1,q2.keep le rfl rfl λrs r hg ⟨rows,hrw⟩ hr=>⟨rfl,?_,rfl⟩⟩;subst hrw;rw[vj hx]at e;obtain⟨_,q2,_⟩:=S.rowIn e hg hr;exact zv (λz=>by rw[z,h]at q2;cases q2)
theorem Sim.cell(S:Sim K Γ O H){r:Addr}{rows:List (List PyData)}{rs:List Addr}{j:Nat}{x:PyData}(h0:O a=some (.grid rows))(hg:Γ.G a=some rs)(hr:rs[i]? =some r)(hd:rows[i]? =some ds)
  (hv:H r=some (.lst vs))(rx:Rep K Γ.Z x v):Sim K Γ (updO O a (.grid (rows.set i (ds.set j x)))) (upd H r (.lst (vs.set j v))):=by
 obtain⟨hz,rs',hg',h1,hl,hn,hrow⟩:=S.o _ _ h0;rw[hg]at hg';cases hg';obtain⟨z1,z2,vs',z3,z4⟩:=hrow i r ds hr hd;rw[hv]at z3;cases z3;have har:a≠r:=λe=>by rw[<-e,h0]at z2;cases z2
 have nF:∀b o',Γ.F b=some o'->b≠r:=λb o' e z=>(S.fd b o' e).2.2 a rows rs h0 hg (by rw[z];exact List.mem_of_getElem? hr);have nFa:∀b o',Γ.F b=some o'->b≠a:=λb o' e z=>by
  have:=(S.fd b o' e).2.1;rw[z,h0]at this;cases this
 have kg:∀{b:Addr}{rb:List (List PyData)},updO O a (.grid (rows.set i (ds.set j x))) b=some (.grid rb)->∃ry,O b=some (.grid ry):=λ{b rb} e1=>by
  by_cases hx:b=a
  .exact⟨rows,by rw[hx];exact h0⟩
  .rw[ze hx]at e1;exact⟨rb,e1⟩
 refine⟨λb u e=>?_,λb oo e=>?_,λb ss e=>?_,λb u e=>by rw[zv (nF _ _ e)];exact S.f _ _ e,λb o' e hn'=>?_,S.fg,λb o' e=>⟨(S.fd b o' e).1,by rw[ze (nFa _ _ e)];exact(S.fd b o' e).2.1,λc rc ss e1 g1=>by obtain⟨ry,e2⟩:=kg e1;exact(S.fd b o' e).2.2 c ry ss e2 g1⟩,λb c rb rc ss tt q e1 e2 h3 h4 h5 h6=>?_⟩
 .rw[zv (λz=>by rw[z,z1]at e;cases e)];exact S.z _ _ e
 .by_cases hb:b=a
  .subst hb
   rw[zf]at e;cases e;refine⟨hz,rs,hg,by rw[zv har];exact h1,by rw[List.length_set];exact hl,hn,λk q es e1 e2=>?_⟩;have hq:O q=none:=(S.rowIn h0 hg (List.mem_of_getElem? e1)).2.1;have hqb:q≠b:=λe=>by rw[e,h0]at hq;cases hq
   by_cases hk:k=i
   .subst hk
    rw[hr]at e1;cases e1;rw[List.getElem?_set_self (List.getElem?_eq_some_iff.mp hd).1]at e2;cases e2;refine⟨z1,by rw[ze hqb];exact z2,_,zX,?_⟩;have hw:=yG (Γ:=Γ) z4;have hw2:=Paired.setP hw (show relW K Γ (.d x) v from rx) (i:=j);rw[<-List.map_set]at hw2;exact ya hw2
   .have hne:q≠r:=λe=>by
     rw[e]at e1;obtain⟨l1,g1⟩:=List.getElem?_eq_some_iff.mp e1;obtain⟨l2,g2⟩:=List.getElem?_eq_some_iff.mp hr;exact hk ((List.getElem_inj hn).mp (g1.trans g2.symm))
    rw[List.getElem?_set_ne (Ne.symm hk)]at e2;obtain⟨y1,y2,ws,y3,y4⟩:=hrow k q es e1 e2;exact⟨y1,by rw[ze hqb];exact y2,ws,by rw[zv hne];exact y3,y4⟩
  .rw[ze hb]at e
   obtain⟨q1,q2⟩:=S.o _ _ e;have hbr:b≠r:=λz=>by rw[z,z2]at e;cases e
   refine⟨q1,q2.keep (Le.refl _) (zv hbr) rfl λss q hgs ⟨rows',hrw⟩ hq=>?_⟩;subst hrw;obtain⟨w1,w2,ws,w3⟩:=S.rowIn e hgs hq;have hqr:q≠r:=λz=>hb (S.u b a rows' rows ss rs q e h0 hgs hg hq (by rw[z];exact List.mem_of_getElem? hr));exact⟨zv hqr,rfl,ze (λz=>by rw[z,h0]at w2;cases w2)⟩
 .obtain⟨o,h⟩:=S.gd _ _ e
  by_cases hb:b=r
  .exact⟨_,by rw[hb,zX]⟩
  .exact⟨o,by rw[zv hb];exact h⟩
 .by_cases hb:b=a
  .subst hb;rw[zf]at e;cases e;exact absurd rfl (hn' _)
  .rw[ze hb]at e;exact S.gn b o' e hn'
 .obtain⟨r1,f1⟩:=kg e1
  obtain⟨r2,f2⟩:=kg e2;exact S.u b c r1 r2 ss tt q f1 f2 h3 h4 h5 h6
theorem Sim.absorb(S:Sim K Γ O H){rows:List (List PyData)}{rs:List Addr}(h0:O a=some (.grid rows))(hg:Γ.G a=some rs)(hb:O b=some (.lst (ds.map .d))) :
  H a=some (.lst (rs.map V.ref))/\rs.length=rows.length/\∃Γ',Le Γ Γ'/\Sim K Γ' (updO (del O b) a (.grid (rows++[ds]))) (upd H a (.lst (rs.map V.ref++[.ref b]))):=by
 obtain⟨hz,rs',hg',h1,hl,hn,hrow⟩:=S.o _ _ h0;rw[hg]at hg';cases hg';obtain⟨hzb,vb,hb1,hb2⟩:=S.o _ _ hb;have hab:a≠b:=λe=>by rw[e,hb]at h0;cases h0
 have hbr:b∉rs:=λm=>by
  obtain⟨_,q,_⟩:=S.rowIn h0 hg m;rw[hb]at q;cases q
 have le:Le Γ ⟨Γ.Z,fun x=>if x=a then some (rs ++ [b]) else Γ.G x,Γ.F⟩:=⟨rfl,Same.refl _,fun x ss h=>by
  by_cases hx:x=a
  .subst hx;rw[hg]at h;cases h;exact⟨[b],by simp⟩
  .exact⟨[],by simp[hx,h]⟩⟩
 have nFa:∀c o',Γ.F c=some o'->c≠a:=λc o' e z=>by
  have:=(S.fd c o' e).2.1;rw[z,h0]at this;cases this
 have nFb:∀c o',Γ.F c=some o'->c≠b:=λc o' e z=>by
  have:=(S.fd c o' e).2.1;rw[z,hb]at this;cases this
 have k1:∀{x:Addr}{rx:List (List PyData)},updO (del O b) a (.grid (rows++[ds])) x=some (.grid rx)->∃ry,O x=some (.grid ry):=λ{x rx} h=>by
  by_cases hx:x=a
  .exact⟨rows,by rw[hx];exact h0⟩
  .rw[ze hx]at h
   by_cases hxb:x=b
   .rw[hxb,xt]at h;cases h
   .rw[vj hxb]at h;exact⟨rx,h⟩
 refine⟨h1,hl,_,le,⟨λx u e=>?_,λx oo e=>?_,λx ss e=>?_,λc u e=>by rw[zv (nFa _ _ e)];exact S.f _ _ e,λx o' e hn'=>?_,λc o' e=>by have hne:=nFa c o' e;simpa[hne]using S.fg c o' e,λc o' e=>⟨(S.fd c o' e).1,by rw[ze (nFa _ _ e),vj (nFb _ _ e)];exact(S.fd c o' e).2.1,λd rd ss e1 g1=>?_⟩,λx y ra rb ss tt r e1 e2 g1 g2 m1 m2=>?_⟩⟩
 .rw[zv (λz=>by rw[z,show({ Z:=Γ.Z,G:=λx=>if x=a then some (rs++[b])else Γ.G x,F:=Γ.F }:Gh).Z a=none from hz]at e;cases e)];exact S.z _ _ e
 .by_cases hx:x=a
  .subst hx
   rw[zf]at e;cases e;refine⟨hz,rs++[b],by simp,by rw[zX,List.map_append];rfl,by simp[hl],?_,λi r es e1 e2=>?_⟩
   .rw[List.nodup_append]
    exact⟨hn,by simp,λu hu v hv=>by simp at hv;subst hv;exact λz=>hbr (by rw[<-z];exact hu)⟩
   .by_cases hi:i<rs.length
    .rw[List.getElem?_append_left hi]at e1
     rw[List.getElem?_append_left (by omega)]at e2;obtain⟨y1,y2,ws,y3,y4⟩:=hrow i r es e1 e2;have hrx:r≠x:=λz=>by rw[z,h0]at y2;cases y2
     refine⟨y1,?_,ws,by rw[zv hrx];exact y3,y4⟩;rw[ze hrx];unfold del;split
     .rfl
     .exact y2
    .have hi2:i=rs.length:=by
      have:=(List.getElem?_eq_some_iff.mp e1).1;simp at this;omega
     subst hi2;rw[List.getElem?_append_right (Nat.le_refl _)]at e1;simp at e1;subst e1;rw[hl,List.getElem?_append_right (Nat.le_refl _)]at e2;simp at e2;subst e2;exact⟨hzb,by rw[ze (Ne.symm hab),xt],vb,by rw[zv (Ne.symm hab)];exact hb1,ya (Γ:=Γ) hb2⟩
  .rw[ze hx]at e
   have hxb:x≠b:=λz=>by rw[z,xt]at e;cases e
   rw[vj hxb]at e;obtain⟨q1,q2⟩:=S.o _ _ e;refine⟨q1,q2.keep le (zv hx) (by simp[hx]) λss r hgs ⟨rows',hrw⟩ hq=>?_⟩;subst hrw;obtain⟨w1,w2,ws,w3⟩:=S.rowIn e hgs hq;have hra:r≠a:=λz=>by rw[z,h0]at w2;cases w2
   have hrb:r≠b:=λz=>by rw[z,hb]at w2;cases w2
   exact⟨zv hra,rfl,by rw[ze hra,vj hrb]⟩
 .by_cases hx:x=a
  .exact⟨_,by rw[hx,zX]⟩
  .obtain⟨o,h⟩:=S.gd x ss (by simpa[hx]using e)
   exact⟨o,by rw[zv hx];exact h⟩
 .by_cases hx:x=a
  .subst hx;rw[zf]at e;cases e;exact absurd rfl (hn' _)
  .rw[ze hx]at e
   by_cases hxb:x=b
   .rw[hxb,xt]at e;cases e
   .rw[vj hxb]at e
    simpa[hx]using S.gn x o' e hn'
 .by_cases hd:d=a
  .subst hd
   simp at g1;subst g1;intro m;rcases List.mem_append.mp m with m|m
   .exact(S.fd c o' e).2.2 d rows rs h0 hg m
   .simp at m;exact nFb _ _ e m
  .obtain⟨ry,e2⟩:=k1 e1
   exact(S.fd c o' e).2.2 d ry ss e2 (by simpa[hd]using g1)
 .obtain⟨r1,f1⟩:=k1 e1
  obtain⟨r2,f2⟩:=k1 e2;have nb:∀{z:Addr}{rz:List (List PyData)}{sz:List Addr},O z=some (.grid rz)->Γ.G z=some sz->b∉sz:=λhz1 hz2 m=>by
   obtain⟨_,q,_⟩:=S.rowIn hz1 hz2 m;rw[hb]at q;cases q
  by_cases hx:x=a
  .by_cases hy:y=a
   .rw[hx,hy]
   .have g2':Γ.G y=some tt:=by simpa[hy]using g2
    rw[hx]at g1 ⊢;simp at g1;subst g1;rcases List.mem_append.mp m1 with m|m
    .exact S.u a y rows r2 rs tt r h0 f2 hg g2' m m2
    .simp at m;subst m;exact absurd m2 (nb f2 g2')
  .have g1':Γ.G x=some ss:=by simpa[hx]using g1
   by_cases hy:y=a
   .rw[hy]at g2 ⊢
    simp at g2;subst g2;rcases List.mem_append.mp m2 with m|m
    .exact S.u x a r1 rows ss rs r f1 h0 g1' hg m1 m
    .simp at m;subst m;exact absurd m1 (nb f1 g1')
   .exact S.u x y r1 r2 ss tt r f1 f2 g1' (by simpa[hy]using g2) m1 m2
theorem relW.setF{F:Hp}:∀{w:W}{v:V},relW K Γ w v->relW K ⟨Γ.Z,Γ.G,F⟩ w v
 |.d _,_,h=>h
 |.own _,_,h=>h
 |.row _ _,_,h=>h
theorem relR.setF{F:Hp}{ρ:List (Option W)}(r:relR K Γ ρ σ):relR K ⟨Γ.Z,Γ.G,F⟩ ρ σ:=Paired.mapP r λa b h=>by
 cases a with
 |none=>trivial
 |some w=>cases b with
  |none=>exact h
  |some v=>exact relW.setF h
theorem ObjW.setF{F:Hp}{oo:OO}(h:ObjW K Γ O H a oo):ObjW K ⟨Γ.Z,Γ.G,F⟩ O H a oo:=by
 cases oo with
 |lst ws=>obtain⟨vs,h1,h2⟩:=h;exact⟨vs,h1,Paired.mapP h2 λ_ _ z=>z.setF⟩
 |dK ws=>obtain⟨vs,h1,h2⟩:=h;exact⟨vs,h1,Paired.mapP h2 λ_ _ z=>⟨z.1,z.2.setF⟩⟩
 |ins C dx ws=>obtain⟨vs,h1,h2⟩:=h;exact⟨vs,h1,Paired.mapP h2 λ_ _ z=>⟨z.1,z.2.setF⟩⟩
 |grid rows=>exact h
 |raw p=>exact h
theorem Sim.frameNew(S:Sim K Γ O H)(hp:H p=none)(o:HO):Sim K ⟨Γ.Z,Γ.G,upd Γ.F p o⟩ O (upd H p o):=by
 obtain⟨hz,hO,hG⟩:=S.free hp;have key:∀a o',upd Γ.F p o a=some o'->a=p\/(a≠p/\Γ.F a=some o'):=λa o' e=>by
  by_cases ha:a=p
  .exact .inl ha
  .rw[zv ha]at e;exact .inr ⟨ha,e⟩
 refine⟨λb u e=>?_,λa oo e=>?_,λa rs e=>?_,λb u e=>?_,S.gn,λa o' e=>?_,λa o' e=>?_,S.u⟩
 .rw[zv (λz=>by rw[z,show({ Z:=Γ.Z,G:=Γ.G,F:=upd Γ.F p o }:Gh).Z p=none from hz]at e;cases e)];exact S.z _ _ e
 .have hap:a≠p:=λz=>by rw[z,hO]at e;cases e
  obtain⟨h1,h2⟩:=S.o _ _ e;refine⟨h1,(h2.keep (Le.refl _) (zv hap) rfl λrs r hg ⟨rows,hrw⟩ hr=>?_).setF⟩;subst hrw;obtain⟨_,_,vs,q⟩:=S.rowIn e hg hr;exact⟨zv (λz=>by rw[z,hp]at q;cases q),rfl,rfl⟩
 .obtain⟨o',h⟩:=S.gd _ _ e
  exact⟨o',by rw[zv (yu h hp)];exact h⟩
 .replace e:upd Γ.F p o b=some u:=e
  rcases key b u e with rfl|⟨hb,e'⟩
  .rw[zX]at e ⊢;exact e
  .rw[zv hb];exact S.f _ _ e'
 .rcases key a o' e with rfl|⟨hb,e'⟩
  .exact hG
  .exact S.fg _ _ e'
 .rcases key a o' e with rfl|⟨hb,e'⟩
  .refine⟨hz,hO,λb rows rs e1 g1 m=>?_⟩
   obtain⟨_,_,vs,q⟩:=S.rowIn e1 g1 m;rw[hp]at q;cases q
  .exact S.fd _ _ e'
theorem Sim.framePut(S:Sim K Γ O H){o1:HO}(h:Γ.F a=some o1)(o:HO):Sim K ⟨Γ.Z,Γ.G,upd Γ.F a o⟩ O (upd H a o):=by
 obtain⟨hz,hO,hr⟩:=S.fd _ _ h;have hG:=S.fg _ _ h;have key:∀b o',upd Γ.F a o b=some o'->b=a\/(b≠a/\Γ.F b=some o'):=λb o' e=>by
  by_cases ha:b=a
  .exact .inl ha
  .rw[zv ha]at e;exact .inr ⟨ha,e⟩
 refine⟨λb u e=>?_,λb oo e=>?_,λb rs e=>?_,λb u e=>?_,S.gn,λb o' e=>?_,λb o' e=>?_,S.u⟩
 .rw[zv (λz=>by rw[z,show({ Z:=Γ.Z,G:=Γ.G,F:=upd Γ.F a o }:Gh).Z a=none from hz]at e;cases e)];exact S.z _ _ e
 .have hap:b≠a:=λz=>by rw[z,hO]at e;cases e
  obtain⟨h1,h2⟩:=S.o _ _ e;refine⟨h1,(h2.keep (Le.refl _) (zv hap) rfl λrs r hg ⟨rows,hrw⟩ hm=>?_).setF⟩;subst hrw;exact⟨zv (λz=>hr b rows rs e hg (by rw[<-z];exact hm)),rfl,rfl⟩
 .obtain⟨o',h⟩:=S.gd _ _ e
  by_cases hb:b=a
  .exact⟨o,by rw[hb,zX]⟩
  .exact⟨o',by rw[zv hb];exact h⟩
 .replace e:upd Γ.F a o b=some u:=e
  rcases key b u e with rfl|⟨hb,e'⟩
  .rw[zX]at e ⊢;exact e
  .rw[zv hb];exact S.f _ _ e'
 .rcases key b o' e with rfl|⟨hb,e'⟩
  .exact hG
  .exact S.fg _ _ e'
 .rcases key b o' e with rfl|⟨hb,e'⟩
  .exact⟨hz,hO,hr⟩
  .exact S.fd _ _ e'
theorem Sim.frameOwn(S:Sim K Γ O H){ws:List W}(h:O a=some (.lst ws)):∃vs,H a=some (.lst vs)/\relWs K Γ ws vs/\Sim K ⟨Γ.Z,Γ.G,upd Γ.F a (.lst vs)⟩ (del O a) H:=by
 obtain⟨hz,vs,h1,h2⟩:=S.o _ _ h;have hG:=S.gn _ _ h (by intro _ z;cases z);have S1:=S.drop a;have key:∀b o',upd Γ.F a (.lst vs) b=some o'->b=a\/(b≠a/\Γ.F b=some o'):=λb o' e=>by
  by_cases ha:b=a
  .exact .inl ha
  .rw[zv ha]at e;exact .inr ⟨ha,e⟩
 refine⟨vs,h1,h2,⟨S.z,λb oo e=>⟨(S1.o b oo e).1,(S1.o b oo e).2.setF⟩,S.gd,λb u e=>?_,S1.gn,λb o' e=>?_,λb o' e=>?_,S1.u⟩⟩
 .replace e:upd Γ.F a (.lst vs) b=some u:=e
  rcases key b u e with rfl|⟨hb,e'⟩
  .rw[zX]at e;cases e;exact h1
  .exact S.f _ _ e'
 .rcases key b o' e with rfl|⟨hb,e'⟩
  .exact hG
  .exact S.fg _ _ e'
 .rcases key b o' e with rfl|⟨hb,e'⟩
  .refine⟨hz,xt,λc rows rs e1 g1 m=>?_⟩
   obtain⟨_,q,_⟩:=S1.rowIn e1 g1 m;have hc:c≠b:=λz=>by rw[z,xt]at e1;cases e1
   rw[vj hc]at e1;have:=(S.rowIn e1 g1 m).2.1;rw[h]at this;cases this
  .exact S1.fd _ _ e'
theorem Sim.unframe(S:Sim K Γ O H){F:Hp}(hF:Γ.F=upd F a (.lst vs))(h0:F a=none)(hr:Reps K Γ.Z ds vs) :
  Same Γ.Z (upd Γ.Z a (.lst vs))/\Sim K ⟨upd Γ.Z a (.lst vs),Γ.G,F⟩ O H/\relW K ⟨upd Γ.Z a (.lst vs),Γ.G,F⟩ (.d (.list ds)) (.ref a):=by
 have hFa:Γ.F a=some (.lst vs):=by rw[hF,zX]
 obtain⟨hz,hO,hrow⟩:=S.fd _ _ hFa;have le:Le Γ ⟨upd Γ.Z a (.lst vs),Γ.G,Γ.F⟩:=Le.zOnly (uU hz);have kF:∀b o,F b=some o->b≠a/\Γ.F b=some o:=λb o e=>by
  have hb:b≠a:=λz=>by rw[z,h0]at e;cases e
  exact⟨hb,by rw[hF,zv hb];exact e⟩
 refine⟨uU hz,⟨λb u e=>?_,λb oo e=>?_,S.gd,λb u e=>S.f _ _ (kF b u e).2,S.gn,λb o e=>S.fg b o (kF b o e).2,λb o e=>⟨(zv (kF b o e).1).trans (S.fd b o (kF b o e).2).1,(S.fd b o (kF b o e).2).2⟩,S.u⟩,⟨a,vs,rfl,SqL.of zX,Reps.same (uU hz) _ _ hr⟩⟩
 .replace e:upd Γ.Z a (.lst vs) b=some u:=e
  by_cases hb:b=a
  .subst hb;rw[zX]at e;cases e;exact S.f _ _ hFa
  .rw[zv hb]at e;exact S.z _ _ e
 .obtain⟨q1,q2⟩:=S.o _ _ e
  have hb:b≠a:=λz=>by rw[z,hO]at e;cases e
  refine⟨(zv hb).trans q1,(q2.keep le rfl rfl λrs r hg ⟨rows,hrw⟩ hm=>⟨rfl,?_,rfl⟩).setF⟩;subst hrw;exact zv (λz=>hrow b rows rs e hg (by rw[<-z];exact hm))
theorem Sim.gridify(S:Sim K Γ O H){rs:List Addr}{rows:List (List PyData)}{F:Hp}(h0:F a=none)(hFa:Γ.F a=some (.lst (rs.map V.ref)))(hn:rs.Nodup)(har:a∉rs)(hl:rs.length=rows.length)
  (hrow:∀(i:Nat) (r:Addr) (ds:List PyData),rs[i]? =some r->rows[i]? =some ds->F r=none/\∃vs,Γ.F r=some (.lst vs)/\Reps K Γ.Z ds vs)(hF:∀x,x≠a->x∉rs->Γ.F x=F x) :
  O a=none/\∃G',(∀b ss,Γ.G b=some ss->G' b=some ss)/\Sim K ⟨Γ.Z,G',F⟩ (updO O a (.grid rows)) H:=by
 obtain⟨hz,hO,_⟩:=S.fd _ _ hFa;have hG:=S.fg _ _ hFa;have hmem:∀r∈rs,F r=none/\∃vs,Γ.F r=some (.lst vs):=λr hr=>by
  obtain⟨i,hi,rfl⟩:=List.mem_iff_getElem.mp hr;obtain⟨q1,vs,q2,_⟩:=hrow i rs[i] (rows[i]'(by omega)) (List.getElem?_eq_getElem hi) (List.getElem?_eq_getElem (by omega));exact⟨q1,vs,q2⟩
 have kF:∀b o,F b=some o->b≠a/\b∉rs/\Γ.F b=some o:=λb o e=>by
  have hb:b≠a:=λz=>by rw[z,h0]at e;cases e
  have hb2:b∉rs:=λm=>by rw[(hmem b m).1]at e;cases e
  exact⟨hb,hb2,by rw[hF b hb hb2];exact e⟩
 have le:Le Γ ⟨Γ.Z,fun b=>if b=a then some rs else Γ.G b,Γ.F⟩:=⟨rfl,Same.refl _,fun b ss h=>⟨[],by
  have:b≠a:=λe=>by rw[e,hG]at h;cases h
  simp[this,h]⟩⟩
 refine⟨hO,fun b=>if b=a then some rs else Γ.G b,fun b ss h=>by
  have:b≠a:=λe=>by rw[e,hG]at h;cases h
  simp[this,h],⟨S.z,λb oo e=>?_,λb ss e=>?_,λb u e=>S.f _ _ (kF b u e).2.2,λb oo e hne=>?_,λb o e=>?_,λb o e=>?_,λb c rb rc ss tt r e1 e2 g1 g2 m1 m2=>?_⟩⟩
 .by_cases hb:b=a
  .subst hb
   rw[zf]at e;cases e;refine⟨hz,rs,by simp,S.f _ _ hFa,hl,hn,λi r ds q1 q2=>?_⟩;obtain⟨_,vs,q3,q4⟩:=hrow i r ds q1 q2;obtain⟨y1,y2,_⟩:=S.fd _ _ q3;refine⟨y1,?_,vs,S.f _ _ q3,q4⟩;rw[ze (λz=>har (by rw[<-z];exact List.mem_of_getElem? q1))];exact y2
  .rw[ze hb]at e
   obtain⟨q1,q2⟩:=S.o _ _ e;refine⟨q1,(q2.keep le rfl (by simp[hb]) λss r hg ⟨rows',hrw⟩ hm=>⟨rfl,rfl,?_⟩).setF⟩;subst hrw;obtain⟨_,q,_⟩:=S.rowIn e hg hm;exact ze (λz=>(S.fd _ _ hFa).2.2 b rows' ss e hg (by rw[<-z];exact hm))
 .by_cases hb:b=a
  .rw[hb];exact⟨_,S.f _ _ hFa⟩
  .exact S.gd b ss (by simpa[hb]using e)
 .by_cases hb:b=a
  .subst hb;rw[zf]at e;cases e;exact absurd rfl (hne _)
  .rw[ze hb]at e
   simpa[hb]using S.gn b oo e hne
 .have:=(kF b o e).1
  simpa[this]using S.fg b o (kF b o e).2.2
 .obtain⟨k1,k2,k3⟩:=kF b o e
  obtain⟨y1,y2,y3⟩:=S.fd _ _ k3;refine⟨y1,by rw[ze k1];exact y2,λc rows' ss e1 g1=>?_⟩;by_cases hc:c=a
  .subst hc;simp at g1;subst g1;exact k2
  .rw[ze hc]at e1
   exact y3 c rows' ss e1 (by simpa[hc]using g1)
 .by_cases hb:b=a
  .by_cases hc:c=a
   .rw[hb,hc]
   .subst hb
    simp at g1;subst g1;rw[ze hc]at e2;obtain⟨_,vs,q⟩:=hmem r m1;exact absurd m2 ((S.fd _ _ q).2.2 c rc tt e2 (by simpa[hc]using g2))
  .rw[ze hb]at e1
   by_cases hc:c=a
   .subst hc
    simp at g2;subst g2;obtain⟨_,vs,q⟩:=hmem r m2;exact absurd m1 ((S.fd _ _ q).2.2 b rb ss e1 (by simpa[hb]using g1))
   .rw[ze hc]at e2
    exact S.u b c rb rc ss tt r e1 e2 (by simpa[hb]using g1) (by simpa[hc]using g2) m1 m2
end
noncomputable abbrev WS:=List (Option W)
noncomputable abbrev WK:=W->OM->Prop
noncomputable abbrev TEW:=WS->OM->WK->Prop
noncomputable abbrev TTW:=WS->OM->(Bool->OM->Prop)->Prop
noncomputable abbrev TAW:=WS->OM->(List W->OM->Prop)->Prop
structure EndsW where
 nx:WS->OM->Prop
 rt:WK
 bk:WS->OM->Prop:=λ_ _=>False
 ct:WS->OM->Prop:=λ_ _=>False
noncomputable abbrev TSW:=EndsW->WS->OM->Prop
noncomputable abbrev TGW:=W->WS->OM->(WS->OM->Prop)->Prop
noncomputable abbrev TGsW:=List PyData->WS->OM->(WS->OM->Prop)->Prop
noncomputable abbrev R2W:=W->W->OM->WK->Prop
section
variable (K:W.Frag)
noncomputable def RefE(t:TE)(T:TEW):Prop:=∀Γ O H ρ σ,Sim K Γ O H->relR K Γ ρ σ->∀(Q:VK) (R:WK),T ρ O R->(∀Γ' O' H' w v,Le Γ Γ'->Sim K Γ' O' H'->relW K Γ' w v->R w O'->Q v H')->t σ H Q
noncomputable def xu(t:TT)(T:TTW):Prop:=∀Γ O H ρ σ,Sim K Γ O H->relR K Γ ρ σ->∀(Q:Bool->Hp->Prop) (R:Bool->OM->Prop),T ρ O R->(∀Γ' O' H' b,Le Γ Γ'->Sim K Γ' O' H'->R b O'->Q b H')->t σ H Q
noncomputable def xf(t:TA)(T:TAW):Prop:=∀Γ O H ρ σ,Sim K Γ O H->relR K Γ ρ σ->∀(Q:List V->Hp->Prop) (R:List W->OM->Prop),T ρ O R->(∀Γ' O' H' ws vs,Le Γ Γ'->Sim K Γ' O' H'->relWs K Γ' ws vs->R ws O'->Q vs H')->t σ H Q
structure EndsR (Γ:Gh) (D:Ends) (DW:EndsW):Prop where
 nx:∀Γ' O' H' ρ' σ',Le Γ Γ'->Sim K Γ' O' H'->relR K Γ' ρ' σ'->DW.nx ρ' O'->D.nx σ' H'
 rt:∀Γ' O' H' w v,Le Γ Γ'->Sim K Γ' O' H'->relW K Γ' w v->DW.rt w O'->D.rt v H'
 bk:∀Γ' O' H' ρ' σ',Le Γ Γ'->Sim K Γ' O' H'->relR K Γ' ρ' σ'->DW.bk ρ' O'->D.bk σ' H'
 ct:∀Γ' O' H' ρ' σ',Le Γ Γ'->Sim K Γ' O' H'->relR K Γ' ρ' σ'->DW.ct ρ' O'->D.ct σ' H'
noncomputable def RefS(t:TS)(T:TSW):Prop:=∀Γ O H ρ σ D DW,Sim K Γ O H->relR K Γ ρ σ->T DW ρ O->EndsR K Γ D DW->t D σ H
noncomputable def RefG(t:TG)(T:TGW):Prop:=∀Γ O H ρ σ w v,Sim K Γ O H->relR K Γ ρ σ->relW K Γ w v->∀(Q:St->Hp->Prop) (R:WS->OM->Prop),T w ρ O R->(∀Γ' O' H' ρ' σ',Le Γ Γ'->Sim K Γ' O' H'->relR K Γ' ρ' σ'->R ρ' O'->Q σ' H')->t v σ H Q
noncomputable def RefGs(t:TGs)(T:TGsW):Prop:=∀Γ O H ρ σ ds vs,Sim K Γ O H->relR K Γ ρ σ->Reps K Γ.Z ds vs->∀(Q:St->Hp->Prop) (R:WS->OM->Prop),T ds ρ O R->(∀Γ' O' H' ρ' σ',Le Γ Γ'->Sim K Γ' O' H'->relR K Γ' ρ' σ'->R ρ' O'->Q σ' H')->t vs σ H Q
noncomputable def RefR(r:R2)(rw:R2W):Prop:=∀Γ O H x y v u,Sim K Γ O H->relW K Γ x v->relW K Γ y u->∀(Q:VK) (R:WK),rw x y O R->(∀Γ' O' H' w v,Le Γ Γ'->Sim K Γ' O' H'->relW K Γ' w v->R w O'->Q v H')->r v u H Q
noncomputable def RefU(r:V->Hp->VK->Prop)(rw:W->OM->WK->Prop):Prop:=∀Γ O H x v,Sim K Γ O H->relW K Γ x v->∀(Q:VK) (R:WK),rw x O R->(∀Γ' O' H' w v,Le Γ Γ'->Sim K Γ' O' H'->relW K Γ' w v->R w O'->Q v H')->r v H Q
noncomputable def RefC(r:List V->Hp->VK->Prop)(rw:List W->OM->WK->Prop):Prop:=∀Γ O H xs vs,Sim K Γ O H->relWs K Γ xs vs->∀(Q:VK) (R:WK),rw xs O R->(∀Γ' O' H' w v,Le Γ Γ'->Sim K Γ' O' H'->relW K Γ' w v->R w O'->Q v H')->r vs H Q
noncomputable def RefM(ty:String)(r:V->List V->Hp->VK->Prop)(rw:W->List W->OM->WK->Prop):Prop:=∀Γ O H x v xs vs,Sim K Γ O H->relW K Γ x v->relWs K Γ xs vs->∀(Q:VK) (R:WK),rw x xs O R->(∀Γ' O' H' w v,Le Γ Γ'->Sim K Γ' O' H'->relW K Γ' w v->R w O'->Q v H')->r v vs H Q
end
theorem EndsR.mono{Γ Γ':Gh}{D:Ends}{DW:EndsW}(h:EndsR K Γ D DW)(l:Le Γ Γ'):EndsR K Γ' D DW:=
 ⟨λ_ _ _ _ _ l2=>h.nx _ _ _ _ _ (l.trans l2),λ_ _ _ _ _ l2=>h.rt _ _ _ _ _ (l.trans l2),λ_ _ _ _ _ l2=>h.bk _ _ _ _ _ (l.trans l2),λ_ _ _ _ _ l2=>h.ct _ _ _ _ _ (l.trans l2)⟩
noncomputable def ofV:V->W
 |.int i=>.d (.int i)
 |.bl b=>.d (.bool b)
 |.str x=>.d (.str x)
 |_=>.d .none
noncomputable def scV:V->Bool
 |.int _=>true
 |.bl _=>true
 |.str _=>true
 |.non=>true
 |_=>false
theorem Zl{Γ:Gh}(h:scV v=true):relW K Γ (ofV v) v:=by
 cases v<;>first|rfl|simp[scV]at h
noncomputable def vOf:PyData->V
 |.int i=>.int i
 |.bool b=>.bl b
 |.str x=>.str x
 |.none=>.non
 |_=>.ty ""
noncomputable def scD:PyData->Bool
 |.int _=>true
 |.bool _=>true
 |.str _=>true
 |.none=>true
 |_=>false
theorem jc{Z:Hp}{x:PyData}(h:Rep K Z x v)(s:scD x=true):v=vOf x:=by
 cases x<;>first|exact h|simp[scD]at s
theorem yW{Γ:Gh}{b:Bool}:relW K Γ (.d (.bool b)) (.bl b):=rfl
theorem xQ{Γ:Gh}{b:Str}:relW K Γ (.d (.str b)) (.str b):=rfl
theorem xl{Γ:Gh}{b:Int}:relW K Γ (.d (.int b)) (.int b):=rfl
theorem xy{Γ:Gh}:relW K Γ (.own a) (.ref a):=rfl
theorem zjV{Γ:Gh}{x:PyData}(h:Rep K Γ.Z x v):relW K Γ (.d x) v:=h
theorem vK{Γ:Gh}:relW K Γ (.d .none) .non:=rfl
noncomputable def zkJ(i:Nat):TEW:=λρ O R=>∃w,ρ[i]? =some (some w)/\R w O
noncomputable def wC(x:PyData):TEW:=λ_ O R=>R (.d x) O
theorem zfG:RefE K (JY i) (zkJ i):=by
 rintro Γ O H ρ σ S r Q R ⟨w,e,h⟩ k;obtain⟨v,e',hv⟩:=r.get e;exact⟨v,e',k _ _ _ _ _ (Le.refl _) S hv h⟩
theorem VA{x:PyData}(h:vOf x=v:=by rfl)(hs:scD x=true:=by rfl):RefE K (tC v) (wC x):=by
 rintro Γ O H ρ σ S r Q R hR k;subst h;refine k _ _ _ _ _ (Le.refl _) S ?_ hR;cases x<;>first|rfl|simp[scD]at hs
theorem zfH{i:Int}:RefE K (tC (.int i)) (wC (.int i)):=VA
theorem zfI{i:Str}:RefE K (tC (.str i)) (wC (.str i)):=VA
theorem zhS{i:Bool}:RefE K (tC (.bl i)) (wC (.bool i)):=VA
theorem zfJ:RefE K (tC .non) (wC .none):=VA
noncomputable def wOp(r:R2W)(Ta Tb:TEW):TEW:=λρ O R=>Ta ρ O λx O1=>Tb ρ O1 λy O2=>r x y O2 R
theorem zhT{r:R2}{rw:R2W}{tb:TE}{Ta Tb:TEW}(hr:RefR K r rw)(ha:RefE K ta Ta)(hb:RefE K tb Tb):RefE K (tOp r ta tb) (wOp rw Ta Tb):=by
 intro Γ O H ρ σ S r0 Q R h k;refine ha Γ O H ρ σ S r0 _ _ h λΓ1 O1 H1 x v l1 S1 rx h1=>?_;refine hb Γ1 O1 H1 ρ σ S1 (r0.mono l1) _ _ h1 λΓ2 O2 H2 y u l2 S2 ry h2=>?_;exact hr Γ2 O2 H2 x y v u S2 (rx.mono l2) ry _ _ h2 λΓ3 O3 H3 w z l3 S3 rz h3=>k Γ3 O3 H3 w z ((l1.trans l2).trans l3) S3 rz h3
noncomputable def wUn(r:W->OM->WK->Prop)(Ta:TEW):TEW:=λρ O R=>Ta ρ O λx O1=>r x O1 R
theorem zhU{r:V->Hp->VK->Prop}{rw:W->OM->WK->Prop}{Ta:TEW}(hr:RefU K r rw)(ha:RefE K ta Ta):RefE K (tUn r ta) (wUn rw Ta):=by
 intro Γ O H ρ σ S r0 Q R h k;refine ha Γ O H ρ σ S r0 _ _ h λΓ1 O1 H1 x v l1 S1 rx h1=>?_;exact hr Γ1 O1 H1 x v S1 rx _ _ h1 λΓ3 O3 H3 w z l3 S3 rz h3=>k Γ3 O3 H3 w z (l1.trans l3) S3 rz h3
noncomputable def wI0(g:Int->Int->V):R2W:=λx y O R=>∃i j,x=.d (.int i)/\y=.d (.int j)/\R (ofV (g i j)) O
noncomputable def wI(C:Int->Int->Prop)(g:Int->Int->V):R2W:=λx y O R=>∃i j,x=.d (.int i)/\y=.d (.int j)/\C i j/\R (ofV (g i j)) O
theorem zkK{g:Int->Int->V}(hg:∀i j,scV (g i j)=true:=by intro _ _;rfl):RefR K (rI0 g) (wI0 g):=by
 rintro Γ O H x y v u S rx ry Q R ⟨i,j,rfl,rfl,h⟩ k;exact⟨i,j,rx,ry,k _ _ _ _ _ (Le.refl _) S (Zl (hg i j)) h⟩
theorem r_I{C:Int->Int->Prop}{g:Int->Int->V}(hg:∀i j,scV (g i j)=true:=by intro _ _;rfl):RefR K (rI C g) (wI C g):=by
 rintro Γ O H x y v u S rx ry Q R ⟨i,j,rfl,rfl,c,h⟩ k;exact⟨i,j,rx,ry,c,k _ _ _ _ _ (Le.refl _) S (Zl (hg i j)) h⟩
noncomputable def wU(g:Int->V):W->OM->WK->Prop:=λx O R=>∃i,x=.d (.int i)/\R (ofV (g i)) O
theorem r_U{g:Int->V}(hg:∀i,scV (g i)=true:=by intro _;rfl):RefU K (rU g) (wU g):=by
 rintro Γ O H x v S rx Q R ⟨i,rfl,h⟩ k;exact⟨i,rx,k _ _ _ _ _ (Le.refl _) S (Zl (hg i)) h⟩
noncomputable def wEq:R2W:=λx y O R=>∃a b,x=.d a/\y=.d b/\scD a=true/\scD b=true/\ZK (vOf a) (vOf b)=true/\R (.d (.bool (decide (vOf a=vOf b)))) O
noncomputable def wNe:R2W:=λx y O R=>∃a b,x=.d a/\y=.d b/\scD a=true/\scD b=true/\ZK (vOf a) (vOf b)=true/\R (.d (.bool (!decide (vOf a=vOf b)))) O
theorem zkL:RefR K rEq wEq:=by
 rintro Γ O H x y v u S rx ry Q R ⟨a,b,rfl,rfl,sa,sb,sc,h⟩ k;rw[jc rx sa,jc ry sb];exact⟨sc,k _ _ _ _ _ (Le.refl _) S yW h⟩
theorem zkM:RefR K rNe wNe:=by
 rintro Γ O H x y v u S rx ry Q R ⟨a,b,rfl,rfl,sa,sb,sc,h⟩ k;rw[jc rx sa,jc ry sb];exact⟨sc,k _ _ _ _ _ (Le.refl _) S yW h⟩
noncomputable def zhV:R2W:=λx y O R=>∃a b,datW O x=some a/\datW O y=some b/\SeqAt.shaped a=true/\SeqAt.shaped b=true/\R (.d (.bool (PyData.eqv a b))) O
noncomputable def zcX:R2W:=λx y O R=>∃a b,datW O x=some a/\datW O y=some b/\SeqAt.shaped a=true/\SeqAt.shaped b=true/\R (.d (.bool (!PyData.eqv a b))) O
theorem zjW:RefR K (zcL K) zhV:=by
 rintro Γ O H x y v u S rx ry Q R ⟨a,b,e1,e2,s1,s2,h⟩ k;exact⟨a,b,uW S rx e1,uW S ry e2,s1,s2,k _ _ _ _ _ (Le.refl _) S yW h⟩
theorem zjX:RefR K (zcM K) zcX:=by
 rintro Γ O H x y v u S rx ry Q R ⟨a,b,e1,e2,s1,s2,h⟩ k;exact⟨a,b,uW S rx e1,uW S ry e2,s1,s2,k _ _ _ _ _ (Le.refl _) S yW h⟩
noncomputable def vW:W->Bool
 |.d .none=>true
 |_=>false
theorem Uf{Γ:Gh}{w:W}(r:relW K Γ w v):decide (v=.non)=vW w:=by
 cases w with
 |d x=>
  cases x with
  |none=>rw[show v=.non from r];rfl
  |list ds=>obtain⟨a,_,rfl,_⟩:=r;rfl
  |tuple ds=>obtain⟨a,_,rfl,_⟩:=r;rfl
  |dict _=>obtain⟨_,a,rfl,_⟩:=r;rfl
  |int i=>rw[show v=.int i from r];rfl
  |bool i=>rw[show v=.bl i from r];rfl
  |str i=>rw[show v=.str i from r];rfl
 |own a=>rw[show v=.ref a from r];rfl
 |row a i=>obtain⟨rs,r0,_,_,rfl⟩:=r;rfl
noncomputable def zkN:R2W:=λx y O R=>y=.d .none/\R (.d (.bool (vW x))) O
noncomputable def zjY:R2W:=λx y O R=>y=.d .none/\R (.d (.bool (!vW x))) O
theorem zjZ:RefR K (λx y H Q=>y=.non/\Q (.bl (decide (x=.non))) H) zkN:=by
 rintro Γ O H x y v u S rx ry Q R ⟨rfl,h⟩ k;refine⟨ry,k _ _ _ _ _ (Le.refl _) S ?_ h⟩;rw[Uf rx];rfl
theorem zhW:RefR K (λx y H Q=>y=.non/\Q (.bl (!decide (x=.non))) H) zjY:=by
 rintro Γ O H x y v u S rx ry Q R ⟨rfl,h⟩ k;refine⟨ry,k _ _ _ _ _ (Le.refl _) S ?_ h⟩;rw[Uf rx];rfl
noncomputable def Kr(b:Bool):W->Bool
 |.d (.bool c)=>decide (c=b)
 |_=>false
theorem zfK{Γ:Gh}{w:W}{b:Bool}(r:relW K Γ w v):decide (v=.bl b)=Kr b w:=by
 cases w with
 |d x=>
  cases x with
  |none=>rw[show v=.non from r];rfl
  |list ds=>obtain⟨a,_,rfl,_⟩:=r;rfl
  |tuple ds=>obtain⟨a,_,rfl,_⟩:=r;rfl
  |dict _=>obtain⟨_,a,rfl,_⟩:=r;rfl
  |int i=>rw[show v=.int i from r];rfl
  |bool i=>rw[show v=.bl i from r];simp[Kr]
  |str i=>rw[show v=.str i from r];rfl
 |own a=>rw[show v=.ref a from r];rfl
 |row a i=>obtain⟨rs,r0,_,_,rfl⟩:=r;rfl
noncomputable def zhX:R2W:=λx y O R=>∃b,y=.d (.bool b)/\R (.d (.bool (Kr b x))) O
theorem zj0:RefR K (λx y H Q=>∃b,y=.bl b/\Q (.bl (decide (x=.bl b))) H) zhX:=by
 rintro Γ O H x y v u S rx ry Q R ⟨b,rfl,h⟩ k;refine⟨b,ry,k _ _ _ _ _ (Le.refl _) S ?_ h⟩;rw[zfK rx];rfl
noncomputable def zkO:R2W:=λx y O R=>∃ws i w,y=.d (.int i)/\yc O x=some ws/\atI ws i=some w/\R w O
noncomputable def yX:R2W:=λx y O R=>∃ds i e,y=.d (.int i)/\yS x=some ds/\atI ds i=some e/\R (.d e) O
noncomputable def zhY:R2W:=λx y O R=>∃z i c,x=.d (.str z)/\y=.d (.int i)/\z.length<=sizeLine/\atI z.cps.toList i=some c/\R (.d (.str ⟨#[c]⟩)) O
theorem Yj{α β:Type}{F:α->β->Prop}{xs:List α}{ys:List β}{i:Int}{x:α}(r:Paired F xs ys)(e:atI xs i=some x):∃y,atI ys i=some y/\F x y:=by
 unfold atI at e ⊢;rw[<-Paired.length r];cases h:ixN xs.length i with
 |none=>rw[h]at e;cases e
 |some j=>
  rw[h]at e;exact Paired.getP r e
theorem zj1:RefR K (Ke K) zkO:=by
 rintro Γ O H x y v u S rx ry Q R ⟨ws,i,w,rfl,e,h1,h⟩ k;obtain⟨a,vs,rfl,q1,q2⟩:=yC S rx e;obtain⟨z,h2,h3⟩:=Yj q2 h1;exact⟨a,vs,i,z,rfl,ry,q1,h2,k _ _ _ _ _ (Le.refl _) S h3 h⟩
theorem zj2:RefR K (zcE K) yX:=by
 rintro Γ O H x y v u S rx ry Q R ⟨ds,i,w,rfl,e,h1,h⟩ k;obtain⟨a,vs,rfl,q1,q2⟩:=vd S rx e;have h1':atI (ds.map W.d) i=some (.d w):=by
  unfold atI at h1 ⊢;rw[List.length_map];cases hj:ixN ds.length i with
  |none=>rw[hj]at h1;cases h1
  |some j=>
   rw[hj]at h1
   replace h1:ds[j]? =some w:=h1
   show(ds.map W.d)[j]? =some (.d w);rw[List.getElem?_map,h1];rfl
 obtain⟨z,h2,h3⟩:=Yj q2 h1';exact⟨a,vs,i,z,rfl,ry,q1,h2,k _ _ _ _ _ (Le.refl _) S h3 h⟩
theorem zj3:RefR K zhy zhY:=by
 rintro Γ O H x y v u S rx ry Q R ⟨z,i,c,rfl,rfl,hl,h1,h⟩ k;exact⟨z,i,c,rx,ry,hl,h1,k _ _ _ _ _ (Le.refl _) S xQ h⟩
noncomputable def zcY(T U:TTW):TTW:=λρ O R=>T ρ O λc O1=>if c=true then U ρ O1 R else R false O1
noncomputable def wOr(T U:TTW):TTW:=λρ O R=>T ρ O λc O1=>if c=true then R true O1 else U ρ O1 R
noncomputable def Ug(T:TTW):TTW:=λρ O R=>T ρ O λc O1=>R (!c) O1
theorem zfL{t u:TT}{T U:TTW}(h:xu K t T)(g:xu K u U):xu K (zhb t u) (zcY T U):=by
 intro Γ O H ρ σ S r0 Q R hT k;refine h Γ O H ρ σ S r0 _ _ hT λΓ1 O1 H1 b l1 S1 h1=>?_;cases b with
 |true=>rw[if_pos rfl]at h1 ⊢;exact g _ _ _ _ _ S1 (r0.mono l1) _ _ h1 λΓ2 O2 H2 c l2 S2 h2=>k _ _ _ _ (l1.trans l2) S2 h2
 |false=>rw[if_neg (by decide)]at h1 ⊢;exact k _ _ _ _ l1 S1 h1
theorem zhZ{t u:TT}{T U:TTW}(h:xu K t T)(g:xu K u U):xu K (tOr t u) (wOr T U):=by
 intro Γ O H ρ σ S r0 Q R hT k;refine h Γ O H ρ σ S r0 _ _ hT λΓ1 O1 H1 b l1 S1 h1=>?_;cases b with
 |false=>rw[if_neg (by decide)]at h1 ⊢;exact g _ _ _ _ _ S1 (r0.mono l1) _ _ h1 λΓ2 O2 H2 c l2 S2 h2=>k _ _ _ _ (l1.trans l2) S2 h2
 |true=>rw[if_pos rfl]at h1 ⊢;exact k _ _ _ _ l1 S1 h1
theorem zfM{t:TT}{T:TTW}(h:xu K t T):xu K (zhc t) (Ug T):=by
 intro Γ O H ρ σ S r0 Q R hT k;exact h Γ O H ρ σ S r0 _ _ hT λΓ1 O1 H1 b l1 S1 h1=>k _ _ _ _ l1 S1 h1
noncomputable def zew(Ta Tb:TEW):TEW:=λρ O R=>Ta ρ O λx O1=>∃c,x=.d (.bool c)/\if c=true then Tb ρ O1 R else R (.d (.bool false)) O1
noncomputable def Y3(Ta Tb:TEW):TEW:=λρ O R=>Ta ρ O λx O1=>∃c,x=.d (.bool c)/\if c=true then R (.d (.bool true)) O1 else Tb ρ O1 R
noncomputable def zex(Ta:TEW):TEW:=λρ O R=>Ta ρ O λx O1=>∃c,x=.d (.bool c)/\R (.d (.bool (!c))) O1
theorem zcZ{tb:TE}{Ta Tb:TEW}(ha:RefE K ta Ta)(hb:RefE K tb Tb):RefE K (zee ta tb) (zew Ta Tb):=by
 intro Γ O H ρ σ S r0 Q R hT k;refine ha Γ O H ρ σ S r0 _ _ hT λΓ1 O1 H1 x v l1 S1 rx h1=>?_;obtain⟨c,rfl,h1⟩:=h1;refine⟨c,rx,?_⟩;cases c with
 |true=>rw[if_pos rfl]at h1 ⊢;exact hb _ _ _ _ _ S1 (r0.mono l1) _ _ h1 λΓ2 O2 H2 y u l2 S2 ry h2=>k _ _ _ _ _ (l1.trans l2) S2 ry h2
 |false=>rw[if_neg (by decide)]at h1 ⊢;exact k _ _ _ _ _ l1 S1 yW h1
theorem zfN{tb:TE}{Ta Tb:TEW}(ha:RefE K ta Ta)(hb:RefE K tb Tb):RefE K (zhd ta tb) (Y3 Ta Tb):=by
 intro Γ O H ρ σ S r0 Q R hT k;refine ha Γ O H ρ σ S r0 _ _ hT λΓ1 O1 H1 x v l1 S1 rx h1=>?_;obtain⟨c,rfl,h1⟩:=h1;refine⟨c,rx,?_⟩;cases c with
 |false=>rw[if_neg (by decide)]at h1 ⊢;exact hb _ _ _ _ _ S1 (r0.mono l1) _ _ h1 λΓ2 O2 H2 y u l2 S2 ry h2=>k _ _ _ _ _ (l1.trans l2) S2 ry h2
 |true=>rw[if_pos rfl]at h1 ⊢;exact k _ _ _ _ _ l1 S1 yW h1
theorem zc0{Ta:TEW}(ha:RefE K ta Ta):RefE K (zef ta) (zex Ta):=by
 intro Γ O H ρ σ S r0 Q R hT k;refine ha Γ O H ρ σ S r0 _ _ hT λΓ1 O1 H1 x v l1 S1 rx h1=>?_;obtain⟨c,rfl,h1⟩:=h1;exact⟨c,rx,k _ _ _ _ _ l1 S1 yW h1⟩
noncomputable def wIf(T:TTW)(Ta Tb:TEW):TEW:=λρ O R=>T ρ O λc O1=>if c=true then Ta ρ O1 R else Tb ρ O1 R
theorem zh0{t:TT}{T:TTW}{tb:TE}{Ta Tb:TEW}(h:xu K t T)(ha:RefE K ta Ta)(hb:RefE K tb Tb):RefE K (tIf t ta tb) (wIf T Ta Tb):=by
 intro Γ O H ρ σ S r0 Q R hT k;refine h Γ O H ρ σ S r0 _ _ hT λΓ1 O1 H1 b l1 S1 h1=>?_;cases b with
 |true=>rw[if_pos rfl]at h1 ⊢;exact ha _ _ _ _ _ S1 (r0.mono l1) _ _ h1 λΓ2 O2 H2 y u l2 S2 ry h2=>k _ _ _ _ _ (l1.trans l2) S2 ry h2
 |false=>rw[if_neg (by decide)]at h1 ⊢;exact hb _ _ _ _ _ S1 (r0.mono l1) _ _ h1 λΓ2 O2 H2 y u l2 S2 ry h2=>k _ _ _ _ _ (l1.trans l2) S2 ry h2
noncomputable def Y4(O:OM):W->Option Bool
 |.d .none=>some false
 |.d (.bool b)=>some b
 |.d (.int i)=>some (i != 0)
 |.d (.str z)=>some (z.length != 0)
 |.d (.list ds)=>some (!ds.isEmpty)
 |.d (.tuple ds)=>some (!ds.isEmpty)
 |.own a=>match O a with
  |some (.lst ws)=>some (!ws.isEmpty)
  |some (.dK kvs)=>some (!kvs.isEmpty)
  |_=>none
 |_=>none
noncomputable def Uh:W->Prop
 |.d (.str z)=>z.length<=sizeLine
 |_=>True
theorem xR{α β:Type}{F:α->β->Prop}{xs:List α}{ys:List β}(r:Paired F xs ys):xs.isEmpty=ys.isEmpty:=by cases r<;>rfl
theorem zc1{Γ:Gh}{O:OM}{w:W}{b:Bool}(S:Sim K Γ O H)(r:relW K Γ w v)(e:Y4 O w=some b)(hs:Uh w):VR K v H b:=by
 cases w with
 |d x=>
  cases x with
  |none=>rw[show v=.non from r];cases e;rfl
  |bool i=>rw[show v=.bl i from r];cases e;rfl
  |int i=>rw[show v=.int i from r];cases e;rfl
  |str z=>
   rw[show v=.str z from r];cases e;refine⟨hs,?_⟩;show(z.length != 0)=((z.length:Int) != 0);cases hz:z.length with
   |zero=>rfl
   |succ n=>simp only[bne,Nat.beq_eq_true_eq];simp;omega
  |list ds=>
   cases e;obtain⟨a,xs,rfl,h1,h2⟩:=r;refine .inl ⟨xs,h1.same S.z,?_⟩;rw[<-xR (yG h2:relWs K Γ _ _)];simp
  |tuple ds=>
   cases e;obtain⟨a,xs,rfl,h1,h2⟩:=r;refine .inr (.inl ⟨xs,h1.same S.z,?_⟩);rw[<-xR (yG h2:relWs K Γ _ _)];simp
  |dict _=>cases e
 |own a=>
  cases(show v=.ref a from r);simp only[Y4]at e;split at e
  .rename_i ws h
   cases e;obtain⟨_,vs,h1,h2⟩:=S.o _ _ h;exact .inl ⟨vs,SqL.of h1,by rw[xR h2]⟩
  .rename_i kvs h
   cases e;obtain⟨_,vs,h1,h2⟩:=S.o _ _ h;exact .inr (.inr ⟨vs,h1,by rw[xR h2]⟩)
  .cases e
 |row a i=>cases e
noncomputable def zc2(T:TEW):TTW:=λρ O R=>T ρ O λx O1=>∃b,Y4 O1 x=some b/\Uh x/\R b O1
theorem zfO{t:TE}{T:TEW}(h:RefE K t T):xu K (λσ H Q=>t σ H λx H'=>∃k,VR K x H' k/\Q k H') (zc2 T):=by
 intro Γ O H ρ σ S r0 Q R hT k;refine h Γ O H ρ σ S r0 _ _ hT λΓ1 O1 H1 x v l1 S1 rx h1=>?_;obtain⟨c,e,hs,h1⟩:=h1;exact⟨c,zc1 S1 rx e hs,k _ _ _ _ l1 S1 h1⟩
noncomputable def qz:TAW:=λ_ O R=>R [] O
noncomputable def yQ(Ta:TEW)(Tr:TAW):TAW:=λρ O R=>Ta ρ O λx O1=>Tr ρ O1 λxs O2=>R (x::xs) O2
theorem zfP:xf K uh qz:=λΓ O H ρ σ S r0 Q R h k=>k _ _ _ _ _ (Le.refl _) S .nil h
theorem zc3{Ta:TEW}{T:TAW}(ha:RefE K ta Ta)(hr:xf K t T):xf K (xZ ta t) (yQ Ta T):=by
 intro Γ O H ρ σ S r0 Q R h k;refine ha Γ O H ρ σ S r0 _ _ h λΓ1 O1 H1 x v l1 S1 rx h1=>?_;exact hr Γ1 O1 H1 ρ σ S1 (r0.mono l1) _ _ h1 λΓ2 O2 H2 ws vs l2 S2 rs h2=>k _ _ _ _ _ (l1.trans l2) S2 (.cons (rx.mono l2) rs) h2
noncomputable def zc4(T:TAW):TEW:=λρ O R=>T ρ O λws O1=>∃ds,yH ws=some ds/\ds.length<=1000/\R (.d (.tuple ds)) O1
noncomputable def Y5(T:TAW):TEW:=λρ O R=>T ρ O λws O1=>∃ds,yH ws=some ds/\ds.length<=1000/\R (.d (.list ds)) O1
theorem Y6(h:n<=1000):n<=sizeLine:=Nat.le_of_lt (xH h)
theorem kh{Γ:Gh}{O:OM}(S:Sim K Γ O H)(hr:Reps K Γ.Z ds vs)(hp:H p=none):∃Γ',Le Γ Γ'/\Sim K Γ' O (upd H p (.tup vs))/\relW K Γ' (.d (.tuple ds)) (.ref p):=by
 obtain⟨l,S'⟩:=S.newD hp (.tup vs);exact⟨_,l,S',p,vs,rfl,SqT.of zX,Reps.same l.z _ _ hr⟩
theorem jd{Γ:Gh}{O:OM}(S:Sim K Γ O H)(hr:Reps K Γ.Z ds vs)(hp:H p=none):∃Γ',Le Γ Γ'/\Sim K Γ' O (upd H p (.lst vs))/\relW K Γ' (.d (.list ds)) (.ref p):=by
 obtain⟨l,S'⟩:=S.newD hp (.lst vs);exact⟨_,l,S',p,vs,rfl,SqL.of zX,Reps.same l.z _ _ hr⟩
theorem zfQ{Γ:Gh}{O:OM}{ws:List W}(S:Sim K Γ O H)(hr:relWs K Γ ws vs)(hp:H p=none):O p=none/\Sim K Γ (updO O p (.lst ws)) (upd H p (.lst vs)):=
 ⟨(S.free hp).2.1,S.newO hp (by intro _ h;cases h) ⟨vs,zX,hr⟩⟩
theorem zfR{T:TAW}(h:xf K t T):RefE K (zcz t) (zc4 T):=by
 intro Γ O H ρ σ S r0 Q R hT k;refine h Γ O H ρ σ S r0 _ _ hT λΓ1 O1 H1 ws vs l1 S1 rs h1=>?_;obtain⟨ds,e,hl,h1⟩:=h1;rw[xj e]at rs;refine⟨by rw[<-Paired.length rs,List.length_map];exact Y6 hl,λp hp=>?_⟩;obtain⟨Γ',l,S',r'⟩:=kh S1 (ya rs) hp;exact k _ _ _ _ _ (l1.trans l) S' r' h1
theorem zfS{T:TAW}(h:xf K t T):RefE K (VT t) (Y5 T):=by
 intro Γ O H ρ σ S r0 Q R hT k;refine h Γ O H ρ σ S r0 _ _ hT λΓ1 O1 H1 ws vs l1 S1 rs h1=>?_;obtain⟨ds,e,hl,h1⟩:=h1;rw[xj e]at rs;refine⟨by rw[<-Paired.length rs,List.length_map];exact Y6 hl,λp hp=>?_⟩;obtain⟨Γ',l,S',r'⟩:=jd S1 (ya rs) hp;exact k _ _ _ _ _ (l1.trans l) S' r' h1
noncomputable abbrev SpW:=List W->OM->WK->Prop
noncomputable def zb(K:W.Frag)(s:SpW):Sp:=λvs H Q _=>∃Γ O ws R,Sim K Γ O H/\relWs K Γ ws vs/\s ws O R/\∀Γ' O' H' w v,Le Γ Γ'->Sim K Γ' O' H'->relW K Γ' w v->R w O'->Q v H'
noncomputable def Clo(R:WK):WK:=λw O=>R w O\/∃a ds,w=.own a/\O a=some (.lst (ds.map .d))/\R (.d (.list ds)) (del O a)
noncomputable def xX(N:List Str)(ws:List W):WS:=ws.map some++List.replicate (N.length-ws.length) none
section
theorem Yk{Γ:Gh}{ws:List W}(h:relWs K Γ ws vs):relR K Γ (xX N ws) (L2.start N vs):=by
 unfold xX L2.start;rw[Paired.length h];refine Paired.appP ?_ ?_
 .induction h with
  |nil=>exact .nil
  |cons a b ih=>exact .cons a ih
 .generalize N.length-vs.length=n
  induction n with
  |zero=>exact .nil
  |succ n ih=>exact .cons trivial ih
theorem Zm{Γ:Gh}{O:OM}{w:W}{R:WK}{Q:VK}(S:Sim K Γ O H)(r:relW K Γ w v)(h:Clo R w O)(k:∀Γ' O' H' w v,Le Γ Γ'->Sim K Γ' O' H'->relW K Γ' w v->R w O'->Q v H'):Q v H:=by
 rcases h with h|⟨a,ds,rfl,e,h⟩
 .exact k _ _ _ _ _ (Le.refl _) S r h
 .obtain⟨Γ',l,S',r'⟩:=S.freeze e
  cases(show v=.ref a from r);exact k _ _ _ _ _ l S' r' h
variable {w:World}
theorem Fun.okW{qual:Str}{ps:List Str}{k:Nat}{s:SpW}(F:Fun K x qual st f fd)(S:FnScope N ps (defScope st))(len:∀ws O R,s ws O R->ws.length=ps.length)
    (hbody:∀ (cdv:Value) (A:Around) (outer:List Env) (sh:Shared) (H:Hp) (E:XK),Room k (A.deeper (envOfC qual (defScope st) sh.heap.objs.size f cdv))->
      ∃t T,PSs (vH CX0 P w K mg base N qual (defScope st) f cdv A outer sh H E).nox (defBody st) t/\RefS K t T/\∀ws O R,s ws O R->T { nx:=λ_ O'=>Clo R (.d .none) O',rt:=Clo R } (xX N ws) O):FnOk P w K mg base CX0 (k+1) f fd ps (zb K s):=by
  refine F.ok S (λvs H Q E h=>?_) (λcdv A outer sh H vs Q E hr h=>?_)
  · obtain⟨Γ,O,ws,R,S1,r,hs,_⟩:=h
    rw[<-Paired.length r];exact len ws O R hs
  · obtain⟨t,T,h1,h2,h3⟩:=hbody cdv A outer sh H E hr
    obtain⟨Γ,O,ws,R,S1,r,hs,kk⟩:=h;refine⟨t,h1,h2 Γ O H _ _ _ _ S1 (Yk r) (h3 ws O R hs) ⟨λΓ' O' H' ρ' σ' l S' r' h'=>?_,λΓ' O' H' w v l S' r' h'=>?_,λ_ _ _ _ _ _ _ _ h=>h.elim,λ_ _ _ _ _ _ _ _ h=>h.elim⟩⟩
    · exact Zm S' vK h' λΓ2 O2 H2 w v l2=>kk _ _ _ _ _ (l.trans l2)
    · exact Zm S' r' h' λΓ2 O2 H2 w v l2=>kk _ _ _ _ _ (l.trans l2)
theorem Fun.okV{qual:Str}{ps:List Str}{k:Nat}{s:SpW}{t:TS}{T:TSW}(F:Fun K x qual st f fd)(S:FnScope N ps (defScope st))(len:∀ws O R,s ws O R->ws.length=ps.length)
  (hP:∀(cdv:Value) (A:Around) (outer:List Env) (sh:Shared) (H:Hp) (E:XK),Room k (A.deeper (envOfC qual (defScope st) sh.heap.objs.size f cdv))->PSs (vH CX0 P w K mg base N qual (defScope st) f cdv A outer sh H E).nox (defBody st) t)
  (hR:RefS K t T)(hb:∀ws O R,s ws O R->T { nx:=λ_ O'=>Clo R (.d .none) O',rt:=Clo R } (xX N ws) O):FnOk P w K mg base CX0 (k+1) f fd ps (zb K s):=
 F.okW S len λcdv A outer sh H E hr=>⟨t,T,hP cdv A outer sh H E hr,hR,hb⟩
theorem FunD.okW{qual:Str}{ds:List Value}{ps:List Str}{k:Nat}{s:SpW}(F:FunD K x qual st ds f fd)(S:FnScope N ps (defScope st))(len:∀ws O R,s ws O R->ws.length=ps.length)
    (hbody:∀ (cdv:Value) (A:Around) (outer:List Env) (sh:Shared) (H:Hp) (E:XK),Room k (A.deeper (envOfC qual (defScope st) sh.heap.objs.size f cdv))->
      ∃t T,PSs (vH CX0 P w K mg base N qual (defScope st) f cdv A outer sh H E).nox (defBody st) t/\RefS K t T/\∀ws O R,s ws O R->T { nx:=λ_ O'=>Clo R (.d .none) O',rt:=Clo R } (xX N ws) O):FnOk P w K mg base CX0 (k+1) f fd ps (zb K s):=by
  refine F.ok S (λvs H Q E h=>?_) (λcdv A outer sh H vs Q E hr h=>?_)
  · obtain⟨Γ,O,ws,R,S1,r,hs,_⟩:=h
    rw[<-Paired.length r];exact len ws O R hs
  · obtain⟨t,T,h1,h2,h3⟩:=hbody cdv A outer sh H E hr
    obtain⟨Γ,O,ws,R,S1,r,hs,kk⟩:=h;refine⟨t,h1,h2 Γ O H _ _ _ _ S1 (Yk r) (h3 ws O R hs) ⟨λΓ' O' H' ρ' σ' l S' r' h'=>?_,λΓ' O' H' w v l S' r' h'=>?_,λ_ _ _ _ _ _ _ _ h=>h.elim,λ_ _ _ _ _ _ _ _ h=>h.elim⟩⟩
    · exact Zm S' vK h' λΓ2 O2 H2 w v l2=>kk _ _ _ _ _ (l.trans l2)
    · exact Zm S' r' h' λΓ2 O2 H2 w v l2=>kk _ _ _ _ _ (l.trans l2)
theorem FunD.okV{qual:Str}{ds:List Value}{ps:List Str}{k:Nat}{s:SpW}{t:TS}{T:TSW}(F:FunD K x qual st ds f fd)(S:FnScope N ps (defScope st))(len:∀ws O R,s ws O R->ws.length=ps.length)
  (hP:∀(cdv:Value) (A:Around) (outer:List Env) (sh:Shared) (H:Hp) (E:XK),Room k (A.deeper (envOfC qual (defScope st) sh.heap.objs.size f cdv))->PSs (vH CX0 P w K mg base N qual (defScope st) f cdv A outer sh H E).nox (defBody st) t)
  (hR:RefS K t T)(hb:∀ws O R,s ws O R->T { nx:=λ_ O'=>Clo R (.d .none) O',rt:=Clo R } (xX N ws) O):FnOk P w K mg base CX0 (k+1) f fd ps (zb K s):=
 F.okW S len λcdv A outer sh H E hr=>⟨t,T,hP cdv A outer sh H E hr,hR,hb⟩
end
theorem ZO{Γ:Gh}:∀{vs:List V},vs.all scV=true->relWs K Γ (vs.map ofV) vs
 |[],_=>.nil
 |v::vs,h=>by
  simp at h;exact .cons (Zl h.1) (ZO (by simpa using h.2))
noncomputable def jy(s:SpW)(dvs:List V)(T:TAW):TEW:=λρ O R=>T ρ O λws O1=>s (ws++dvs.map ofV) O1 R
theorem Ui{s:SpW}{dvs:List V}{T:TAW}(h:xf K t T)(hd:dvs.all scV=true:=by rfl):RefE K (Zg (zb K s) dvs E0 t) (jy s dvs T):=by
 intro Γ O H ρ σ S r0 Q R hT k;refine h Γ O H ρ σ S r0 _ _ hT λΓ1 O1 H1 ws vs l1 S1 rs h1=>?_;exact⟨Γ1,O1,_,R,S1,Paired.appP rs (ZO hd),h1,λΓ2 O2 H2 w v l2 S2 r2 h2=>k _ _ _ _ _ (l1.trans l2) S2 r2 h2⟩
noncomputable def wCB(r:List W->OM->WK->Prop)(T:TAW):TEW:=λρ O R=>T ρ O λws O1=>r ws O1 R
theorem zh1{r:List V->Hp->VK->Prop}{rw:List W->OM->WK->Prop}{T:TAW}(hr:RefC K r rw)(h:xf K t T):RefE K (tCB r t) (wCB rw T):=by
 intro Γ O H ρ σ S r0 Q R hT k;refine h Γ O H ρ σ S r0 _ _ hT λΓ1 O1 H1 ws vs l1 S1 rs h1=>?_;exact hr _ _ _ _ _ S1 rs _ _ h1 λΓ2 O2 H2 w v l2 S2 r2 h2=>k _ _ _ _ _ (l1.trans l2) S2 r2 h2
theorem Yl{Γ:Gh}{f:Str}:∀{fs:List (Str×W)}{vs:List (Str×V)},yp K Γ fs vs->(fs.lookup f=none->vs.lookup f=none)/\∀w,fs.lookup f=some w->∃v,vs.lookup f=some v/\relW K Γ w v:=by
 intro fs vs h;unfold yp at h
 induction h with
 |nil=>exact⟨λ_=>rfl,λw e=>by cases e⟩
 |cons a b ih=>
  rename_i p q ps qs
  obtain⟨k,x⟩:=p;obtain⟨k',y⟩:=q;obtain⟨e1,e2⟩:=a;cases(show k=k' from e1);simp only[List.lookup_cons];cases e:f==k with
  |true=>exact⟨λz=>(by cases z),λw z=>by cases z;exact⟨_,rfl,e2⟩⟩
  |false=>exact ih
noncomputable def zey(C:Addr)(m:Str)(s:SpW)(Ta:TEW)(T:TAW):TEW:=λρ O R=>Ta ρ O λx O1=>∃a dx fs,x=.own a/\O1 a=some (.ins C dx fs)/\fs.lookup m=none/\T ρ O1 λws O2=>s (x::ws) O2 R
theorem zc5{m:Str}{s:SpW}{Ta:TEW}{T:TAW}(ha:RefE K ta Ta)(h:xf K t T):RefE K (Zh C m (zb K s) [] E0 ta t) (zey C m s Ta T):=by
 intro Γ O H ρ σ S r0 Q R hT k;refine ha Γ O H ρ σ S r0 _ _ hT λΓ1 O1 H1 x v l1 S1 rx h1=>?_;obtain⟨a,dx,fs,rfl,ho,hm,h1⟩:=h1;cases(show v=.ref a from rx);obtain⟨_,vs,q1,q2⟩:=S1.o _ _ ho;refine⟨a,dx,vs,rfl,q1,(Yl q2).1 hm,?_⟩;refine h _ _ _ _ _ S1 (r0.mono l1) _ _ h1 λΓ2 O2 H2 ws us l2 S2 rs h2=>?_;rw[List.append_nil];exact⟨Γ2,O2,_,R,S2,.cons xy rs,h2,λΓ3 O3 H3 w v l3 S3 r3 h3=>k _ _ _ _ _ ((l1.trans l2).trans l3) S3 r3 h3⟩
theorem Sim.junk{Γ:Gh}{O:OM}(S:Sim K Γ O H)(hp:H p=none)(o:HO):Sim K Γ O (upd H p o):=by
 obtain⟨hz,hO,hG⟩:=S.free hp;refine⟨λb u e=>?_,λa oo e=>?_,λa rs e=>?_,ZN S.f (S.f.free hp),S.gn,S.fg,S.fd,S.u⟩
 .rw[zv (λz=>by rw[z,hz]at e;cases e)];exact S.z _ _ e
 .have hap:a≠p:=λz=>by rw[z,hO]at e;cases e
  obtain⟨h1,h2⟩:=S.o _ _ e;refine⟨h1,h2.keep (Le.refl _) (zv hap) rfl λrs r hg ⟨rows,hrw⟩ hr=>?_⟩;subst hrw;obtain⟨_,_,vs,q⟩:=S.rowIn e hg hr;exact⟨zv (λz=>by rw[z,hp]at q;cases q),rfl,rfl⟩
 .obtain⟨o',h⟩:=S.gd _ _ e
  exact⟨o',by rw[zv (yu h hp)];exact h⟩
noncomputable def zez(C:Addr)(s:SpW)(T:TAW):TEW:=λρ O R=>T ρ O λws O1=>∀x dx,O1 x=none->s (.own x::ws) (updO O1 x (.ins C dx [])) λw O2=>w=.d .none/\R (.own x) O2
theorem zc6{s:SpW}{T:TAW}(h:xf K t T):RefE K (Yc C (zb K s) [] E0 t) (zez C s T):=by
 intro Γ O H ρ σ S r0 Q R hT k;refine h _ _ _ _ _ S r0 _ _ hT λΓ1 O1 H1 ws vs l1 S1 rs h1=>?_;intro x dx hx hdx hne;have hx':upd H1 dx (.own x) x=none:=by rw[zv (Ne.symm hne)];exact hx
 have S2:=S1.junk hdx (.own x);have S3:=S2.newO hx' (o:=.ins C dx []) (oo:=.ins C dx []) (by intro _ h;cases h) ⟨[],zX,.nil⟩;rw[List.append_nil];refine⟨Γ1,_,_,_,S3,.cons xy rs,h1 x dx (S2.free hx').2.1,λΓ2 O2 H2 w v l2 S4 r2 h2=>?_⟩;obtain⟨rfl,h2⟩:=h2;exact⟨r2,k _ _ _ _ _ (l1.trans l2) S4 xy h2⟩
noncomputable def vk(O:OM)(w:W):Option (List PyData):=match yS w with
 |some ds=>some ds
 |none=>(yc O w).bind yH
theorem JA{Γ:Gh}{O:OM}{w:W}(S:Sim K Γ O H)(r:relW K Γ w v)(e:vk O w=some ds):∃a vs,v=.ref a/\(SqL K H a vs\/SqT K H a vs)/\Reps K Γ.Z ds vs:=by
 unfold vk at e;split at e
 .rename_i es h
  cases e;obtain⟨a,vs,e1,h1,h2⟩:=vd S r h;exact⟨a,vs,e1,.inr h1,ya h2⟩
 .cases h:yc O w with
  |none=>rw[h]at e;cases e
  |some ws=>
   rw[h]at e;obtain⟨a,vs,e1,h1,h2⟩:=yC S r h;rw[xj (show yH ws=some ds from e)]at h2;exact⟨a,vs,e1,.inl h1,ya h2⟩
noncomputable def ZP(O:OM)(w:W):Option Nat:=match yS w with
 |some ds=>some ds.length
 |none=>(yc O w).map (·.length)
noncomputable def Ks:List W->OM->WK->Prop:=λxs O R=>∃w n,xs=[w]/\ZP O w=some n/\R (.d (.int n)) O
theorem zj4:RefC K (λxs H Q=>∃p ys,xs=[.ref p]/\(SqL K H p ys\/SqT K H p ys)/\Q (.int ys.length) H) Ks:=by
 rintro Γ O H xs vs S rs Q R ⟨w,n,rfl,e,h⟩ k;cases rs with
 |cons rx t=>
  cases t;unfold ZP at e;split at e
  .rename_i ds hT
   cases e;obtain⟨a,vs,e1,h1,h2⟩:=vd S rx hT;subst e1;refine⟨a,vs,rfl,.inr h1,k _ _ _ _ _ (Le.refl _) S ?_ h⟩;rw[<-Paired.length h2,List.length_map];rfl
  .cases hL:yc O w with
   |none=>rw[hL]at e;cases e
   |some ws=>
    rw[hL]at e;cases e;obtain⟨a,vs,e1,h1,h2⟩:=yC S rx hL;subst e1;refine⟨a,vs,rfl,.inl h1,k _ _ _ _ _ (Le.refl _) S ?_ h⟩;rw[<-Paired.length h2];rfl
noncomputable def zeA:List W->OM->WK->Prop:=λxs O R=>∃z,xs=[.d (.str z)]/\z.length<=sizeLine/\R (.d (.int z.length)) O
theorem zh2:RefC K (λxs H Q=>∃z,xs=[.str z]/\z.length<=sizeLine/\Q (.int z.length) H) zeA:=by
 rintro Γ O H xs vs S rs Q R ⟨z,rfl,e,h⟩ k;cases rs with
 |cons rx t=>
  cases t;exact⟨z,by rw[show _=V.str z from rx],e,k _ _ _ _ _ (Le.refl _) S xl h⟩
noncomputable def Ym:List W->OM->WK->Prop:=λxs O R=>∃w ds,xs=[w]/\vk O w=some ds/\R (.d (.list ds)) O
theorem zfT:RefC K (λxs H Q=>∃p ys,xs=[.ref p]/\(SqL K H p ys\/SqT K H p ys)/\∀l,H l=none->Q (.ref l) (upd H l (.lst ys))) Ym:=by
 rintro Γ O H xs vs S rs Q R ⟨w,ds,rfl,e,h⟩ k;cases rs with
 |cons rx t=>
  cases t;obtain⟨a,vs,e1,h1,h2⟩:=JA S rx e;subst e1;refine⟨a,vs,rfl,h1,λl hl=>?_⟩;obtain⟨Γ',le,S',r'⟩:=jd S h2 hl;exact k _ _ _ _ _ le S' r' h
noncomputable def Uj:List W->OM->WK->Prop:=λxs O R=>∃w ds,xs=[w]/\vk O w=some ds/\R (.d (.tuple ds)) O
theorem zfU:RefC K (λxs H Q=>∃p ys,xs=[.ref p]/\((SqL K H p ys/\∀l,H l=none->Q (.ref l) (upd H l (.tup ys)))\/(SqT K H p ys/\Q (.ref p) H))) Uj:=by
 rintro Γ O H xs vs S rs Q R ⟨w,ds,rfl,e,h⟩ k;cases rs with
 |cons rx t=>
  cases t;unfold vk at e;split at e
  .rename_i es hT
   cases e;obtain⟨a,vs,e1,h1,h2⟩:=vd S rx hT;subst e1;refine⟨a,vs,rfl,.inr ⟨h1,k _ _ _ _ _ (Le.refl _) S ?_ h⟩⟩;cases w with
   |d x=>cases x<;>simp[yS]at hT;subst hT;exact rx
   |own b=>cases hT
   |row b i=>cases hT
  .cases hL:yc O w with
   |none=>rw[hL]at e;cases e
   |some ws=>
    rw[hL]at e;obtain⟨a,vs,e1,h1,h2⟩:=yC S rx hL;rw[xj (show yH ws=some ds from e)]at h2;subst e1;refine⟨a,vs,rfl,.inl ⟨h1,λl hl=>?_⟩⟩;obtain⟨Γ',le,S',r'⟩:=kh S (ya h2) hl;exact k _ _ _ _ _ le S' r' h
noncomputable def wI2(g:Int->Int->Int):List W->OM->WK->Prop:=λxs O R=>∃i j,xs=[.d (.int i),.d (.int j)]/\R (.d (.int (g i j))) O
theorem zkP{g:Int->Int->Int}:RefC K (λxs H Q=>∃i j,xs=[.int i,.int j]/\Q (.int (g i j)) H) (wI2 g):=by
 rintro Γ O H xs vs S rs Q R ⟨i,j,rfl,h⟩ k;cases rs with
 |cons rx t=>
  cases t with
  |cons ry t=>
   cases t;exact⟨i,j,by rw[show _=V.int i from rx,show _=V.int j from ry],k _ _ _ _ _ (Le.refl _) S xl h⟩
noncomputable def zeB:List W->OM->WK->Prop:=λxs O R=>∃i,(xs=[.d (.int i)]\/∃b:Bool,xs=[.d (.bool b)]/\i=if b then 1 else 0)/\R (.d (.int i)) O
theorem zh3:RefC K (λxs H Q=>(∃i,xs=[.int i]/\Q (.int i) H)\/∃k,xs=[.bl k]/\Q (.int (if k then 1 else 0)) H) zeB:=by
 rintro Γ O H xs vs S rs Q R ⟨i,hx,h⟩ k;rcases hx with rfl|⟨b,rfl,rfl⟩
 .cases rs with
  |cons rx t=>cases t;exact .inl ⟨i,by rw[show _=V.int i from rx],k _ _ _ _ _ (Le.refl _) S xl h⟩
 .cases rs with
  |cons rx t=>cases t;exact .inr ⟨b,by rw[show _=V.bl b from rx],k _ _ _ _ _ (Le.refl _) S xl h⟩
noncomputable def uH:TSW:=λD ρ O=>D.nx ρ O
noncomputable def xg(T U:TSW):TSW:=λD ρ O=>T { D with nx:=U D } ρ O
noncomputable def Zn(T:TEW):TSW:=λD ρ O=>T ρ O λ_ O1=>D.nx ρ O1
noncomputable def Uk(T:TEW):TSW:=λD ρ O=>T ρ O D.rt
noncomputable def zj5:TSW:=λD _ O=>D.rt (.d .none) O
noncomputable def vm(c:TTW)(T U:TSW):TSW:=λD ρ O=>c ρ O λb O1=>if b=true then T D ρ O1 else U D ρ O1
noncomputable def zh4:TSW:=λ_ _ _=>False
theorem zc7:RefS K zeh uH:=λΓ O H ρ σ D DW S r h e=>e.nx _ _ _ _ _ (Le.refl _) S r h
theorem za4:RefS K zax zh4:=λΓ O H ρ σ D DW S r h e=>h.elim
theorem zfV{t u:TS}{T U:TSW}(h:RefS K t T)(g:RefS K u U):RefS K (zhf t u) (xg T U):=λΓ O H ρ σ D DW S r hT e=>
 h Γ O H ρ σ { D with nx:=u D } { DW with nx:=U DW } S r hT ⟨λΓ' O' H' ρ' σ' l S' r' h'=>g _ _ _ _ _ _ _ S' r' h' (e.mono l),e.rt,e.bk,e.ct⟩
theorem zc8{t:TE}{T:TEW}(h:RefE K t T):RefS K (zei t) (Zn T):=λΓ O H ρ σ D DW S r hT e=>
 h _ _ _ _ _ S r _ _ hT λΓ1 O1 H1 w v l S1 r1 h1=>e.nx _ _ _ _ _ l S1 (r.mono l) h1
theorem zfW{t:TE}{T:TEW}(h:RefE K t T):RefS K (zhg t) (Uk T):=λΓ O H ρ σ D DW S r hT e=>
 h _ _ _ _ _ S r _ _ hT λΓ1 O1 H1 w v l S1 r1 h1=>e.rt _ _ _ _ _ l S1 r1 h1
theorem zfX{c:TT}{C:TTW}{t u:TS}{T U:TSW}(hc:xu K c C)(h:RefS K t T)(g:RefS K u U):RefS K (zhh c t u) (vm C T U):=λΓ O H ρ σ D DW S r hT e=>by
 refine hc _ _ _ _ _ S r _ _ hT λΓ1 O1 H1 b l S1 h1=>?_;cases b with
 |true=>rw[if_pos rfl]at h1 ⊢;exact h _ _ _ _ _ _ _ S1 (r.mono l) h1 (e.mono l)
 |false=>rw[if_neg (by decide)]at h1 ⊢;exact g _ _ _ _ _ _ _ S1 (r.mono l) h1 (e.mono l)
noncomputable def Ul(T:TEW)(G:TGW):TSW:=λD ρ O=>T ρ O λx O1=>G x ρ O1 D.nx
theorem zfY{t:TE}{T:TEW}{g:TG}{G:TGW}(h:RefE K t T)(hg:RefG K g G):RefS K (ZJ t g) (Ul T G):=λΓ O H ρ σ D DW S r hT e=>
 h _ _ _ _ _ S r _ _ hT λΓ1 O1 H1 w v l S1 r1 h1=>hg _ _ _ _ _ _ _ S1 (r.mono l) r1 _ _ h1 λΓ2 O2 H2 ρ2 σ2 l2=>e.nx _ _ _ _ _ (l.trans l2)
noncomputable def vn(i:Nat):TGW:=λw ρ O R=>R (ρ.set i (some w)) O
theorem zc9:RefG K (qj i) (vn i):=λΓ O H ρ σ w v S r rw Q R h k=>k _ _ _ _ _ (Le.refl _) S (Paired.setP r (show Zk K Γ (some w) (some v)from rw)) h
noncomputable def zda:TGsW:=λds ρ O R=>ds=[]/\R ρ O
noncomputable def Kt(G:TGW)(U:TGsW):TGsW:=λds ρ O R=>∃e es,ds=e::es/\G (.d e) ρ O λρ' O'=>U es ρ' O' R
theorem zdb:RefGs K zhj zda:=by
 rintro Γ O H ρ σ ds vs S r rs Q R ⟨rfl,h⟩ k;exact⟨rs,k _ _ _ _ _ (Le.refl _) S r h⟩
theorem za5{t:TG}{u:TGs}{G:TGW}{U:TGsW}(h:RefG K t G)(g:RefGs K u U):RefGs K (zej t u) (Kt G U):=by
 rintro Γ O H ρ σ ds vs S r rs Q R ⟨e,es,rfl,hh⟩ k;obtain⟨x,xs,rfl,h1,h2⟩:=rs;refine⟨x,xs,rfl,h _ _ _ _ _ _ _ S r (zjV h1) _ _ hh λΓ1 O1 H1 ρ1 σ1 l1 S1 r1 q1=>?_⟩;exact g _ _ _ _ _ _ _ S1 r1 (Reps.same l1.z _ _ h2) _ _ q1 λΓ2 O2 H2 ρ2 σ2 l2=>k _ _ _ _ _ (l1.trans l2)
noncomputable def zdc(n:Nat)(U:TGsW):TGW:=λw ρ O R=>∃ds,yS w=some ds/\ds.length=n/\U ds ρ O R
theorem zdd{t:TGs}{U:TGsW}(h:RefGs K t U):RefG K (zcs K n t) (zdc n U):=by
 rintro Γ O H ρ σ w v S r rw Q R ⟨ds,e,hl,hh⟩ k;obtain⟨a,vs,e1,h1,h2⟩:=vd S rw e;refine⟨a,vs,e1,h1,by rw[<-Paired.length h2,List.length_map];exact hl,h _ _ _ _ _ _ _ S r (ya h2) _ _ hh k⟩
noncomputable def ki(O:OM)(o:W)(k:Int)(w:W):Option OM:=match o with
 |.own a=>match O a with
  |some (.lst ws)=>(ixN ws.length k).map λj=>updO O a (.lst (ws.set j w))
  |_=>none
 |.row a r=>match O a,w with
  |some (.grid rows),.d x=>match rows[r]? with
   |some ds=>(ixN ds.length k).map λj=>updO O a (.grid (rows.set r (ds.set j x)))
   |none=>none
  |_,_=>none
 |_=>none
noncomputable def zh5(To Ti:TEW):TGW:=λw ρ O R=>To ρ O λo O1=>Ti ρ O1 λi O2=>∃k O3,i=.d (.int k)/\ki O2 o k w=some O3/\R ρ O3
theorem zde{to ti:TE}{To Ti:TEW}(ho:RefE K to To)(hi:RefE K ti Ti):RefG K (zhl to ti zeq) (zh5 To Ti):=by
 rintro Γ O H ρ σ w v S r rw Q R h k;refine ho _ _ _ _ _ S r _ _ h λΓ1 O1 H1 o vo l1 S1 ro h1=>?_;refine hi _ _ _ _ _ S1 (r.mono l1) _ _ h1 λΓ2 O2 H2 i vi l2 S2 ri h2=>?_;obtain⟨n,O3,rfl,e,h2⟩:=h2;have ro2:=ro.mono l2;have rw2:=rw.mono (l1.trans l2);cases(show vi=.int n from ri);cases o with
 |d x=>cases e
 |own a=>
  cases(show vo=.ref a from ro2);simp only[ki]at e;split at e
  .rename_i ws hO
   cases hj:ixN ws.length n with
   |none=>rw[hj]at e;cases e
   |some j=>
    rw[hj]at e;cases e;obtain⟨_,us,q1,q2⟩:=S2.o _ _ hO;refine⟨a,us,n,j,rfl,rfl,q1,by rw[<-Paired.length q2];exact hj,?_⟩;exact k _ _ _ _ _ (l1.trans l2) (S2.put (oo:=.lst _) hO (by intro _ h;cases h) (by intro _ h;cases h) ⟨_,zX,Paired.setP q2 rw2⟩) (r.mono (l1.trans l2)) h2
  .cases e
 |row a i=>
  obtain⟨rs,r0,hg,hr,rfl⟩:=ro2;simp only[ki]at e;split at e
  .rename_i rows x hO
   cases hd:rows[i]? with
   |none=>rw[hd]at e;cases e
   |some ds=>
    rw[hd]at e;simp only at e;cases hj:ixN ds.length n with
    |none=>rw[hj]at e;cases e
    |some j=>
     rw[hj]at e;cases e;obtain⟨_,rs',hg',_,hl,_,hrow⟩:=S2.o _ _ hO;rw[hg]at hg';cases hg';obtain⟨_,_,us,q1,q2⟩:=hrow i r0 ds hr hd;refine⟨r0,us,n,j,rfl,rfl,q1,by rw[<-Reps.length q2];exact hj,?_⟩;exact k _ _ _ _ _ (l1.trans l2) (S2.cell hO hg hr hd q1 rw2) (r.mono (l1.trans l2)) h2
  .cases e
noncomputable def zh6(K:W.Frag)(Γ:Gh)(J:It)(ws:List W)(keep:OM->Prop):Prop:=∀i Γ' O' H',Same Γ.Z Γ'.Z->(∀a rs,Γ.G a=some rs->∃more,Γ'.G a=some (rs++more))->Sim K Γ' O' H'->keep O'->
 (∀w,ws[i]? =some w->J.go i H'/\∀x H2,J.yld i H' x H2->∃Γ2,Le Γ' Γ2/\Sim K Γ2 O' H2/\relW K Γ2 w x)/\(i=ws.length->J.stop i H')
noncomputable abbrev TIW:=WS->OM->(List W->(OM->Prop)->OM->Prop)->Prop
noncomputable def vp(K:W.Frag)(t:TI)(T:TIW):Prop:=∀Γ O H ρ σ,Sim K Γ O H->relR K Γ ρ σ->∀(Q:It->Hp->Prop) (R:List W->(OM->Prop)->OM->Prop),T ρ O R->(∀Γ' O' H' J ws keep,Le Γ Γ'->Sim K Γ' O' H'->zh6 K Γ' J ws keep->R ws keep O'->Q J H')->t σ H Q
theorem relW.up{Γ Γ':Gh}(hz:Same Γ.Z Γ'.Z)(hg:∀a rs,Γ.G a=some rs->∃more,Γ'.G a=some (rs++more)){w:W}(h:relW K Γ w v):relW K Γ' w v:=by
 have h1:relW K ⟨Γ'.Z,Γ'.G,Γ.F⟩ w v:=relW.mono (Γ:=Γ) (Γ':=⟨Γ'.Z,Γ'.G,Γ.F⟩) ⟨rfl,hz,hg⟩ h;cases w<;>exact h1
noncomputable def Yn(T:TEW):TIW:=λρ O R=>T ρ O λw O1=>∃ws,yc O1 w=some ws/\R ws (λO'=>yc O' w=some ws) O1
theorem za6{t:TE}{T:TEW}(h:RefE K t T):vp K (J1 K t) (Yn T):=by
 intro Γ O H ρ σ S r Q R hT k;refine h _ _ _ _ _ S r _ _ hT λΓ1 O1 H1 w v l1 S1 r1 h1=>?_;obtain⟨ws,e,h1⟩:=h1;obtain⟨a,vs,rfl,q1,q2⟩:=yC S1 r1 e;refine⟨a,rfl,⟨vs,q1⟩,k _ _ _ _ _ _ l1 S1 (λi Γ' O' H' hz hg S' e'=>?_) h1⟩;obtain⟨a',vs',ea,q1',q2'⟩:=yC S' (r1.up hz hg) e';cases ea;refine⟨λw' hw=>?_,λhi=>⟨vs',q1',by rw[<-Paired.length q2',hi];exact Nat.le_refl _⟩⟩;obtain⟨x,hx,rx⟩:=Paired.getP q2' hw;refine⟨⟨vs',x,q1',hx⟩,λy H2 ⟨e2,hy⟩=>?_⟩;subst e2;have:=hy vs' q1';rw[hx]at this;cases this;exact⟨Γ',Le.refl _,S',rx⟩
noncomputable def zh7(T:TEW):TIW:=λρ O R=>T ρ O λw O1=>∃ds,yS w=some ds/\R (ds.map .d) (λ_=>True) O1
theorem zdf{t:TE}{T:TEW}(h:RefE K t T):vp K (zct K t) (zh7 T):=by
 intro Γ O H ρ σ S r Q R hT k;refine h _ _ _ _ _ S r _ _ hT λΓ1 O1 H1 w v l1 S1 r1 h1=>?_;obtain⟨ds,e,h1⟩:=h1;obtain⟨a,vs,rfl,q1,q2⟩:=vd S1 r1 e;refine⟨a,rfl,⟨vs,q1⟩,k _ _ _ _ _ _ l1 S1 (λi Γ' O' H' hz hg S' e'=>?_) h1⟩;obtain⟨a',vs',ea,q1',q2'⟩:=vd S' (r1.up hz hg) e;cases ea;refine⟨λw' hw=>?_,λhi=>⟨vs',q1',by rw[<-Paired.length q2',hi];exact Nat.le_refl _⟩⟩;obtain⟨x,hx,rx⟩:=Paired.getP q2' hw;refine⟨⟨vs',x,q1',hx⟩,λy H2 ⟨e2,hy⟩=>?_⟩;subst e2;have:=hy vs' q1';rw[hx]at this;cases this;exact⟨Γ',Le.refl _,S',rx⟩
theorem Um{Γ:Gh}{f:Nat->Int}{J:It}(hgo:∀i H,i<n->J.go i H)(hy:∀i H x H',J.yld i H x H'->H'=H/\x=.int (f i))(hs:∀i H,n<=i->J.stop i H):zh6 K Γ J ((List.range n).map λi=>.d (.int (f i))) λ_=>True:=by
 intro i Γ' O' H' hz hg S' _;refine⟨λw hw=>?_,λhi=>hs i _ (by rw[hi];simp)⟩;rw[List.getElem?_map]at hw;cases hr:(List.range n)[i]? with
 |none=>rw[hr]at hw;cases hw
 |some j=>
  rw[hr]at hw;cases hw;obtain⟨hi,hj⟩:=List.getElem?_eq_some_iff.mp hr;simp at hi hj;subst hj;refine⟨hgo i _ hi,λx H2 y=>?_⟩;obtain⟨rfl,rfl⟩:=hy i _ x H2 y;exact⟨Γ',Le.refl _,S',xl⟩
noncomputable def zeC(T:TAW):TIW:=λρ O R=>T ρ O λws O1=>∃j:Int,ws=[.d (.int j)]/\-(2 ^ 62)<=j/\j<2 ^ 62/\R ((List.range j.toNat).map λ(i:Nat)=>.d (.int i)) (λ_=>True) O1
theorem za7{T:TAW}(h:xf K t T):vp K (zek t) (zeC T):=by
 intro Γ O H ρ σ S r Q R hT k;refine h _ _ _ _ _ S r _ _ hT λΓ1 O1 H1 ws vs l1 S1 r1 h1=>?_;obtain⟨j,rfl,b1,b2,h1⟩:=h1;cases r1 with
 |cons rx t=>
  cases t;refine⟨j,by rw[show _=V.int j from rx],b1,b2,k _ _ _ _ _ _ l1 S1 (Um (f:=λi=>(i:Int)) (λi H hi=>hi) (λi H x H' ⟨e1,e2⟩=>⟨e1,by rw[e2,Int.zero_add]⟩) λi H hi=>hi) h1⟩
noncomputable def zeD(T:TAW):TIW:=λρ O R=>T ρ O λws O1=>∃i j:Int,ws=[.d (.int i),.d (.int j)]/\(-(2 ^ 62)<=i/\i<2 ^ 62/\-(2 ^ 62)<=j/\j<2 ^ 62)/\R ((List.range (j-i).toNat).map λ(k:Nat)=>.d (.int (i+k))) (λ_=>True) O1
theorem za8{T:TAW}(h:xf K t T):vp K (zel t) (zeD T):=by
 intro Γ O H ρ σ S r Q R hT k;refine h _ _ _ _ _ S r _ _ hT λΓ1 O1 H1 ws vs l1 S1 r1 h1=>?_;obtain⟨i,j,rfl,b,h1⟩:=h1;cases r1 with
 |cons rx t=>
  cases t with
  |cons ry t=>
   cases t;exact⟨i,j,by rw[show _=V.int i from rx,show _=V.int j from ry],b,k _ _ _ _ _ _ l1 S1 (Um (f:=λk=>i+(k:Int)) (λi H hi=>hi) (λi H x H' ⟨e1,e2⟩=>⟨e1,e2⟩) λi H hi=>hi) h1⟩
noncomputable def zeE(T:TAW):TIW:=λρ O R=>T ρ O λws O1=>∃(i j c:Int) (n:Nat),ws=[.d (.int i),.d (.int j),.d (.int c)]/\R3 i j c n/\R ((List.range n).map λ(k:Nat)=>.d (.int (i+k*c))) (λ_=>True) O1
theorem za9{T:TAW}(h:xf K t T):vp K (zeu t) (zeE T):=by
 intro Γ O H ρ σ S r Q R hT k;refine h _ _ _ _ _ S r _ _ hT λΓ1 O1 H1 ws vs l1 S1 r1 h1=>?_;obtain⟨i,j,c,n,rfl,b,h1⟩:=h1;cases r1 with
 |cons rx t=>
  cases t with
  |cons ry t=>
   cases t with
   |cons rz t=>
    cases t;exact⟨i,j,c,n,by rw[show _=V.int i from rx,show _=V.int j from ry,show _=V.int c from rz],b,k _ _ _ _ _ _ l1 S1 (Um (f:=λk=>i+(k:Int)*c) (λi H hi=>hi) (λi H x H' ⟨e1,e2⟩=>⟨e1,e2⟩) λi H hi=>hi) h1⟩
noncomputable def zeF(T:TAW):TIW:=λρ O R=>T ρ O λws O1=>∃w us ds,ws=[w]/\yc O1 w=some us/\yH us=some ds/\R ((List.range ds.length).zipWith (λ(i:Nat) d=>W.d (.tuple [.int i,d])) ds) (λO'=>yc O' w=some us) O1
theorem zba{T:TAW}(h:xf K t T):vp K (Kj K t) (zeF T):=by
 intro Γ O H ρ σ S r Q R hT k;refine h _ _ _ _ _ S r _ _ hT λΓ1 O1 H1 ws vs l1 S1 r1 h1=>?_;obtain⟨w,us,ds,rfl,e,hd,h1⟩:=h1;cases r1 with
 |cons rx t=>
  cases t;obtain⟨a,vs,rfl,q1,q2⟩:=yC S1 rx e;refine⟨a,rfl,⟨vs,q1⟩,k _ _ _ _ _ _ l1 S1 (λi Γ' O' H' hz hg S' e'=>?_) h1⟩;obtain⟨a',vs',ea,q1',q2'⟩:=yC S' (rx.up hz hg) e';cases ea;rw[xj hd]at q2';have hl:ds.length=vs'.length:=by rw[<-Paired.length q2',List.length_map]
  refine⟨λw' hw=>?_,λhi=>⟨vs',q1',by rw[hi];simp;omega⟩⟩;rw[List.getElem?_zipWith]at hw;cases hr:(List.range ds.length)[i]? with
  |none=>rw[hr]at hw;cases hw
  |some j=>
   rw[hr]at hw;cases hdi:ds[i]? with
   |none=>rw[hdi]at hw;cases hw
   |some d=>
    rw[hdi]at hw;cases hw;obtain⟨hi,hj⟩:=List.getElem?_eq_some_iff.mp hr;simp at hi hj;subst hj;obtain⟨x,hx,rx'⟩:=Paired.getP q2' (i:=i) (x:=.d d) (by rw[List.getElem?_map,hdi];rfl);refine⟨⟨vs',x,q1',hx⟩,λy H2 ⟨t,y',e1,e2,e3,hy⟩=>?_⟩;have hy':=hy vs' q1';rw[hx]at hy';cases hy';subst e1 e3;obtain⟨Γ2,l2,S2,r2⟩:=kh S' (ds:=[.int i,d]) (vs:=[.int i,x]) ⟨_,_,rfl,rfl,_,_,rfl,rx',rfl⟩ e2;exact⟨Γ2,l2,S2,r2⟩
noncomputable def yU(ws:List W)(keep:OM->Prop)(G:TGW)(TB:TSW)(D:EndsW)(ρ:WS)(O:OM):Prop:=∃Pv:Nat->WS->OM->Prop,Pv 0 ρ O/\(∀i ρ O,Pv i ρ O->keep O)/\
 (∀i w ρ O,ws[i]? =some w->Pv i ρ O->G w ρ O λρ' O'=>TB { D with nx:=Pv (i+1),ct:=Pv (i+1),bk:=D.nx } ρ' O')/\∀ρ O,Pv ws.length ρ O->D.nx ρ O
noncomputable def zh8(Wi:TIW)(G:TGW)(TB:TSW):TSW:=λD ρ O=>Wi ρ O λws keep O1=>yU ws keep G TB D ρ O1
theorem zfZ{wi:TI}{Wi:TIW}{g:TG}{G:TGW}{tb:TS}{TB:TSW}(hi:vp K wi Wi)(hg:RefG K g G)(hb:RefS K tb TB):RefS K (zho wi g tb) (zh8 Wi G TB):=by
 intro Γ O H ρ σ D DW S r hT e;refine hi _ _ _ _ _ S r _ _ hT λΓ1 O1 H1 J ws keep l1 S1 ok h1=>?_;obtain⟨Pv,p0,pk,ps,pd⟩:=h1;refine⟨λi m σ' H'=>i<=ws.length/\m=ws.length-i/\∃Γ' O' ρ',Le Γ1 Γ'/\Sim K Γ' O' H'/\relR K Γ' ρ' σ'/\Pv i ρ' O',⟨_,Nat.zero_le _,rfl,Γ1,O1,ρ,Le.refl _,S1,r.mono l1,p0⟩,?_⟩;rintro i m σ' H' ⟨hi,rfl,Γ',O',ρ',l',S',r',p'⟩;obtain⟨ok1,ok2⟩:=ok i Γ' O' H' l'.z l'.g S' (pk _ _ _ p');by_cases hlt:i<ws.length
 .obtain⟨go,y⟩:=ok1 _ (List.getElem?_eq_getElem hlt)
  refine .inr ⟨go,λσ2 H2=>∃Γ2 O2 ρ2,Le Γ1 Γ2/\Sim K Γ2 O2 H2/\relR K Γ2 ρ2 σ2/\Pv (i+1) ρ2 O2,λσ2 H2 ⟨Γ2,O2,ρ2,l2,S2,r2,p2⟩=>⟨ws.length-(i+1),by omega,hlt,rfl,Γ2,O2,ρ2,l2,S2,r2,p2⟩,λx H2 hy=>?_⟩;obtain⟨Γ2,l2,S2,rx⟩:=y x H2 hy;refine hg _ _ _ _ _ _ _ S2 (r'.mono l2) rx _ _ (ps i _ ρ' O' (List.getElem?_eq_getElem hlt) p') λΓ3 O3 H3 ρ3 σ3 l3 S3 r3 h3=>?_;have l13:=(l'.trans l2).trans l3;refine hb _ _ _ _ _ _ _ S3 r3 h3 ⟨λΓ4 O4 H4 ρ4 σ4 l4 S4 r4 h4=>⟨Γ4,O4,ρ4,l13.trans l4,S4,r4,h4⟩,λΓ4 O4 H4 w v l4=>e.rt _ _ _ _ _ ((l1.trans l13).trans l4),λΓ4 O4 H4 ρ4 σ4 l4=>e.nx _ _ _ _ _ ((l1.trans l13).trans l4),λΓ4 O4 H4 ρ4 σ4 l4 S4 r4 h4=>⟨Γ4,O4,ρ4,l13.trans l4,S4,r4,h4⟩⟩
 .have hi2:i=ws.length:=by omega
  refine .inl ⟨ok2 hi2,e.nx _ _ _ _ _ (l1.trans l') S' r' (pd _ _ ?_)⟩;rw[<-hi2];exact p'
noncomputable def yn(js:List Nat)(ρ:WS):WS:=js.map λj=>(ρ[j]?).join
theorem qp{Γ:Gh}{ρ:WS}(r:relR K Γ ρ σ)(n:Nat)(js:List Nat):relR K Γ (List.replicate n none++yn js ρ) (jr n js σ):=by
 refine Paired.appP ?_ ?_
 .induction n with
  |zero=>exact .nil
  |succ n ih=>exact .cons trivial ih
 .unfold yn
  induction js with
  |nil=>exact .nil
  |cons j js ih=>
   refine .cons ?_ ih;show Zk K Γ (ρ[j]?.join) (σ[j]?.join);cases h:ρ[j]? with
   |none=>exact trivial
   |some o=>
    cases o with
    |none=>exact trivial
    |some w=>
     obtain⟨v,hv,rv⟩:=r.get h;rw[hv];exact rv
noncomputable def Zo(G:TGW)(T:TTW)(E:TEW)(n:Nat)(y6:WS)(w:W)(ρ:WS)(O:OM)(k:Option W->OM->Prop):Prop:=
 G w ρ O λρ1 O1=>(ρ1.length=n+y6.length/\ρ1.drop n=y6)/\T ρ1 O1 λok O2=>if ok=true then E ρ1 O2 λy O3=>k (some y) O3 else k none O2
noncomputable def wLc(Wi:TIW)(n:Nat)(js:List Nat)(G:TGW)(T:TTW)(E:TEW):TEW:=λρ O R=>Wi ρ O λws keep O1=>keep O1/\ws.length<=1000/\∃F:W->Option PyData,
 (∀w∈ws,∀us:WS,us.length=n->Zo G T E n (yn js ρ) w (us++yn js ρ) O1 λy O2=>O2=O1/\y=(F w).map .d)/\R (.d (.list (ws.filterMap F))) O1
theorem jz{y6 ρ:WS}(h1:ρ.length=n+y6.length)(h2:ρ.drop n=y6):∃us:WS,us.length=n/\ρ=us++y6:=⟨ρ.take n,by rw[List.length_take];omega,by rw[<-h2,List.take_append_drop]⟩
theorem zh9{wi:TI}{Wi:TIW}{js:List Nat}{g:TG}{G:TGW}{tt:TT}{T:TTW}{te:TE}{E:TEW}(hi:vp K wi Wi)(hg:RefG K g G)(ht:xu K tt T)(he:RefE K te E):RefE K (tLc wi n js g tt te) (wLc Wi n js G T E):=by
 intro Γ O H ρ σ S r Q R hT k;refine hi _ _ _ _ _ S r _ _ hT λΓ1 O1 H1 J ws keep l1 S1 ok h1=>?_;obtain⟨hk,hlen,F,hF,hR⟩:=h1;intro D hD;have hFD:Γ1.F D=none:=S1.f.free hD;have r1:=qp (r.mono l1) n js;refine⟨fun i m σ' H'=>i<=ws.length/\m=ws.length - i/\∃ Γ' ρ' vs,Same Γ1.Z Γ'.Z/\(∀ a rs,Γ1.G a=some rs->∃ more,Γ'.G a=some (rs ++ more))/\Γ'.F=upd Γ1.F D (.lst vs)/\Sim K Γ' O1 H'/\relR K Γ' ρ' σ'/\
  ρ'.length=n+(yn js ρ).length/\ρ'.drop n=yn js ρ/\Reps K Γ'.Z ((ws.take i).filterMap F) vs,⟨_,Nat.zero_le _,rfl,_,_,[],Same.refl _,λa rs h=>⟨[],by rw[List.append_nil];exact h⟩,rfl,S1.frameNew hD (.lst []),r1.setF,by simp,by simp,rfl⟩,?_⟩
 rintro i m σ' H' ⟨hi,rfl,Γ',ρ',vs,z',g',f',S',r',n1,n2,rp⟩;obtain⟨ok1,ok2⟩:=ok i Γ' O1 H' z' g' S' hk;have hvl:vs.length<=i:=by
  rw[<-Reps.length rp];exact Nat.le_trans (List.length_filterMap_le _ _) (by rw[List.length_take];omega)
 by_cases hlt:i<ws.length
 .obtain⟨go,y⟩:=ok1 _ (List.getElem?_eq_getElem hlt)
  refine .inr ⟨go,fun σ2 H2=>∃ Γ2 ρ2 vs2,Same Γ1.Z Γ2.Z/\(∀ a rs,Γ1.G a=some rs->∃ more,Γ2.G a=some (rs ++ more))/\Γ2.F=upd Γ1.F D (.lst vs2)/\Sim K Γ2 O1 H2/\relR K Γ2 ρ2 σ2/\
   ρ2.length=n+(yn js ρ).length/\ρ2.drop n=yn js ρ/\Reps K Γ2.Z ((ws.take (i+1)).filterMap F) vs2,λσ2 H2 h=>⟨ws.length-(i+1),by omega,hlt,rfl,h⟩,λx H2 hy=>?_⟩
  obtain⟨Γ2,l2,S2,rx⟩:=y x H2 hy;obtain⟨us,hus,rfl⟩:=jz n1 n2;have et:ws.take (i+1)=ws.take i++[ws[i]]:=(List.take_append_getElem hlt).symm;refine hg _ _ _ _ _ _ _ S2 (r'.mono l2) rx _ _ (hF _ (List.getElem_mem hlt) us hus) λΓ3 O3 H3 ρ3 σ3 l3 S3 r3 h3=>?_;obtain⟨⟨m1,m2⟩,h3⟩:=h3;refine ht _ _ _ _ _ S3 r3 _ _ h3 λΓ4 O4 H4 b l4 S4 h4=>?_;have l24:=(l2.trans l3).trans l4;have up:∀ Γ5,Le Γ' Γ5->Same Γ1.Z Γ5.Z/\(∀ a rs,Γ1.G a=some rs->∃ more,Γ5.G a=some (rs ++ more)):=fun Γ5 l=>⟨z'.trans l.z,fun a rs h=>by
   obtain⟨m,e⟩:=g' a rs h;obtain⟨m2,e2⟩:=l.g a _ e;exact⟨m++m2,by rw[<-List.append_assoc];exact e2⟩⟩
  cases b with
  |true=>
   rw[if_pos rfl]at h4 ⊢;refine he _ _ _ _ _ S4 (r3.mono l4) _ _ h4 λΓ5 O5 H5 w5 v5 l5 S5 r5 h5=>?_;obtain⟨rfl,h5⟩:=h5;have l25:=l24.trans l5;cases hFw:F ws[i]with
   |none=>rw[hFw]at h5;cases h5
   |some d=>
    rw[hFw]at h5;cases h5;have f5:Γ5.F=upd Γ1.F D (.lst vs):=by rw[l25.f,f']
    have fD:Γ5.F D=some (.lst vs):=by rw[f5,zX]
    refine⟨vs,S5.f _ _ fD,xH (by omega),?_⟩;obtain⟨u1,u2⟩:=up Γ5 l25;refine⟨⟨Γ5.Z,Γ5.G,upd Γ5.F D (.lst (vs++[v5]))⟩,ρ3,vs++[v5],u1,u2,?_,S5.framePut fD _,((r3.mono l4).mono l5).setF,m1,m2,?_⟩
    .show upd Γ5.F D _=_
     rw[f5,YV]
    .rw[et,List.filterMap_append]
     have:([ws[i]]:List W).filterMap F=[d]:=by simp[hFw]
     rw[this];exact Reps.snoc (Reps.same l25.z _ _ rp) r5
  |false=>
   rw[if_neg (by decide)]at h4 ⊢;obtain⟨rfl,h4⟩:=h4;obtain⟨u1,u2⟩:=up Γ4 l24;refine⟨Γ4,ρ3,vs,u1,u2,by rw[l24.f,f'],S4,r3.mono l4,m1,m2,?_⟩;cases hFw:F ws[i]with
   |some d=>rw[hFw]at h4;cases h4
   |none=>
    rw[et,List.filterMap_append];have:([ws[i]]:List W).filterMap F=[]:=by simp[hFw]
    rw[this,List.append_nil];exact Reps.same l24.z _ _ rp
 .have hi2:i=ws.length:=by omega
  subst hi2;refine .inl ⟨ok2 rfl,?_⟩;rw[List.take_length]at rp;obtain⟨q1,q2,q3⟩:=S'.unframe f' hFD rp;exact k ⟨upd Γ'.Z D (.lst vs),Γ'.G,Γ1.F⟩ _ _ _ _ (l1.trans ⟨rfl,z'.trans q1,g'⟩) q2 q3 hR
noncomputable def yo{α:Type}(f:Str)(v:α):List (Str×α)->List (Str×α)
 |[]=>[(f,v)]
 |(g,x)::r=>if g=f then(g,v)::r else(g,x)::yo f v r
theorem Ku{Γ:Gh}{f:Str}{w:W}(r:relW K Γ w v){fs:List (Str×W)}{vs:List (Str×V)}(h:yp K Γ fs vs):yp K Γ (yo f w fs) (xA f v vs):=by
 unfold yp at h ⊢
 induction h with
 |nil=>exact .cons ⟨rfl,r⟩ .nil
 |cons a b ih=>
  rename_i p q ps qs
  obtain⟨k,x⟩:=p;obtain⟨k',y⟩:=q;obtain⟨e1,e2⟩:=a;cases(show k=k' from e1);simp only[yo,xA];split
  .exact .cons ⟨rfl,r⟩ b
  .exact .cons ⟨rfl,e2⟩ ih
noncomputable def kj:W->Option Key
 |.d (.int i)=>some (.inl i)
 |.d (.str x)=>some (.inr x)
 |_=>none
theorem Y7{Γ:Gh}{w:W}{k:Key}(r:relW K Γ w v)(e:kj w=some k):v=kV k:=by
 cases w with
 |d x=>
  cases x<;>simp[kj]at e
  .subst e;exact r
  .subst e;exact r
 |own a=>cases e
 |row a i=>cases e
section
variable {κ α:Type}[DecidableEq κ]
noncomputable def kl(kvs:List (κ×α))(k:κ):Option α:=(kvs.find? λkv=>decide (kv.1=k)).map (·.2)
noncomputable def uI(kvs:List (κ×α))(k:κ)(v:α):List (κ×α):=if(kvs.any λkv=>decide (kv.1=k))=true then kvs.map (λkv=>if kv.1=k then(kv.1,v)else kv)else kvs++[(k,v)]
noncomputable def uX(kvs more:List (κ×α)):List (κ×α):=more.foldl (λacc kv=>uI acc kv.1 kv.2) kvs
end
theorem XT{Γ:Gh}{k:Key}{kvs:List (Key×W)}{vs:List (Key×V)}(h:yp K Γ kvs vs):(kl kvs k=none->y7 vs k=none)/\∀w,kl kvs k=some w->∃v,y7 vs k=some v/\relW K Γ w v:=by
 unfold yp at h
 induction h with
 |nil=>exact⟨λ_=>rfl,λw e=>by cases e⟩
 |cons a b ih=>
  rename_i p q ps qs
  obtain⟨k1,x⟩:=p;obtain⟨k',y⟩:=q;obtain⟨e1,e2⟩:=a;cases(show k1=k' from e1);simp only[kl,y7,List.find?_cons]at ih ⊢;by_cases hk:k1=k
  .simp[hk];exact e2
  .simp only[hk,decide_false];exact ih
theorem zbb{Γ:Gh}{k:Key}{kvs:List (Key×W)}{vs:List (Key×V)}(h:yp K Γ kvs vs):(kvs.any λkv=>decide (kv.1=k))=vs.any λkv=>decide (kv.1=k):=by
 unfold yp at h
 induction h with
 |nil=>rfl
 |cons a b ih=>rw[List.any_cons,List.any_cons,a.1,ih]
theorem XU{Γ:Gh}{k:Key}{w:W}(r:relW K Γ w v){kvs:List (Key×W)}{vs:List (Key×V)}(h:yp K Γ kvs vs):yp K Γ (uI kvs k w) (xC vs k v):=by
 unfold uI xC;rw[zbb h];split
 .have key:∀{kvs:List (Key×W)}{vs:List (Key×V)},yp K Γ kvs vs->yp K Γ (kvs.map λkv=>if kv.1=k then(kv.1,w)else kv) (vs.map λkv=>if kv.1=k then(kv.1,v)else kv):=λ{kvs vs} h=>by
   unfold yp at h ⊢
   induction h with
   |nil=>exact .nil
   |cons a b ih=>
    rename_i p q ps qs
    obtain⟨k1,x⟩:=p;obtain⟨k',y⟩:=q;obtain⟨e1,e2⟩:=a;cases(show k1=k' from e1);refine .cons ?_ ih;dsimp only;split
    .exact⟨rfl,r⟩
    .exact⟨rfl,e2⟩
  exact key h
 .exact Paired.appP h (.cons ⟨rfl,r⟩ .nil)
theorem ZE{Γ:Gh}{more:List (Key×W)}{ms:List (Key×V)}(g:yp K Γ more ms):∀{kvs:List (Key×W)}{vs:List (Key×V)},yp K Γ kvs vs->yp K Γ (uX kvs more) (xI vs ms):=by
 unfold uX xI;unfold yp at g
 induction g with
 |nil=>exact λh=>h
 |cons a b ih=>
  rename_i p q ps qs
  intro kvs vs h;obtain⟨k1,x⟩:=p;obtain⟨k',y⟩:=q;obtain⟨e1,e2⟩:=a;cases(show k1=k' from e1);exact ih (XU e2 h)
noncomputable def zbc(Td Ty Tx:TEW):TEW:=λρ O R=>Td ρ O λx O1=>∃a,x=.own a/\(∃kvs,O1 a=some (.dK kvs))/\Ty ρ O1 λy O2=>Tx ρ O2 λz O3=>∃kvs k,O3 a=some (.dK kvs)/\kj y=some k/\R ((kl kvs k).getD z) O3
theorem zbd{td ty tx:TE}{Td Ty Tx:TEW}(hd:RefE K td Td)(hy:RefE K ty Ty)(hx:RefE K tx Tx):RefE K (zaU td ty tx) (zbc Td Ty Tx):=by
 intro Γ O H ρ σ S r0 Q R hT k;refine hd Γ O H ρ σ S r0 _ _ hT λΓ1 O1 H1 x v l1 S1 rx h1=>?_;obtain⟨a,rfl,⟨kvs0,ho0⟩,h1⟩:=h1;obtain⟨_,vs0,p1,_⟩:=S1.o _ _ ho0;refine⟨a,rx,.inl ⟨vs0,.inl p1⟩,?_⟩;refine hy _ _ _ _ _ S1 (r0.mono l1) _ _ h1 λΓ2 O2 H2 y u l2 S2 ry h2=>?_;refine hx _ _ _ _ _ S2 (r0.mono (l1.trans l2)) _ _ h2 λΓ3 O3 H3 z t l3 S3 rz h3=>?_;obtain⟨kvs,ky,ho,ek,h3⟩:=h3;obtain⟨_,vs,q1,q2⟩:=S3.o _ _ ho;refine⟨y7 vs ky,by rw[Y7 (ry.mono l3) ek];exact V8.k q1,k _ _ _ _ _ ((l1.trans l2).trans l3) S3 ?_ h3⟩;cases e:kl kvs ky with
 |none=>rw[(XT q2).1 e];exact rz
 |some w=>obtain⟨z',e',r'⟩:=(XT q2).2 w e;rw[e'];exact r'
noncomputable def Yo:List (TEW×TEW)->WS->OM->(List (W×W)->OM->Prop)->Prop
 |[],_,O,R=>R [] O
 |(Tk,Tv)::ts,ρ,O,R=>Tk ρ O λk O1=>Tv ρ O1 λv O2=>Yo ts ρ O2 λps O3=>R ((k,v)::ps) O3
inductive RefPs (K:W.Frag):List (TE×TE)->List (TEW×TEW)->Prop
 |nil:RefPs K [] []
 |cons {tk tv:TE}{Tk Tv:TEW}{ts:List (TE×TE)}{Ts:List (TEW×TEW)}:RefE K tk Tk->RefE K tv Tv->RefPs K ts Ts->RefPs K ((tk,tv)::ts) ((Tk,Tv)::Ts)
theorem zbe{ts:List (TE×TE)}{Ts:List (TEW×TEW)}(h:RefPs K ts Ts):∀Γ O H ρ σ,Sim K Γ O H->relR K Γ ρ σ->∀(Q:List (V×V)->Hp->Prop) (R:List (W×W)->OM->Prop),Yo Ts ρ O R->
  (∀Γ' O' H' ws vs,Le Γ Γ'->Sim K Γ' O' H'->Paired (λp q=>relW K Γ' p.1 q.1/\relW K Γ' p.2 q.2) ws vs->R ws O'->Q vs H')->Yg ts σ H Q:=by
 induction h with
 |nil=>intro Γ O H ρ σ S r Q R hT k;exact k _ _ _ _ _ (Le.refl _) S .nil hT
 |cons hk hv _ ih=>
  intro Γ O H ρ σ S r Q R hT k;refine hk _ _ _ _ _ S r _ _ hT λΓ1 O1 H1 w v l1 S1 r1 h1=>?_;refine hv _ _ _ _ _ S1 (r.mono l1) _ _ h1 λΓ2 O2 H2 w2 v2 l2 S2 r2 h2=>?_;exact ih _ _ _ _ _ S2 (r.mono (l1.trans l2)) _ _ h2 λΓ3 O3 H3 ws vs l3 S3 rs h3=>k _ _ _ _ _ ((l1.trans l2).trans l3) S3 (.cons ⟨(r1.mono l2).mono l3,r2.mono l3⟩ rs) h3
noncomputable def VB:List (W×W)->Option (List (Key×W))
 |[]=>some []
 |(k,v)::ps=>match kj k,VB ps with
  |some k',some r=>some ((k',v)::r)
  |_,_=>none
theorem zbf{Γ:Gh}{ps:List (W×W)}{vs:List (V×V)}(r:Paired (λp q=>relW K Γ p.1 q.1/\relW K Γ p.2 q.2) ps vs):∀{kvs:List (Key×W)},VB ps=some kvs->∃us:List (Key×V),vs=us.map (λkv=>(kV kv.1,kv.2))/\yp K Γ kvs us:=by
 induction r with
 |nil=>intro kvs e;cases e;exact⟨[],rfl,.nil⟩
 |cons a b ih=>
  rename_i p q ps qs
  intro kvs e;obtain⟨k,v⟩:=p;obtain⟨k',v'⟩:=q;simp only[VB]at e;split at e
  .rename_i k1 r1 e1 e2
   cases e;obtain⟨us,h1,h2⟩:=ih e2;have hk:=Y7 (show relW K Γ k k' from a.1) e1;exact⟨(k1,v')::us,by rw[h1,hk];rfl,.cons ⟨rfl,a.2⟩ h2⟩
  .cases e
noncomputable def zeG(Ts:List (TEW×TEW)):TEW:=λρ O R=>∀p,O p=none->Yo Ts ρ (updO O p (.dK [])) λps O2=>O2 p=some (.dK [])/\∃kvs,VB ps=some kvs/\kvs.length<=15/\R (.own p) (updO O2 p (.dK (uX [] kvs)))
theorem zdg{ts:List (TE×TE)}{Ts:List (TEW×TEW)}(h:RefPs K ts Ts):RefE K (zet ts) (zeG Ts):=by
 intro Γ O H ρ σ S r Q R hT k p hp;have S1:=S.newO hp (o:=.dK []) (oo:=.dK []) (by intro _ h;cases h) ⟨[],zX,.nil⟩;refine zbe h _ _ _ _ _ S1 r _ _ (hT p (S.free hp).2.1) λΓ2 O2 H2 ws vs l2 S2 rs h2=>?_;obtain⟨ho,kvs,ek,hl,h2⟩:=h2;obtain⟨us,h3,h4⟩:=zbf rs ek;obtain⟨_,vs0,q1,q2⟩:=S2.o _ _ ho;cases q2;refine⟨q1,us,h3,by rw[<-Paired.length h4];exact hl,?_⟩;exact k _ _ _ _ _ l2 (S2.put (oo:=.dK _) ho (by intro _ h;cases h) (by intro _ h;cases h) ⟨_,zX,ZE h4 .nil⟩) xy h2
noncomputable def tyW(T:String)(O:OM)(w:W):Prop:=(T= "list"/\(yc O w).isSome=true)\/(T= "str"/\∃z,w=.d (.str z))\/(T= "dict"/\∃a kvs,w=.own a/\O a=some (.dK kvs))
theorem zeH{Γ:Gh}{O:OM}{T:String}{w:W}(S:Sim K Γ O H)(r:relW K Γ w v)(h:tyW T O w):tyV K T v H:=by
 rcases h with⟨rfl,h⟩|⟨rfl,z,rfl⟩|⟨rfl,a,kvs,rfl,h⟩
 .obtain⟨ws,e⟩:=Option.isSome_iff_exists.mp h
  obtain⟨a,vs,rfl,q1,_⟩:=yC S r e;exact .inl ⟨rfl,vs,q1⟩
 .rw[show v=.str z from r];rfl
 .cases(show v=.ref a from r)
  obtain⟨_,vs,q1,_⟩:=S.o _ _ h;exact .inr (.inr (.inl ⟨rfl,.inl ⟨vs,q1⟩⟩))
noncomputable def wBM(T:String)(rw:W->List W->OM->WK->Prop)(To:TEW)(Ta:TAW):TEW:=λρ O R=>To ρ O λx O1=>tyW T O1 x/\Ta ρ O1 λxs O2=>rw x xs O2 R
theorem zia{T:String}{r:V->List V->Hp->VK->Prop}{rw:W->List W->OM->WK->Prop}{to:TE}{To:TEW}{Ta:TAW}(hr:RefM K T r rw)(ho:RefE K to To)(ha:xf K t Ta):RefE K (tBM K T r to t) (wBM T rw To Ta):=by
 intro Γ O H ρ σ S r0 Q R hT k;refine ho _ _ _ _ _ S r0 _ _ hT λΓ1 O1 H1 x v l1 S1 rx h1=>?_;refine⟨zeH S1 rx h1.1,ha _ _ _ _ _ S1 (r0.mono l1) _ _ h1.2 λΓ2 O2 H2 ws vs l2 S2 rs h2=>?_⟩;exact hr _ _ _ _ _ _ _ S2 (rx.mono l2) rs _ _ h2 λΓ3 O3 H3 w u l3=>k _ _ _ _ _ ((l1.trans l2).trans l3)
noncomputable def zib(T:String)(rw:W->List W->OM->WK->Prop)(To:TEW):TEW:=λρ O R=>To ρ O λx O1=>tyW T O1 x/\rw x [] O1 R
theorem zf0{T:String}{r:V->List V->Hp->VK->Prop}{rw:W->List W->OM->WK->Prop}{to:TE}{To:TEW}(hr:RefM K T r rw)(ho:RefE K to To):RefE K (zcG K T r to) (zib T rw To):=by
 intro Γ O H ρ σ S r0 Q R hT k;refine ho _ _ _ _ _ S r0 _ _ hT λΓ1 O1 H1 x v l1 S1 rx h1=>?_;exact⟨zeH S1 rx h1.1,hr _ _ _ _ _ _ _ S1 rx .nil _ _ h1.2 λΓ3 O3 H3 w u l3=>k _ _ _ _ _ (l1.trans l3)⟩
noncomputable def ZQ(O:OM)(o w:W):Option OM:=match o with
 |.own a=>match O a with
  |some (.lst ws)=>if ws.length<1000 then some (updO O a (.lst (ws++[w])))else none
  |some (.grid rows)=>match w with
   |.own b=>match O b with
    |some (.lst us)=>if rows.length<1000 then(yH us).map λds=>updO (del O b) a (.grid (rows++[ds]))else none
    |_=>none
   |_=>none
  |_=>none
 |_=>none
noncomputable def Y8:W->List W->OM->WK->Prop:=λx ws O R=>∃w O1,ws=[w]/\ZQ O x w=some O1/\R (.d .none) O1
theorem zdh{T:String}:RefM K T Zi Y8:=by
 rintro Γ O H x v xs vs S rx rs Q R ⟨w,O1,rfl,e,h⟩ k;cases rs with
 |cons rw t=>
  cases t
  rename_i u
  cases x with
  |d _=>cases e
  |row _ _=>cases e
  |own a=>
   cases(show v=.ref a from rx);simp only[ZQ]at e;split at e
   .rename_i ws ho
    split at e
    .rename_i hl
     cases e;obtain⟨_,us,q1,q2⟩:=S.o _ _ ho;refine⟨a,us,u,rfl,rfl,q1,by rw[<-Paired.length q2];exact xH (by omega),?_⟩;exact k _ _ _ _ _ (Le.refl _) (S.put (oo:=.lst _) ho (by intro _ h;cases h) (by intro _ h;cases h) ⟨_,zX,Paired.appP q2 (.cons rw .nil)⟩) vK h
    .cases e
   .rename_i rows ho
    split at e
    .rename_i b
     cases(show u=.ref b from rw);split at e
     .rename_i us hb
      split at e
      .rename_i hl
       cases hd:yH us with
       |none=>rw[hd]at e;cases e
       |some ds=>
        rw[hd]at e;cases e;rw[xj hd]at hb;obtain⟨_,rs,hg,_⟩:=S.o _ _ ho;obtain⟨q1,q2,Γ',l',S'⟩:=S.absorb ho hg hb;refine⟨a,_,.ref b,rfl,rfl,q1,by rw[List.length_map,q2];exact xH (by omega),?_⟩;exact k _ _ _ _ _ l' S' vK h
      .cases e
     .cases e
    .cases e
   .cases e
noncomputable def zeI(t:TA):TE:=VT t
theorem yD(h:QA X es t):PE X (.List es pos) (zeI t):=zaI h.pa
noncomputable def zeJ(T:TAW):TEW:=λρ O R=>T ρ O λws O1=>ws.length<=1000/\∀p,O1 p=none->R (.own p) (updO O1 p (.lst ws))
theorem zdi{T:TAW}(h:xf K t T):RefE K (zeI t) (zeJ T):=by
 intro Γ O H ρ σ S r0 Q R hT k;refine h Γ O H ρ σ S r0 _ _ hT λΓ1 O1 H1 ws vs l1 S1 rs h1=>?_;refine⟨by rw[<-Paired.length rs];exact Y6 h1.1,λp hp=>?_⟩;obtain⟨hO,S'⟩:=zfQ S1 rs hp;exact k _ _ _ _ _ l1 S' xy (h1.2 p hO)
theorem zkQ:RefC K (rLo K) Ym:=zfT
noncomputable def wCs(vs:List V):TAW:=λ_ O R=>R (vs.map ofV) O
theorem zic(h:vs.all scV=true:=by rfl):xf K (tCs vs) (wCs vs):=λΓ O H ρ σ S r Q R hT k=>k _ _ _ _ _ (Le.refl _) S (ZO h) hT
noncomputable def tyD:PyData->Option String
 |.none=>some "NoneType"
 |.bool _=>some "bool"
 |.int _=>some "int"
 |.str _=>some "str"
 |_=>none
noncomputable def isI:String->String->Option Bool
 |"int","int"=>some true
 |"int","bool"=>some false
 |"int","str"=>some false
 |"bool","int"=>some true
 |"bool","bool"=>some true
 |"bool","str"=>some false
 |"str","int"=>some false
 |"str","bool"=>some false
 |"str","str"=>some true
 |"NoneType","int"=>some false
 |"NoneType","bool"=>some false
 |"NoneType","str"=>some false
 |_,_=>none
theorem zf1{a b:String}{c:Bool}(h:isI a b=some c):W.kitOne K (.type a) (.type b)=some c:=by
 unfold isI at h;split at h<;>first|(cases h;rfl)|cases h
noncomputable def Kv(K:W.Frag):List V->Hp->VK->Prop:=λxs H Q=>∃x n t b,xs=[x,.ty n]/\TyOf K H x t/\W.kitOne K t (.type n)=some b/\Q (.bl b) H
theorem km(h:X.K=K):yv X (.builtin "isinstance") (Kv K):=by subst h;exact QV
noncomputable def zdj(n:String)(Ta:TEW):TEW:=λρ O R=>Ta ρ O λx O1=>∃d s b,x=.d d/\tyD d=some s/\isI s n=some b/\R (.d (.bool b)) O1
theorem zf2{n:String}{Ta:TEW}(h:RefE K ta Ta):RefE K (tCB (Kv K) (xZ ta (xZ (tC (.ty n)) uh))) (zdj n Ta):=by
 intro Γ O H ρ σ S r Q R hT k;refine h _ _ _ _ _ S r _ _ hT λΓ1 O1 H1 x v l1 S1 rx h1=>?_;obtain⟨d,s,b,rfl,e1,e2,h1⟩:=h1;have ty:TyOf K H1 v (.type s):=by
  cases d<;>simp[tyD]at e1
  .subst e1;rw[show v=_ from rx];exact .non
  .subst e1;rw[show v=_ from rx];exact .bl _
  .subst e1;rw[show v=_ from rx];exact .int _
  .subst e1;rw[show v=_ from rx];exact .str _
 exact⟨v,n,_,b,rfl,ty,zf1 e2,k _ _ _ _ _ l1 S1 yW h1⟩
noncomputable abbrev TOW:=WS->OM->(Option Int->OM->Prop)->Prop
noncomputable def kn(K:W.Frag)(t:TO)(T:TOW):Prop:=∀Γ O H ρ σ,Sim K Γ O H->relR K Γ ρ σ->∀(Q:Option Int->Hp->Prop) (R:Option Int->OM->Prop),T ρ O R->(∀Γ' O' H' b,Le Γ Γ'->Sim K Γ' O' H'->R b O'->Q b H')->t σ H Q
noncomputable def JB:TOW:=λ_ O R=>R none O
noncomputable def zeK(T:TEW):TOW:=λρ O R=>T ρ O λx O1=>∃i,x=.d (.int i)/\R (some i) O1
theorem Kw:kn K Jt JB:=λΓ O H ρ σ S r Q R hT k=>k _ _ _ _ (Le.refl _) S hT
theorem zdk{t:TE}{T:TEW}(h:RefE K t T):kn K (zep t) (zeK T):=by
 intro Γ O H ρ σ S r Q R hT k;refine h _ _ _ _ _ S r _ _ hT λΓ1 O1 H1 x v l1 S1 rx h1=>?_;obtain⟨i,rfl,h1⟩:=h1;exact⟨i,rx,k _ _ _ _ l1 S1 h1⟩
noncomputable def x4{α:Type}(xs:List α)(lo hi:Option Int):List α:=(xs.drop (HT.sIx xs.length 0 lo)).take (HT.sIx xs.length xs.length hi-HT.sIx xs.length 0 lo)
theorem Uo{Z:Hp}(h:Reps K Z ds vs)(lo hi:Option Int):Reps K Z (x4 ds lo hi) (ka vs lo hi):=by
 have hp:relWs K ⟨Z,λ_=>none,λ_=>none⟩ (ds.map .d) vs:=yG h;have hl:=Reps.length h;have:=Paired.takeP (Paired.dropP hp (HT.sIx vs.length 0 lo)) (HT.sIx vs.length vs.length hi-HT.sIx vs.length 0 lo);rw[<-List.map_drop,<-List.map_take]at this;unfold x4 ka;rw[hl];exact ya this
noncomputable def zid(Te:TEW)(Tl Th:TOW):TEW:=λρ O R=>Te ρ O λx O1=>Tl ρ O1 λl O2=>Th ρ O2 λu O3=>∃ws ds,yc O3 x=some ws/\yH ws=some ds/\R (.d (.list (x4 ds l u))) O3
theorem zf3{te:TE}{tl th:TO}{Te:TEW}{Tl Th:TOW}(he:RefE K te Te)(hl:kn K tl Tl)(hh:kn K th Th):RefE K (tSl (zcF K) te tl th) (zid Te Tl Th):=by
 intro Γ O H ρ σ S r Q R hT k;refine he _ _ _ _ _ S r _ _ hT λΓ1 O1 H1 x v l1 S1 rx h1=>?_;refine hl _ _ _ _ _ S1 (r.mono l1) _ _ h1 λΓ2 O2 H2 l l2 S2 h2=>?_;refine hh _ _ _ _ _ S2 (r.mono (l1.trans l2)) _ _ h2 λΓ3 O3 H3 u l3 S3 h3=>?_;obtain⟨ws,ds,e1,e2,h3⟩:=h3;obtain⟨a,vs,rfl,q1,q2⟩:=yC S3 ((rx.mono l2).mono l3) e1;rw[xj e2]at q2;refine⟨a,vs,rfl,q1,λp hp=>?_⟩;obtain⟨Γ',l',S',r'⟩:=jd S3 (Uo (ya q2) l u) hp;exact k _ _ _ _ _ (((l1.trans l2).trans l3).trans l') S' r' h3
noncomputable def Up:R2W:=λx y O R=>∃ws us ds es,yc O x=some ws/\yc O y=some us/\yH ws=some ds/\yH us=some es/\ds.length+es.length<=10000000/\R (.d (.list (ds++es))) O
theorem Uq{Z:Hp}:∀{ds es:List PyData}{vs us:List V},Reps K Z ds vs->Reps K Z es us->Reps K Z (ds++es) (vs++us)
 |[],_,_,_,h,g=>by rw[show _=[]from h];exact g
 |d::ds,_,_,_,h,g=>by
  obtain⟨x,r,rfl,h1,h2⟩:=h;exact⟨x,_,rfl,h1,Uq h2 g⟩
theorem zj6:RefR K (zhK K) Up:=by
 rintro Γ O H x y v u S rx ry Q R ⟨ws,us,ds,es,e1,e2,e3,e4,hl,h⟩ k;obtain⟨a,vs,rfl,q1,q2⟩:=yC S rx e1;obtain⟨b,zs,rfl,p1,p2⟩:=yC S ry e2;rw[xj e3]at q2;rw[xj e4]at p2;have q3:=ya q2;have p3:=ya p2;refine⟨a,b,vs,zs,rfl,rfl,q1,p1,by rw[<-Reps.length q3,<-Reps.length p3,sizeLine_eq];omega,λp hp=>?_⟩;obtain⟨Γ',l',S',r'⟩:=jd S (Uq q3 p3) hp;exact k _ _ _ _ _ l' S' r' h
noncomputable def wIn(neg:Bool):R2W:=λx y O R=>∃d ds,x=.d d/\vk O y=some ds/\scD d=true/\ds.all scD=true/\R (.d (.bool (if neg then !inV (vOf d) (ds.map vOf)else inV (vOf d) (ds.map vOf)))) O
theorem JC{Z:Hp}:∀{ds:List PyData}{vs:List V},Reps K Z ds vs->ds.all scD=true->vs=ds.map vOf
 |[],_,h,_=>h
 |d::ds,_,h,a=>by
  obtain⟨x,r,rfl,h1,h2⟩:=h;simp at a;rw[jc h1 a.1,JC h2 (by simpa using a.2)];rfl
theorem JD{d:PyData}(h:scD d=true):uG (vOf d)=true:=by cases d<;>first|rfl|simp[scD]at h
noncomputable def zie(K:W.Frag)(neg:Bool):R2:=rIn K neg
theorem Kx(h:X.K=K):OpR X (compareOp .In) (zie K false):=by subst h;exact zaM
theorem zkR{neg:Bool}:RefR K (zie K neg) (wIn neg):=by
 rintro Γ O H x y v u S rx ry Q R ⟨d,ds,rfl,e,h1,h2,h⟩ k;obtain⟨a,vs,rfl,q1,q2⟩:=JA S ry e;have hv:=jc rx h1;have hvs:=JC q2 h2;subst hv hvs;refine⟨a,_,rfl,q1,JD h1,?_,k _ _ _ _ _ (Le.refl _) S yW h⟩;rw[List.all_map];simp only[List.all_eq_true]at h2 ⊢;exact λz hz=>JD (h2 z hz)
noncomputable def zeL:R2W:=λx y O R=>∃i j,x=.d (.str i)/\y=.d (.str j)/\i.length+j.length<=sizeLine/\R (.d (.str (i++j))) O
theorem zif:RefR K (λx y H Q=>∃i j,x=.str i/\y=.str j/\i.length+j.length<=sizeLine/\Q (.str (i++j)) H) zeL:=by
 rintro Γ O H x y v u S rx ry Q R ⟨i,j,rfl,rfl,hl,h⟩ k;exact⟨i,j,rx,ry,hl,k _ _ _ _ _ (Le.refl _) S xQ h⟩
theorem Sim.unframeO{Γ:Gh}{O:OM}(S:Sim K Γ O H){F:Hp}(hF:Γ.F=upd F a (.lst vs))(h0:F a=none)(hr:Reps K Γ.Z ds vs) :
  O a=none/\Sim K ⟨Γ.Z,Γ.G,F⟩ (updO O a (.lst (ds.map .d))) H:=by
 have hFa:Γ.F a=some (.lst vs):=by rw[hF,zX]
 obtain⟨hz,hO,hrow⟩:=S.fd _ _ hFa;have kF:∀b o,F b=some o->b≠a/\Γ.F b=some o:=λb o e=>by
  have hb:b≠a:=λz=>by rw[z,h0]at e;cases e
  exact⟨hb,by rw[hF,zv hb];exact e⟩
 have k1:∀{x:Addr}{rx:List (List PyData)},updO O a (.lst (ds.map .d)) x=some (.grid rx)->O x=some (.grid rx):=λ{x rx} h=>by
  by_cases hx:x=a
  .subst hx;rw[zf]at h;cases h
  .rw[ze hx]at h;exact h
 refine⟨hO,⟨S.z,λb oo e=>?_,S.gd,λb u e=>S.f _ _ (kF b u e).2,λb oo e hn=>?_,λb o e=>S.fg b o (kF b o e).2,λb o e=>⟨(S.fd b o (kF b o e).2).1,by rw[ze (kF b o e).1];exact(S.fd b o (kF b o e).2).2.1,λc rows rs e1=>(S.fd b o (kF b o e).2).2.2 c rows rs (k1 e1)⟩,λx y ra rb rs ss r e1 e2=>S.u x y ra rb rs ss r (k1 e1) (k1 e2)⟩⟩
 .by_cases hb:b=a
  .subst hb
   rw[zf]at e;cases e;exact⟨hz,vs,S.f _ _ hFa,yG hr⟩
  .rw[ze hb]at e
   obtain⟨q1,q2⟩:=S.o _ _ e;refine⟨q1,(q2.keep (Le.refl _) rfl rfl λrs r hg ⟨rows,hrw⟩ hm=>⟨rfl,rfl,?_⟩).setF⟩;subst hrw;exact ze (λz=>hrow b rows rs e hg (by rw[<-z];exact hm))
 .by_cases hb:b=a
  .rw[hb];exact S.fg _ _ hFa
  .rw[ze hb]at e;exact S.gn b oo e hn
noncomputable def zdl(wi:TI)(n:Nat)(js:List Nat)(g:TG)(tt:TT)(te:TE):TE:=tLc wi n js g tt te
noncomputable def zig(wi:TI)(n:Nat)(js:List Nat)(g:TG)(tt:TT)(te:TE):TE:=tLc wi n js g tt te
section
variable {js:List Nat}{scope:Scope}{cl:List (Str×Addr)}{elt iter:Expr}{ifs:List Expr}{wi:TI}{g:TG}{tt:TT}{te:TE}
theorem zih(L:LcOk X N n js scope cl)(hc:X.calm=true)(hi:PI X tg iter wi)
  (hg:∀C s0 H0 fp0,PG (yt X N scope cl C s0 H0 fp0) tg g)(ht:∀C s0 H0 fp0,PTs (yt X N scope cl C s0 H0 fp0) ifs tt)(he:∀C s0 H0 fp0,PE (yt X N scope cl C s0 H0 fp0) elt te)
  (hs:∀x,foldedSetIterable iter X.env x=pure x:=by intro _;rfl):PE X (.ListComp elt [⟨tg,iter,ifs,0⟩] scope pos) (zdl wi n js g tt te):=vV L hc hi hg ht he hs
theorem zii(L:LcOk X N n js scope cl)(hc:X.calm=true)(hi:PI X tg iter wi)
  (hg:∀C s0 H0 fp0,PG (yt X N scope cl C s0 H0 fp0) tg g)(ht:∀C s0 H0 fp0,PTs (yt X N scope cl C s0 H0 fp0) ifs tt)(he:∀C s0 H0 fp0,PE (yt X N scope cl C s0 H0 fp0) elt te)
  (hs:∀x,foldedSetIterable iter X.env x=pure x:=by intro _;rfl):PE X (.ListComp elt [⟨tg,iter,ifs,0⟩] scope pos) (zig wi n js g tt te):=vV L hc hi hg ht he hs
theorem zbg{pos' spos:Pos}(hN:X.N.Nodup)(hx:X.N[i]? =some x)(hk:X.env.scope.names.lookup x=some .local)(L:LcOk X N n js scope cl)(hc:X.calm=true)(hi:PI X tg iter wi)
  (hg:∀C s0 H0 fp0,PG (yt X N scope cl C s0 H0 fp0) tg g)(ht:∀C s0 H0 fp0,PTs (yt X N scope cl C s0 H0 fp0) ifs tt)(he:∀C s0 H0 fp0,PE (yt X N scope cl C s0 H0 fp0) elt te)
  (hsw:swapsWith (.ListComp elt [⟨tg,iter,ifs,0⟩] scope pos) (some (.Name x pos')) spos.line X.env=pure true:=by rfl)
  (hs:∀x,foldedSetIterable iter X.env x=pure x:=by intro _;rfl):PS X (.Assign [.Name x pos'] (.ListComp elt [⟨tg,iter,ifs,0⟩] scope pos) spos) (ZJ (zdl wi n js g tt te) (qj i)):=uT hN hx hk L hc hi hg ht he hsw hs
end
noncomputable def zij(Wi:TIW)(n:Nat)(js:List Nat)(G:TGW)(T:TTW)(E:TEW):TEW:=λρ O R=>Wi ρ O λws keep O1=>keep O1/\ws.length<=1000/\∃F:W->Option PyData,
 (∀w∈ws,∀us:WS,us.length=n->Zo G T E n (yn js ρ) w (us++yn js ρ) O1 λy O2=>O2=O1/\y=(F w).map .d)/\∀p,O1 p=none->R (.own p) (updO O1 p (.lst ((ws.filterMap F).map .d)))
theorem zf4{wi:TI}{Wi:TIW}{js:List Nat}{g:TG}{G:TGW}{tt:TT}{T:TTW}{te:TE}{E:TEW}(hi:vp K wi Wi)(hg:RefG K g G)(ht:xu K tt T)(he:RefE K te E):RefE K (zdl wi n js g tt te) (zij Wi n js G T E):=by
 intro Γ O H ρ σ S r Q R hT k;refine hi _ _ _ _ _ S r _ _ hT λΓ1 O1 H1 J ws keep l1 S1 ok h1=>?_;obtain⟨hk,hlen,F,hF,hR⟩:=h1;intro D hD;have hFD:Γ1.F D=none:=S1.f.free hD;have hOD:=(S1.free hD).2.1;have r1:=qp (r.mono l1) n js;refine⟨fun i m σ' H'=>i<=ws.length/\m=ws.length - i/\∃ Γ' ρ' vs,Same Γ1.Z Γ'.Z/\(∀ a rs,Γ1.G a=some rs->∃ more,Γ'.G a=some (rs ++ more))/\Γ'.F=upd Γ1.F D (.lst vs)/\Sim K Γ' O1 H'/\relR K Γ' ρ' σ'/\
  ρ'.length=n+(yn js ρ).length/\ρ'.drop n=yn js ρ/\Reps K Γ'.Z ((ws.take i).filterMap F) vs,⟨_,Nat.zero_le _,rfl,_,_,[],Same.refl _,λa rs h=>⟨[],by rw[List.append_nil];exact h⟩,rfl,S1.frameNew hD (.lst []),r1.setF,by simp,by simp,rfl⟩,?_⟩
 rintro i m σ' H' ⟨hi,rfl,Γ',ρ',vs,z',g',f',S',r',n1,n2,rp⟩;obtain⟨ok1,ok2⟩:=ok i Γ' O1 H' z' g' S' hk;have hvl:vs.length<=i:=by
  rw[<-Reps.length rp];exact Nat.le_trans (List.length_filterMap_le _ _) (by rw[List.length_take];omega)
 by_cases hlt:i<ws.length
 .obtain⟨go,y⟩:=ok1 _ (List.getElem?_eq_getElem hlt)
  refine .inr ⟨go,fun σ2 H2=>∃ Γ2 ρ2 vs2,Same Γ1.Z Γ2.Z/\(∀ a rs,Γ1.G a=some rs->∃ more,Γ2.G a=some (rs ++ more))/\Γ2.F=upd Γ1.F D (.lst vs2)/\Sim K Γ2 O1 H2/\relR K Γ2 ρ2 σ2/\
   ρ2.length=n+(yn js ρ).length/\ρ2.drop n=yn js ρ/\Reps K Γ2.Z ((ws.take (i+1)).filterMap F) vs2,λσ2 H2 h=>⟨ws.length-(i+1),by omega,hlt,rfl,h⟩,λx H2 hy=>?_⟩
  obtain⟨Γ2,l2,S2,rx⟩:=y x H2 hy;obtain⟨us,hus,rfl⟩:=jz n1 n2;have et:ws.take (i+1)=ws.take i++[ws[i]]:=(List.take_append_getElem hlt).symm;refine hg _ _ _ _ _ _ _ S2 (r'.mono l2) rx _ _ (hF _ (List.getElem_mem hlt) us hus) λΓ3 O3 H3 ρ3 σ3 l3 S3 r3 h3=>?_;obtain⟨⟨m1,m2⟩,h3⟩:=h3;refine ht _ _ _ _ _ S3 r3 _ _ h3 λΓ4 O4 H4 b l4 S4 h4=>?_;have l24:=(l2.trans l3).trans l4;have up:∀ Γ5,Le Γ' Γ5->Same Γ1.Z Γ5.Z/\(∀ a rs,Γ1.G a=some rs->∃ more,Γ5.G a=some (rs ++ more)):=fun Γ5 l=>⟨z'.trans l.z,fun a rs h=>by
   obtain⟨m,e⟩:=g' a rs h;obtain⟨m2,e2⟩:=l.g a _ e;exact⟨m++m2,by rw[<-List.append_assoc];exact e2⟩⟩
  cases b with
  |true=>
   rw[if_pos rfl]at h4 ⊢;refine he _ _ _ _ _ S4 (r3.mono l4) _ _ h4 λΓ5 O5 H5 w5 v5 l5 S5 r5 h5=>?_;obtain⟨rfl,h5⟩:=h5;have l25:=l24.trans l5;cases hFw:F ws[i]with
   |none=>rw[hFw]at h5;cases h5
   |some d=>
    rw[hFw]at h5;cases h5;have f5:Γ5.F=upd Γ1.F D (.lst vs):=by rw[l25.f,f']
    have fD:Γ5.F D=some (.lst vs):=by rw[f5,zX]
    refine⟨vs,S5.f _ _ fD,xH (by omega),?_⟩;obtain⟨u1,u2⟩:=up Γ5 l25;refine⟨⟨Γ5.Z,Γ5.G,upd Γ5.F D (.lst (vs++[v5]))⟩,ρ3,vs++[v5],u1,u2,?_,S5.framePut fD _,((r3.mono l4).mono l5).setF,m1,m2,?_⟩
    .show upd Γ5.F D _=_
     rw[f5,YV]
    .rw[et,List.filterMap_append]
     have:([ws[i]]:List W).filterMap F=[d]:=by simp[hFw]
     rw[this];exact Reps.snoc (Reps.same l25.z _ _ rp) r5
  |false=>
   rw[if_neg (by decide)]at h4 ⊢;obtain⟨rfl,h4⟩:=h4;obtain⟨u1,u2⟩:=up Γ4 l24;refine⟨Γ4,ρ3,vs,u1,u2,by rw[l24.f,f'],S4,r3.mono l4,m1,m2,?_⟩;cases hFw:F ws[i]with
   |some d=>rw[hFw]at h4;cases h4
   |none=>
    rw[et,List.filterMap_append];have:([ws[i]]:List W).filterMap F=[]:=by simp[hFw]
    rw[this,List.append_nil];exact Reps.same l24.z _ _ rp
 .have hi2:i=ws.length:=by omega
  subst hi2;refine .inl ⟨ok2 rfl,?_⟩;rw[List.take_length]at rp;obtain⟨q1,q2⟩:=S'.unframeO f' hFD rp;exact k ⟨Γ'.Z,Γ'.G,Γ1.F⟩ _ _ _ _ (l1.trans ⟨rfl,z',g'⟩) q2 xy (hR D hOD)
noncomputable def zik(Wi:TIW)(n:Nat)(js:List Nat)(G:TGW)(T:TTW)(E:TEW):TEW:=λρ O R=>Wi ρ O λws keep O1=>keep O1/\ws.length<=1000/\∃F:W->List PyData,
 (∀w∈ws,∀us:WS,us.length=n->Zo G T E n (yn js ρ) w (us++yn js ρ) O1 λy O2=>∃b,O1 b=none/\y=some (.own b)/\O2=updO O1 b (.lst ((F w).map .d)))/\∀p,O1 p=none->R (.own p) (updO O1 p (.grid (ws.map F)))
theorem zf5{wi:TI}{Wi:TIW}{js:List Nat}{g:TG}{G:TGW}{tt:TT}{T:TTW}{te:TE}{E:TEW}(hi:vp K wi Wi)(hg:RefG K g G)(ht:xu K tt T)(he:RefE K te E):RefE K (zig wi n js g tt te) (zik Wi n js G T E):=by
  intro Γ O H ρ σ S r Q R hT k;refine hi _ _ _ _ _ S r _ _ hT λΓ1 O1 H1 J ws keep l1 S1 ok h1=>?_;obtain⟨hk,hlen,F,hF,hR⟩:=h1;intro D hD;have hFD:Γ1.F D=none:=S1.f.free hD;have hOD:=(S1.free hD).2.1;have r1:=qp (r.mono l1) n js;refine⟨fun i m σ' H'=>i<=ws.length/\m=ws.length - i/\∃ Γ' ρ',∃ rs:List Addr,Same Γ1.Z Γ'.Z/\(∀ a rs,Γ1.G a=some rs->∃ more,Γ'.G a=some (rs ++ more))/\Sim K Γ' O1 H'/\relR K Γ' ρ' σ'/\
    (ρ'.length=n+(yn js ρ).length/\ρ'.drop n=yn js ρ)/\Γ'.F D=some (.lst (rs.map V.ref))/\rs.Nodup/\D∉rs/\rs.length=i/\
    (∀(j:Nat) (q:Addr),rs[j]? =some q->Γ1.F q=none/\∃vs w,Γ'.F q=some (.lst vs)/\ws[j]? =some w/\Reps K Γ'.Z (F w) vs)/\∀x,x≠D->x∉rs->Γ'.F x=Γ1.F x,
    ⟨_,Nat.zero_le _,rfl,⟨Γ1.Z,Γ1.G,upd Γ1.F D (.lst [])⟩,_,[],Same.refl _,λa rs h=>⟨[],by rw[List.append_nil];exact h⟩,S1.frameNew hD (.lst []),r1.setF,⟨by simp,by simp⟩,zX,.nil,by simp,rfl,by simp,λx hx _=>zv hx⟩,?_⟩
  rintro i m σ' H' ⟨hi,rfl,Γ',ρ',rs,z',g',S',r',⟨n1,n2⟩,fD,nd,nD,hl,hrow,hrest⟩;obtain⟨ok1,ok2⟩:=ok i Γ' O1 H' z' g' S' hk;by_cases hlt:i<ws.length
  · obtain⟨go,y⟩:=ok1 _ (List.getElem?_eq_getElem hlt)
    refine .inr ⟨go,fun σ' H'=>∃ Γ' ρ',∃ rs:List Addr,Same Γ1.Z Γ'.Z/\(∀ a rs,Γ1.G a=some rs->∃ more,Γ'.G a=some (rs ++ more))/\Sim K Γ' O1 H'/\relR K Γ' ρ' σ'/\
      (ρ'.length=n+(yn js ρ).length/\ρ'.drop n=yn js ρ)/\Γ'.F D=some (.lst (rs.map V.ref))/\rs.Nodup/\D∉rs/\rs.length=i+1/\
      (∀(j:Nat) (q:Addr),rs[j]? =some q->Γ1.F q=none/\∃vs w,Γ'.F q=some (.lst vs)/\ws[j]? =some w/\Reps K Γ'.Z (F w) vs)/\∀x,x≠D->x∉rs->Γ'.F x=Γ1.F x,λσ2 H2 h=>⟨ws.length-(i+1),by omega,hlt,rfl,h⟩,λx H2 hy=>?_⟩
    obtain⟨Γ2,l2,S2,rx⟩:=y x H2 hy;obtain⟨us,hus,rfl⟩:=jz n1 n2;refine hg _ _ _ _ _ _ _ S2 (r'.mono l2) rx _ _ (hF _ (List.getElem_mem hlt) us hus) λΓ3 O3 H3 ρ3 σ3 l3 S3 r3 h3=>?_;obtain⟨⟨m1,m2⟩,h3⟩:=h3;refine ht _ _ _ _ _ S3 r3 _ _ h3 λΓ4 O4 H4 b l4 S4 h4=>?_;have l24:=(l2.trans l3).trans l4;cases b with
    |false=>
      rw[if_neg (by decide)]at h4;obtain⟨_,_,h,_⟩:=h4;cases h
    |true=>
      rw[if_pos rfl]at h4 ⊢;refine he _ _ _ _ _ S4 (r3.mono l4) _ _ h4 λΓ5 O5 H5 w5 v5 l5 S5 r5 h5=>?_;obtain⟨b,hb0,hw,rfl⟩:=h5;cases hw;cases(show v5=.ref b from r5);have l25:=l24.trans l5;have f5:Γ5.F=Γ'.F:=l25.f;have hOb:updO O1 b (.lst ((F ws[i]).map .d)) b=some (.lst ((F ws[i]).map .d)):=zf;have Fb:Γ5.F b=none:=by
        cases e:Γ5.F b with
        |none=>rfl
        |some o=>have:=(S5.fd _ _ e).2.1;rw[hOb]at this;cases this
      have bD:b≠D:=λe=>by rw[e,f5,fD]at Fb;cases Fb
      have brs:b∉rs:=λm=>by
        obtain⟨j,hj,e⟩:=List.mem_iff_getElem.mp m;obtain⟨_,vs,w,q,_⟩:=hrow j b (by rw[List.getElem?_eq_getElem hj,e]);rw[f5,q]at Fb;cases Fb
      have F1b:Γ1.F b=none:=by rw[<-hrest b bD brs,<-f5];exact Fb
      obtain⟨vb,hb1,hb2,S6⟩:=S5.frameOwn hOb;have hdel:del (updO O1 b (.lst ((F ws[i]).map .d))) b=O1:=by
        funext c
        by_cases hc:c=b
        · rw[hc,xt,hb0]
        · rw[vj hc,ze hc]
      rw[hdel]at S6;have F6D:(⟨Γ5.Z,Γ5.G,upd Γ5.F b (.lst vb)⟩:Gh).F D=some (.lst (rs.map V.ref)):=by
        show upd Γ5.F b _ D=_;rw[zv (Ne.symm bD),f5];exact fD
      have S7:=S6.framePut F6D (.lst (rs.map V.ref++[.ref b]));refine⟨rs.map V.ref,S6.f _ _ F6D,xH (by rw[List.length_map];omega),?_⟩;refine⟨⟨Γ5.Z,Γ5.G,upd (upd Γ5.F b (.lst vb)) D (.lst (rs.map V.ref++[.ref b]))⟩,ρ3,rs++[b],z'.trans l25.z,λa ss h=>?_,S7,(((r3.mono l4).mono l5).setF).setF,⟨m1,m2⟩,?_,?_,?_,by simp[hl],λj q e=>?_,λx hx hxr=>?_⟩
      · obtain⟨m,e⟩:=g' a ss h
        obtain⟨m2,e2⟩:=l25.g a _ e;exact⟨m++m2,by rw[<-List.append_assoc];exact e2⟩
      · rw[List.map_append];exact zX
      · rw[List.nodup_append]
        exact⟨nd,by simp,λu hu v hv=>by simp at hv;subst hv;exact λz=>brs (by rw[<-z];exact hu)⟩
      · simp[nD];exact λe=>bD e.symm
      · by_cases hj:j<rs.length
        · rw[List.getElem?_append_left hj]at e
          obtain⟨q1,vs,w,q2,q3,q4⟩:=hrow j q e;have hqb:q≠b:=λz=>brs (by rw[<-z];exact List.mem_of_getElem? e);have hqD:q≠D:=λz=>nD (by rw[<-z];exact List.mem_of_getElem? e);refine⟨q1,vs,w,?_,q3,Reps.same l25.z _ _ q4⟩;show upd (upd Γ5.F b _) D _ q=_;rw[zv hqD,zv hqb,f5];exact q2
        · have hj2:j=rs.length:=by
            have:=(List.getElem?_eq_some_iff.mp e).1;simp at this;omega
          subst hj2;rw[List.getElem?_append_right (Nat.le_refl _)]at e;simp at e;subst e;refine⟨F1b,vb,ws[i],?_,by rw[hl];exact List.getElem?_eq_getElem hlt,ya (Γ:=Γ5) hb2⟩;show upd (upd Γ5.F b _) D _ b=_;rw[zv bD,zX]
      · have hxb:x≠b:=λz=>hxr (by rw[z];simp)
        show upd (upd Γ5.F b _) D _ x=_;rw[zv hx,zv hxb,f5];exact hrest x hx λm=>hxr (by simp[m])
  · have hi2:i=ws.length:=by omega
    refine .inl ⟨ok2 hi2,?_⟩;obtain⟨q1,G',q2,q3⟩:=S'.gridify (F:=Γ1.F) (rows:=ws.map F) hFD fD nd nD (by rw [List.length_map];omega) (fun j q ds e1 e2=>by
      obtain⟨y1,vs,w,y2,y3,y4⟩:=hrow j q e1;rw[List.getElem?_map,y3]at e2;cases e2;exact⟨y1,vs,y2,y4⟩) hrest
    exact k ⟨Γ'.Z,G',Γ1.F⟩ _ _ _ _ (l1.trans ⟨rfl,z',λa ss h=>by obtain⟨m,e⟩:=g' a ss h;exact⟨m,q2 _ _ e⟩⟩) q3 xy (hR D hOD)
theorem zf6{f:Str}(hK:X.K=K)(he:PE X e ta)(hb:attributeBase e f X.env (eval e X.env)=eval e X.env):PE X (.Attribute e f pos) (J8 K ta f):=by
 subst hK;exact zhs he hb
theorem zf7{o value:Expr}{tv:TE}{f:Str}{pos':Pos}(hK:X.K=K)(ha:PE X o ta)(hv:PE X value tv)(hs:swapsWith value (some (.Attribute o f pos')) pos.line X.env=pure false):PS X (.Assign [.Attribute o f pos'] value pos) (J9 K ta tv f):=by
 subst hK;exact zht ha hv hs
theorem z7(hK:X.K=K):IxR X (zcE K):=by subst hK;exact zhz
theorem xv{l:Expr}{tl:TE}(hK:X.K=K)(hl:PE X l tl):PI X tg l (J1 K tl):=by subst hK;exact zfj hl
theorem uN{l:Expr}{tl:TE}(hK:X.K=K)(hl:PE X l tl):PI X tg l (zct K tl):=by subst hK;exact zhn hl
theorem zdm{k:Nat}{tp:Pos}{l:Expr}{ta:TA}{p:Pos}(hK:X.K=K)(hg:Gl X "enumerate")(hm:X.mg "enumerate" =none)(ha:PA X [l] ta)(hs:starEach [l] X.env=[(false,eval l X.env)]:=by rfl) :
  PI X (.Tuple es k tp) (.Call (.Name "enumerate" p) [l] [] pos) (Kj K ta):=by subst hK;exact zfC hg hm ha hs
theorem uO{k:Nat}{t:TGs}(hK:X.K=K)(hc:X.calm=true)(h:PGs X es t)
  (hn:(assignEach es X.env).length=n:=by rfl)(hst:(assignEach es X.env).findIdx? (·.1)=none:=by rfl):PG X (.Tuple es k pos) (zcs K n t):=by subst hK;exact zhk hc h hn hst
section
variable {T:String}{name:Str}{id:String}{r:V->List V->Hp->VK->Prop}{o:Expr}{to:TE}{apos cpos:Pos}
theorem JE(hK:X.K=K)(pa:PlainAttrs T)(slot:Slot T name id)(hty:typeOf (.builtin id)=pure (.type "method_descriptor"))(hm:MtR X id r)(ho:PE X o to)
  (hbase:attributeBase o name X.env (eval o X.env)=eval o X.env:=by rfl)(hline:(apos.endLine==cpos.line)=true:=by rfl):PE X (.Call (.Attribute o name apos) [] [] cpos) (zcG K T r to):=by subst hK;exact zhB pa slot hty hm ho hbase hline
theorem y8(hK:X.K=K)(pa:PlainAttrs T)(slot:Slot T name id)(hty:typeOf (.builtin id)=pure (.type "method_descriptor"))(hm:MtR X id r)(ho:PE X o to)(ha:PA X (e::es) t)
  (hbase:attributeBase o name X.env (eval o X.env)=eval o X.env:=by rfl)
  (hfew:((backTo cpos (starEach (e::es) X.env)).all (λx=>!x.1)&&(backToKw cpos (keywordEach [] X.env)).all (λx=>x.1.isSome)&&decide ((e::es).length+([]:List Keyword).length+(if([]:List Keyword).isEmpty then 0 else 1)<30))=true:=by rfl)
  (hline:(apos.endLine==cpos.line)=true:=by rfl)(hs:starEach (e::es) X.env=(false,eval e X.env)::starEach es X.env:=by rfl)(hplain:(backTo cpos (starEach es X.env)).any (·.1)=false:=by rfl) :
  PE X (.Call (.Attribute o name apos) (e::es) [] cpos) (tBM K T r to t):=by subst hK;exact zjP pa slot hty hm ho ha hbase hfew hline hs hplain
end
noncomputable def zeM(K:W.Frag):List V->Hp->VK->Prop:=λxs H Q=>∃p ys,xs=[.ref p]/\(SqL K H p ys\/SqT K H p ys)/\Q (.int ys.length) H
theorem je(hK:X.K=K):yv X (.builtin "len") (zeM K):=by subst hK;exact V0
theorem zil:RefC K (zeM K) Ks:=zj4
noncomputable def zeN(K:W.Frag):List V->Hp->VK->Prop:=λxs H Q=>∃p ys,xs=[.ref p]/\((SqL K H p ys/\∀l,H l=none->Q (.ref l) (upd H l (.tup ys)))\/(SqT K H p ys/\Q (.ref p) H))
theorem ko(hK:X.K=K):yv X (.type "tuple") (zeN K):=by subst hK;exact Vb
theorem zim:RefC K (zeN K) Uj:=zfU
noncomputable def zeO(K:W.Frag)(ta:TE):TT:=λσ H Q=>ta σ H λx H'=>∃k,VR K x H' k/\Q k H'
theorem xJ{a:Expr}(hK:X.K=K)(ha:PE X a ta)(he:∀whole,isTrue a X.env whole=(do let v<-whole;standAt a.pos;holding [v] (truthy v))):PT X a (zeO K ta):=by
 subst hK;exact zcw ha he
theorem zdn{t:TE}{T:TEW}(h:RefE K t T):xu K (zeO K t) (zc2 T):=zfO h
theorem Yp(hK:X.K=K)(hu:X.A.units+64<cLine):OpR X (compareOp .Eq) (zcL K):=by subst hK;exact zhI hu
theorem Ur(hK:X.K=K)(hu:X.A.units+64<cLine):OpR X (compareOp .NotEq) (zcM K):=by subst hK;exact zhJ hu
theorem zin(hK:X.K=K):SlR X (zcD K):=by subst hK;exact zhx
theorem zf8:xu K zhF (λ_ O R=>R true O):=λΓ O H ρ σ S r Q R hT k=>k _ _ _ _ (Le.refl _) S hT
noncomputable def wCR(a:Addr):TEW:=λ_ O R=>R (.own a) O
theorem zio:RefE K (tC (.ref a)) (wCR a):=λΓ O H ρ σ S r Q R h k=>k _ _ _ _ _ (Le.refl _) S xy h
noncomputable def zeP(K:W.Frag)(To:TEW)(T:TAW):TEW:=λρ O R=>To ρ O λx O1=>∃a D,x=.own a/\DK K a D/\T ρ O1 λws O2=>∃i d,ws=[.d (.int i),.d (.int d)]/\R (.d (.int ((xE D i).getD d))) O2
theorem zdo{to:TE}{To:TEW}{T:TAW}(ho:RefE K to To)(h:xf K t T):RefE K (Kq K to t) (zeP K To T):=by
 intro Γ O H ρ σ S r Q R hT k;refine ho _ _ _ _ _ S r _ _ hT λΓ1 O1 H1 x v l1 S1 rx h1=>?_;obtain⟨a,D,rfl,hd,h1⟩:=h1;refine⟨a,D,rx,hd,h _ _ _ _ _ S1 (r.mono l1) _ _ h1 λΓ2 O2 H2 ws vs l2 S2 rs h2=>?_⟩;obtain⟨i,d,rfl,h2⟩:=h2;cases rs with
 |cons rx t=>cases t with
  |cons ry t=>
   cases t;exact⟨i,d,by rw[show _=V.int i from rx,show _=V.int d from ry],k _ _ _ _ _ (l1.trans l2) S2 xl h2⟩
theorem Us{o:Expr}{to:TE}{apos cpos:Pos}(hK:X.K=K)(ho:PE X o to)(ha:PA X (e::es) t)
  (hbase:attributeBase o "get" X.env (eval o X.env)=eval o X.env:=by rfl)
  (hfew:((backTo cpos (starEach (e::es) X.env)).all (λx=>!x.1)&&(backToKw cpos (keywordEach [] X.env)).all (λx=>x.1.isSome)&&decide ((e::es).length+([]:List Keyword).length+(if([]:List Keyword).isEmpty then 0 else 1)<30))=true:=by rfl)
  (hline:(apos.endLine==cpos.line)=true:=by rfl)(hs:starEach (e::es) X.env=(false,eval e X.env)::starEach es X.env:=by rfl)(hplain:(backTo cpos (starEach es X.env)).any (·.1)=false:=by rfl) :
  PE X (.Call (.Attribute o "get" apos) (e::es) [] cpos) (Kq K to t):=by subst hK;exact zfF ho ha hbase hfew hline hs hplain
noncomputable def ziq(Te:TEW)(Tl Th:TOW):TEW:=λρ O R=>Te ρ O λx O1=>Tl ρ O1 λl O2=>Th ρ O2 λu O3=>∃ds,yS x=some ds/\¬(HT.sIx ds.length 0 l= 0/\HT.sIx ds.length ds.length u=ds.length)/\R (.d (.tuple (x4 ds l u))) O3
theorem zf9{te:TE}{tl th:TO}{Te:TEW}{Tl Th:TOW}(he:RefE K te Te)(hl:kn K tl Tl)(hh:kn K th Th):RefE K (tSl (zcD K) te tl th) (ziq Te Tl Th):=by
 intro Γ O H ρ σ S r Q R hT k;refine he _ _ _ _ _ S r _ _ hT λΓ1 O1 H1 x v l1 S1 rx h1=>?_;refine hl _ _ _ _ _ S1 (r.mono l1) _ _ h1 λΓ2 O2 H2 l l2 S2 h2=>?_;refine hh _ _ _ _ _ S2 (r.mono (l1.trans l2)) _ _ h2 λΓ3 O3 H3 u l3 S3 h3=>?_;obtain⟨ds,e1,hw,h3⟩:=h3;obtain⟨a,vs,rfl,q1,q2⟩:=vd S3 ((rx.mono l2).mono l3) e1;have q3:=ya q2;refine⟨a,vs,rfl,q1,by rw[<-Reps.length q3];exact hw,λp hp=>?_⟩;obtain⟨Γ',l',S',r'⟩:=kh S3 (Uo q3 l u) hp;exact k _ _ _ _ _ (((l1.trans l2).trans l3).trans l') S' r' h3
theorem zbh{s:SpW}{T:TAW}(h:xf K t T):RefE K (Zg (zb K s) [] E0 t) (jy s [] T):=Ui h
theorem zbi{s:SpW}{i:Int}{T:TAW}(h:xf K t T):RefE K (Zg (zb K s) [.int i] E0 t) (jy s [.int i] T):=Ui h
theorem ye{T U:TSW}{D:EndsW}{ρ:WS}{O:OM}(J:WS->OM->Prop)(ht:∀R:WS->OM->Prop,(∀ρ' O',J ρ' O'->R ρ' O')->T { D with nx:=R } ρ O)(hu:∀ρ' O',J ρ' O'->U D ρ' O'):xg T U D ρ O:=ht (U D) hu
theorem yU.by{ws:List W}{keep:OM->Prop}{G:TGW}{TB:TSW}{D:EndsW}{ρ:WS}{O:OM}(Pv:Nat->WS->OM->Prop)(h0:Pv 0 ρ O)(hk:∀i ρ O,Pv i ρ O->keep O)
  (hs:∀i w ρ O,ws[i]? =some w->Pv i ρ O->∀R:WS->OM->Prop,(∀ρ' O',Pv (i+1) ρ' O'->R ρ' O')->G w ρ O λρ' O'=>TB { D with nx:=R,ct:=R,bk:=D.nx } ρ' O')(hd:∀ρ O,Pv ws.length ρ O->D.nx ρ O):yU ws keep G TB D ρ O:=
 ⟨Pv,h0,hk,λi w ρ O e p=>hs i w ρ O e p _ λ_ _ z=>z,hd⟩
theorem yU.rng{f:Nat->Int}{G:TGW}{TB:TSW}{D:EndsW}{ρ:WS}{O:OM}(Pv:Nat->WS->OM->Prop)(h0:Pv 0 ρ O)
    (hs:∀i ρ O,i<n->Pv i ρ O->∀R:WS->OM->Prop,(∀ρ' O',Pv (i+1) ρ' O'->R ρ' O')->G (.d (.int (f i))) ρ O λρ' O'=>TB { D with nx:=R,ct:=R,bk:=D.nx } ρ' O')(hd:∀ρ O,Pv n ρ O->D.nx ρ O):yU ((List.range n).map λi=>.d (.int (f i))) (λ_=>True) G TB D ρ O:=
  yU.by Pv h0 (fun _ _ _ _=>trivial) (fun i w ρ O e p R hR=>by
    rw[List.getElem?_map]at e;cases hr:(List.range n)[i]? with
    |none=>rw[hr]at e;cases e
    |some j=>
      rw[hr]at e;cases e;obtain⟨hi,hj⟩:=List.getElem?_eq_some_iff.mp hr;simp at hi hj;subst hj;exact hs i ρ O hi p R hR) (λρ O p=>hd ρ O (by simpa using p))
noncomputable abbrev PF:=Nat->Nat->Cel
noncomputable def genG(h w:Nat)(f:PF):List (List PyData):=(List.range h).map λi=>(List.range w).map λj=>celD (f i j)
theorem Ut{h w:Nat}{f:PF}(hi:i<h):(genG h w f)[i]? =some ((List.range w).map λj=>celD (f i j)):=by
 unfold genG;rw[List.getElem?_map,List.getElem?_range hi];rfl
theorem uY{h w:Nat}{f:PF}:(genG h w f).length=h:=by simp[genG]
noncomputable def setF(f:PF)(i j:Nat)(c:Cel):PF:=λa b=>if a=i/\b=j then c else f a b
theorem XV{α:Type}{f:Nat->α}{x:α}:((List.range n).map f).set i x=(List.range n).map λk=>if k=i then x else f k:=by
 apply List.ext_getElem?;intro k;rw[List.getElem?_set];by_cases hk:k<n
 .simp[hk]
  by_cases e:i=k
  .subst e;simp[hk]
  .simp[e,Ne.symm e]
 .simp[hk]
  omega
theorem zdp{h w:Nat}{f:PF}{j:Nat}{c:Cel}(hi:i<h):(genG h w f).set i (((List.range w).map λj=>celD (f i j)).set j (celD c))=genG h w (setF f i j c):=by
 unfold genG;rw[XV,XV];refine List.map_congr_left λa ha=>?_;by_cases e:a=i
 .subst e
  simp only[if_true,setF,true_and];refine List.map_congr_left λb hb=>?_;by_cases eb:b=j<;>simp[eb]
 .simp[e,setF]
theorem ud{O:OM}{rows:List (List PyData)}(h:O p=some (.grid rows)):yc O (.own p)=some ((List.range rows.length).map (.row p)):=by simp[yc,h]
theorem Uu{O:OM}{h w:Nat}{f:PF}(hp:O p=some (.grid (genG h w f)))(hi:i<h):yc O (.row p i)=some ((List.range w).map λj=>.d (celD (f i j))):=by
 simp[yc,hp,Ut hi]
theorem ve{α:Type}{f:Nat->α}{i:Int}(h0:0<=i)(h1:i<n):atI ((List.range n).map f) i=some (f i.toNat):=by
 obtain⟨k,rfl⟩:=Int.eq_ofNat_of_zero_le h0;refine uM ?_;rw[List.getElem?_map,List.getElem?_range (by omega)];rfl
theorem jA{O:OM}{h w:Nat}{f:PF}{k:Int}{c:Cel}(hp:O p=some (.grid (genG h w f)))(hi:i<h)(h0:0<=k)(h1:k<w):ki O (.row p i) k (.d (celD c))=some (updO O p (.grid (genG h w (setF f i k.toNat c)))):=by
 have hx:ixN ((List.range w).map λj=>celD (f i j)).length k=some k.toNat:=by
  unfold ixN;rw[if_pos h0,if_pos (by simp;exact h1)]
 simp only[ki,hp,Ut hi,hx,Option.map_some,zdp hi]
theorem xm:OpR X (binaryOp .Mult) (rI IntMulOk λi j=>.int (i*j)):=opI λ_ _ _ _ _ _ _ hc q=>mul_int q hc
theorem mulL{a b:Int}(h1:-1000000000000<=a)(h2:a<=1000000000000):IntMulOk a b:=(zfv h1 h2).ok
theorem mulR{a b:Int}(h1:-1000000000000<=b)(h2:b<=1000000000000):IntMulOk a b:=(zcN h1 h2).ok
noncomputable def Bt(m:Nat)(c:Int):Prop:=c.natAbs<2 ^ m
structure KP where
 row:Int
 col:Int
 late:Bool
 ink:Int
 wrap:Bool
 putting:Bool
 home:Bool
noncomputable def kpT(k:KP):PyData:=.tuple [.int k.row,.int k.col,.bool k.late,.int k.ink,.bool k.wrap,.bool k.putting,.bool k.home]
noncomputable def stK(ks:List Int):List (Key×W):=ks.map λi=>(Sum.inl i,W.d (.bool true))
structure ST where
 w:Nat
 h:Nat
 row:Int
 col:Int
 late:Bool
 ink:Int
 wrap:Bool
 putting:Bool
 home:Bool
 top:Int
 bottom:Int
 left:Int
 right:Int
 last:PyData
 pic:PF
 stops:List Int
 kept:List KP
noncomputable def fldW(p st kp:Addr)(S:ST):List (Str×W):=[("picture",.own p),("wide",.d (.int S.w)),("high",.d (.int S.h)),("row",.d (.int S.row)),("column",.d (.int S.col)),("late",.d (.bool S.late)),("ink",.d (.int S.ink)),("wrap",.d (.bool S.wrap)),("putting",.d (.bool S.putting)),("home",.d (.bool S.home)),("top",.d (.int S.top)),("bottom",.d (.int S.bottom)),("left",.d (.int S.left)),("right",.d (.int S.right)),("stops",.own st),("kept",.own kp),("last",.d S.last)]
noncomputable def ownW(q:Addr)(S:ST):List (Key×W):=[(Sum.inr "wide",.d (.int S.w)),(Sum.inr "high",.d (.int S.h)),(Sum.inr "top",.d (.int S.top)),(Sum.inr "left",.d (.int S.left)),(Sum.inr "cells",.own q),(Sum.inr "bottom",.d (.int S.bottom)),(Sum.inr "right",.d (.int S.right)),(Sum.inr "home",.d (.bool S.home)),(Sum.inr "putting",.d (.bool S.putting)),(Sum.inr "wrap",.d (.bool S.wrap)),(Sum.inr "last",.d S.last),(Sum.inr "late",.d (.bool S.late)),(Sum.inr "ink",.d (.int S.ink)),(Sum.inr "row",.d (.int S.row)),(Sum.inr "column",.d (.int S.col))]
section
variable {st kp q:Addr}{S:ST}
theorem zW:(fldW p st kp S).length= 17:=rfl
theorem zdq:(ownW q S).length= 15:=rfl
theorem zh:(fldW p st kp S).lookup (Str.ofString "picture")=some (W.own p):=rfl
theorem zA:(fldW p st kp S).lookup (Str.ofString "wide")=some (W.d (.int S.w)):=rfl
theorem zB:(fldW p st kp S).lookup (Str.ofString "high")=some (W.d (.int S.h)):=rfl
theorem zQ:(fldW p st kp S).lookup (Str.ofString "row")=some (W.d (.int S.row)):=rfl
theorem zm:(fldW p st kp S).lookup (Str.ofString "column")=some (W.d (.int S.col)):=rfl
theorem zC:(fldW p st kp S).lookup (Str.ofString "late")=some (W.d (.bool S.late)):=rfl
theorem zN:(fldW p st kp S).lookup (Str.ofString "ink")=some (W.d (.int S.ink)):=rfl
theorem zD:(fldW p st kp S).lookup (Str.ofString "wrap")=some (W.d (.bool S.wrap)):=rfl
theorem zi:(fldW p st kp S).lookup (Str.ofString "putting")=some (W.d (.bool S.putting)):=rfl
theorem zE:(fldW p st kp S).lookup (Str.ofString "home")=some (W.d (.bool S.home)):=rfl
theorem zR:(fldW p st kp S).lookup (Str.ofString "top")=some (W.d (.int S.top)):=rfl
theorem zn:(fldW p st kp S).lookup (Str.ofString "bottom")=some (W.d (.int S.bottom)):=rfl
theorem zF:(fldW p st kp S).lookup (Str.ofString "left")=some (W.d (.int S.left)):=rfl
theorem zr:(fldW p st kp S).lookup (Str.ofString "right")=some (W.d (.int S.right)):=rfl
theorem zp:(fldW p st kp S).lookup (Str.ofString "stops")=some (W.own st):=rfl
theorem zw:(fldW p st kp S).lookup (Str.ofString "kept")=some (W.own kp):=rfl
theorem zG:(fldW p st kp S).lookup (Str.ofString "last")=some (W.d S.last):=rfl
theorem zO{x:Int}:yo (Str.ofString "row") (.d (.int x)) (fldW p st kp S)=fldW p st kp { S with row:=x }:=rfl
theorem zl{x:Int}:yo (Str.ofString "column") (.d (.int x)) (fldW p st kp S)=fldW p st kp { S with col:=x }:=rfl
theorem zx{x:Bool}:yo (Str.ofString "late") (.d (.bool x)) (fldW p st kp S)=fldW p st kp { S with late:=x }:=rfl
theorem zP{x:Int}:yo (Str.ofString "ink") (.d (.int x)) (fldW p st kp S)=fldW p st kp { S with ink:=x }:=rfl
theorem zy{x:Bool}:yo (Str.ofString "wrap") (.d (.bool x)) (fldW p st kp S)=fldW p st kp { S with wrap:=x }:=rfl
theorem zg{x:Bool}:yo (Str.ofString "putting") (.d (.bool x)) (fldW p st kp S)=fldW p st kp { S with putting:=x }:=rfl
theorem zH{x:Bool}:yo (Str.ofString "home") (.d (.bool x)) (fldW p st kp S)=fldW p st kp { S with home:=x }:=rfl
theorem zS{x:Int}:yo (Str.ofString "top") (.d (.int x)) (fldW p st kp S)=fldW p st kp { S with top:=x }:=rfl
theorem zo{x:Int}:yo (Str.ofString "bottom") (.d (.int x)) (fldW p st kp S)=fldW p st kp { S with bottom:=x }:=rfl
theorem zI{x:Int}:yo (Str.ofString "left") (.d (.int x)) (fldW p st kp S)=fldW p st kp { S with left:=x }:=rfl
theorem zt{x:Int}:yo (Str.ofString "right") (.d (.int x)) (fldW p st kp S)=fldW p st kp { S with right:=x }:=rfl
theorem zK{x:PyData}:yo (Str.ofString "last") (.d x) (fldW p st kp S)=fldW p st kp { S with last:=x }:=rfl
end
structure StAt (O:OM) (C x dx p st kp:Addr) (S:ST):Prop where
 x:O x=some (.ins C dx (fldW p st kp S))
 p:O p=some (.grid (genG S.h S.w S.pic))
 st:O st=some (.dK (stK S.stops))
 kp:O kp=some (.lst ((S.kept.map kpT).map .d))
theorem neW{O:OM}{o u:OO}(h:O a=some o)(h':O b=some u)(d:o≠u):a≠b:=by
 intro e;subst e;rw[h]at h';exact d (Option.some.inj h')
section
variable {O O':OM}{x st kp:Addr}{S:ST}
theorem StAt.xp(s:StAt O C x dx p st kp S):x≠p:=neW s.x s.p (by intro h;cases h)
theorem StAt.xs(s:StAt O C x dx p st kp S):x≠st:=neW s.x s.st (by intro h;cases h)
theorem StAt.xk(s:StAt O C x dx p st kp S):x≠kp:=neW s.x s.kp (by intro h;cases h)
theorem StAt.ps(s:StAt O C x dx p st kp S):p≠st:=neW s.p s.st (by intro h;cases h)
theorem StAt.pk(s:StAt O C x dx p st kp S):p≠kp:=neW s.p s.kp (by intro h;cases h)
noncomputable def But(O O':OM)(x p:Addr):Prop:=∀b,b≠x->b≠p->O' b=O b
theorem But.refl:But O O x p:=λ_ _ _=>rfl
theorem But.trans{O1 O2:OM}(a:But O O1 x p)(b:But O1 O2 x p):But O O2 x p:=λc h1 h2=>(b c h1 h2).trans (a c h1 h2)
theorem But.ux{o:OO}:But O (updO O x o) x p:=λ_ h _=>ze h
theorem But.up{o:OO}:But O (updO O p o) x p:=λ_ _ h=>ze h
theorem StAt.fld(s:StAt O C x dx p st kp S){S':ST}(hw:S'.w=S.w)(hh:S'.h=S.h)(hp:S'.pic=S.pic)(hst:S'.stops=S.stops:=by rfl)(hk:S'.kept=S.kept:=by rfl):StAt (updO O x (.ins C dx (fldW p st kp S'))) C x dx p st kp S':=
 ⟨zf,by rw[ze (Ne.symm s.xp),hw,hh,hp];exact s.p,by rw[ze (Ne.symm s.xs),hst];exact s.st,by rw[ze (Ne.symm s.xk),hk];exact s.kp⟩
theorem StAt.pic(s:StAt O C x dx p st kp S){f:PF}:StAt (updO O p (.grid (genG S.h S.w f))) C x dx p st kp { S with pic:=f }:=
 ⟨by rw[ze s.xp];exact s.x,zf,by rw[ze (Ne.symm s.ps)];exact s.st,by rw[ze (Ne.symm s.pk)];exact s.kp⟩
end
structure Bds (S:ST):Prop where
 w1:1<=S.w
 w2:S.w<=24
 h1:1<=S.h
 h2:S.h<=12
 r0:0<=S.row
 r1:S.row<S.h
 c0:0<=S.col
 c1:S.col<S.w
 t0:0<=S.top
 tb:S.top<=S.bottom
 b1:S.bottom<S.h
 l0:0<=S.left
 lr:S.left<=S.right
 rr:S.right<S.w
 i0:0<=S.ink
 i1:S.ink<512
theorem zJ{p q:Prop}[Decidable p][Decidable q]{a b:Prop}:(if p then(if q then a else b)else b)=(if p/\q then a else b):=by
 by_cases hp:p<;>by_cases hq:q<;>simp[hp,hq]
noncomputable def NumD:PyData->Prop
 |.none=>True
 |.int i=>0<=i/\i<=1000000
 |_=>False
theorem NumD.cs{n:PyData}(h:NumD n):n=.none\/∃i,n=.int i/\0<=i/\i<=1000000:=by
 cases n<;>first|exact .inl rfl|exact h.elim|exact .inr ⟨_,rfl,h.1,h.2⟩
noncomputable def oneD:PyData->Int
 |.int i=>if i>1 then i else 1
 |_=>1
theorem yZ{n:PyData}:1<=oneD n:=by cases n<;>simp[oneD];split<;>omega
theorem xS{n:PyData}(h:NumD n):oneD n<=1000000:=by
 rcases h.cs with rfl|⟨i,rfl,h0,h1⟩
 .decide
 .simp only[oneD];split<;>omega
noncomputable def vq:SpW:=λws O R=>∃n,ws=[.d n]/\NumD n/\R (.d (.int (oneD n))) O
noncomputable def sI1(P:Int->Prop)(f:Int->Int):SpW:=λws O R=>∃a,ws=[.d (.int a)]/\P a/\R (.d (.int (f a))) O
noncomputable def sI2(P:Int->Int->Prop)(f:Int->Int->Int):SpW:=λws O R=>∃a b,ws=[.d (.int a),.d (.int b)]/\P a b/\R (.d (.int (f a b))) O
noncomputable def sI3(P:Int->Int->Int->Prop)(f:Int->Int->Int->Int):SpW:=λws O R=>∃a b c,ws=[.d (.int a),.d (.int b),.d (.int c)]/\P a b c/\R (.d (.int (f a b c))) O
noncomputable def kt(n:PyData)(a b:Int):Int:=if b<a+oneD n-1 then b else a+oneD n-1
noncomputable def ZR:SpW:=λws O R=>∃n a b,ws=[.d n,.d (.int a),.d (.int b)]/\NumD n/\R (.d (.int (kt n a b))) O
noncomputable def Y9:SpW:=λws O R=>∃ns:List Int,∃k:Nat,ws=[.d (.list (ns.map .int)),.d (.int k)]/\R (.d (.int (ns.getD k 0))) O
noncomputable def Uv:SpW:=λws O R=>∃n lo hi,ws=[.d (.int n),.d (.int lo),.d (.int hi)]/\R (.d (.bool (decide (lo<=n/\n<=hi)))) O
noncomputable def zeQ:SpW:=λws O R=>∃a b:Nat,ws=[.d (.int a),.d (.int b)]/\1<=a/\a<=24/\1<=b/\b<=12/\R (.d (.bool true)) O
noncomputable def xK(m:PyData)(size:Int):Int:=match m with
 |.int i=>if i= 0 then size else if size<i then size else i
 |_=>size
noncomputable def VC(n m:PyData)(size:Int):PyData:=if xK m size<oneD n then .none else .tuple [.int (oneD n-1),.int (xK m size-1)]
noncomputable def VD:SpW:=λws O R=>∃n m s,ws=[.d n,.d m,.d (.int s)]/\NumD n/\NumD m/\R (.d (VC n m s)) O
noncomputable def dyeI(ink:Int)(n:PyData):Int:=match n with
 |.int i=>if i= 0 then 0
  else if 1<=i/\i<=3 then Builtin.bitOr ink ((xE [(0,64),(1,128),(2,256)] (i-1)).getD 0)
  else if 4<=i/\i<=6 then Builtin.bitAnd ink (Builtin.bitNot ((xE [(0,64),(1,128),(2,256)] (i-4)).getD 0))
  else if i= 7 then Builtin.bitXor ink 448
  else if 10<=i/\i<=17 then(i-10)+8*Builtin.bitAnd (ink / 8) 7+64*Builtin.bitAnd (ink / 64) 7
  else if 20<=i/\i<=27 then Builtin.bitAnd ink 7+8*(i-20)+64*Builtin.bitAnd (ink / 64) 7
  else ink
 |_=>0
noncomputable def Ink(i:Int):Prop:=0<=i/\i<512
noncomputable def jf:SpW:=sI3 (λa b c=>-1000<=b/\b<=1000/\-1000<=c/\c<=1000) (λa b c=>a+8*b+64*c)
noncomputable def Ky:SpW:=λws O R=>∃ink n,ws=[.d (.int ink),.d n]/\Ink ink/\NumD n/\R (.d (.int (dyeI ink n))) O
noncomputable def eT(S:ST):Int:=if S.top<=S.row then S.top else 0
noncomputable def eB(S:ST):Int:=if S.row<=S.bottom then S.bottom else S.h-1
noncomputable def eL(S:ST):Int:=if S.left<=S.col then S.left else 0
noncomputable def eR(S:ST):Int:=if S.col<=S.right then S.right else S.w-1
noncomputable def plS(r c:PyData)(S:ST):ST:=if S.home=true then{ S with row:=kt r S.top S.bottom,col:=kt c S.left S.right,late:=false }else{ S with row:=kt r 0 (S.h-1),col:=kt c 0 (S.w-1),late:=false }
noncomputable def rowsS(a b:PyData)(S:ST):ST:=if xK b S.h<oneD a then S else plS .none .none { S with top:=oneD a-1,bottom:=xK b S.h-1 }
noncomputable def colsS(a b:PyData)(S:ST):ST:=if xK b S.w<oneD a then S else plS .none .none { S with left:=oneD a-1,right:=xK b S.w-1 }
noncomputable def blank(i:Int):Cel:=(Str.ofString " ",i)
noncomputable def atF(f:PF)(i j:Int):Cel:=f i.toNat j.toNat
noncomputable def mvP(f:PF)(ink t b l r dn ac:Int):PF:=λi j=>
 if t<=(i:Int)/\(i:Int)<=b/\l<=(j:Int)/\(j:Int)<=r then(if t<=i+dn/\i+dn<=b/\l<=j+ac/\j+ac<=r then atF f (i+dn) (j+ac)else blank ink)else f i j
noncomputable def mvS(t b l r dn ac:Int)(S:ST):ST:={ S with pic:=mvP S.pic S.ink t b l r dn ac }
inductive sSt (C:Addr) (args:List W) (pre:ST->Prop) (f:ST->ST) (ws:List W) (O:OM) (R:WK):Prop
 |mk:∀x dx p st kp S,ws=.own x::args->StAt O C x dx p st kp S->pre S->(∀O',StAt O' C x dx p st kp (f S)->But O O' x p->R (.d .none) O')->sSt C args pre f ws O R
inductive sEdges (C:Addr) (ws:List W) (O:OM) (R:WK):Prop
 |mk:∀x dx p st kp S,ws=[.own x]->StAt O C x dx p st kp S->R (.d (.tuple [.int (eT S),.int (eB S),.int (eL S),.int (eR S)])) O->sEdges C ws O R
inductive sBlankOf (C:Addr) (ws:List W) (O:OM) (R:WK):Prop
 |mk:∀x dx p st kp S,ws=[.own x]->StAt O C x dx p st kp S->R (.d (celD (blank S.ink))) O->sBlankOf C ws O R
noncomputable def sPlace(C:Addr):SpW:=λws O R=>∃r c,NumD r/\NumD c/\sSt C [.d r,.d c] (λ_=>True) (plS r c) ws O R
noncomputable def sHome(C:Addr):SpW:=sSt C [] (λ_=>True) (plS .none .none)
noncomputable def sRows(C:Addr):SpW:=λws O R=>∃a b,NumD a/\NumD b/\sSt C [.d a,.d b] (λ_=>True) (rowsS a b) ws O R
noncomputable def sCols(C:Addr):SpW:=λws O R=>∃a b,NumD a/\NumD b/\sSt C [.d a,.d b] (λ_=>True) (colsS a b) ws O R
noncomputable def dyeS(ns:List PyData)(S:ST):ST:={ S with ink:=ns.foldl dyeI S.ink }
noncomputable def sDye(C:Addr):SpW:=λws O R=>∃ns:List PyData,(∀n∈ns,NumD n)/\sSt C [.d (.tuple ns)] (λS=>Ink S.ink) (dyeS ns) ws O R
noncomputable def rollS(a s:Int)(S:ST):ST:=mvS a S.bottom S.left S.right s 0 S
noncomputable def PreR(a:Int)(S:ST):Prop:=Bds S/\0<=a/\a<=S.bottom
noncomputable def sRoll(C:Addr):SpW:=λws O R=>∃a s,-2000000<=s/\s<=2000000/\sSt C [.d (.int a),.d (.int s)] (PreR a) (rollS a s) ws O R
noncomputable def sRollD(C:Addr):SpW:=λws O R=>∃a s,-2000000<=s/\s<=2000000/\sSt C [.d (.int a),.d (.int s)] (PreR a) (rollS a (-s)) ws O R
noncomputable def lineS(s:Int)(S:ST):ST:=if S.top<=S.row/\S.row<=S.bottom then{ rollS S.row s S with late:=false }else{ S with late:=false }
noncomputable def sPutL(C:Addr):SpW:=λws O R=>∃n,NumD n/\sSt C [.d n] Bds (lineS (-(oneD n))) ws O R
noncomputable def sCutL(C:Addr):SpW:=λws O R=>∃n,NumD n/\sSt C [.d n] Bds (lineS (oneD n)) ws O R
noncomputable def cellsS(s:Int)(S:ST):ST:={ mvS S.row S.row S.col (eR S) 0 s S with late:=false }
noncomputable def sMvC(C:Addr):SpW:=λws O R=>∃s,-2000000<=s/\s<=2000000/\sSt C [.d (.int s)] Bds (cellsS s) ws O R
noncomputable def sPutC(C:Addr):SpW:=λws O R=>∃n,NumD n/\sSt C [.d n] Bds (cellsS (-(oneD n))) ws O R
noncomputable def leftS(S:ST):ST:={ S with col:=eL S,late:=false }
noncomputable def sLeft(C:Addr):SpW:=sSt C [] (λ_=>True) leftS
noncomputable def lineE(S:ST):ST:=let S1:=leftS S;if S1.row=S1.bottom then rollS S1.top 1 S1 else if S1.row<S1.h-1 then{ S1 with row:=S1.row+1 }else S1
noncomputable def sLineE(C:Addr):SpW:=sSt C [] Bds lineE
noncomputable def putS0(c:Str)(S:ST):ST:=
 let S1:ST:=if S.late=true/\S.wrap=true then lineE S else S
 let S2:ST:={ S1 with late:=false }
 let S3:ST:=if S2.putting=true then cellsS (-1) S2 else S2
 let S4:ST:={ S3 with pic:=setF S3.pic S3.row.toNat S3.col.toNat (c,S3.ink),last:=.str c }
 if S4.col<eR S4 then{ S4 with col:=S4.col+1 }else{ S4 with late:=S4.wrap }
noncomputable def sPutSign(C:Addr):SpW:=λws O R=>∃c,sSt C [.d (.str c)] Bds (putS0 c) ws O R
inductive sBlankRow (ws:List W) (O:OM) (R:WK):Prop
 |mk:∀(a:Nat) (i:Int),ws=[.d (.int a),.d (.int i)]->a<=24->(∀p,O p=none->R (.own p) (updO O p (.lst (((List.range a).map λ_=>celD (blank i)).map .d))))->sBlankRow ws O R
inductive sBlankPic (ws:List W) (O:OM) (R:WK):Prop
 |mk:∀(a b:Nat) (i:Int),ws=[.d (.int a),.d (.int b),.d (.int i)]->1<=a->a<=24->1<=b->b<=12->(∀p,O p=none->R (.own p) (updO O p (.grid (genG b a λ_ _=>blank i))))->sBlankPic ws O R
inductive sCopied (ws:List W) (O:OM) (R:WK):Prop
 |mk:∀p h w f,ws=[.own p]->O p=some (.grid (genG h w f))->h<=12->R (.d (.list ((genG h w f).map .list))) O->sCopied ws O R
noncomputable def stopsI(w:Nat):List Int:=(List.range ((w-1) / 4)).map λi=>(4+(i:Nat)*4:Int)
noncomputable def stopsW(w:Nat):List (Key×W):=stK (stopsI w)
inductive sStops (ws:List W) (O:OM) (R:WK):Prop
 |mk:∀a:Nat,ws=[.d (.int a)]->1<=a->a<=24->(∀p,O p=none->R (.own p) (updO O p (.dK (stopsW a))))->sStops ws O R
noncomputable def st0(w h:Nat)(f:PF):ST:=⟨w,h,0,0,false,0,true,false,false,0,h-1,0,w-1,.none,f,stopsI w,[]⟩
noncomputable def sBegin(C:Addr):SpW:=λws O R=>∃x dx p,∃w h:Nat,ws=[.own x]/\O x=some (.ins C dx [("picture",.own p),("wide",.d (.int w)),("high",.d (.int h))])/\1<=w/\w<=24/\
 ∀st kp O',O st=none->O kp=none->O' x=some (.ins C dx (fldW p st kp (st0 w h λ_ _=>blank 0)))->O' st=some (.dK (stopsW w))->O' kp=some (.lst [])->(∀b,b≠x->b≠st->b≠kp->O' b=O b)->R (.d .none) O'
inductive sInit (C:Addr) (ws:List W) (O:OM) (R:WK):Prop
 |mk:∀x dx,∀w h:Nat,ws=[.own x,.d (.int w),.d (.int h)]->O x=some (.ins C dx [])->1<=w->w<=24->1<=h->h<=12->(∀p st kp O',O p=none->O st=none->O kp=none->StAt O' C x dx p st kp (st0 w h λ_ _=>blank 0)->(∀b,b≠x->b≠p->b≠st->b≠kp->O' b=O b)->R (.d .none) O')->sInit C ws O R
theorem zdr{i:Int}(h:Ink i):0<=Builtin.bitAnd (i / 8) 7/\Builtin.bitAnd (i / 8) 7<=7:=by
 obtain⟨n,rfl⟩:∃n:_root_.Fin 512,i=((n.val:Nat):Int):=⟨⟨i.toNat,by have:=h.1;have:=h.2;omega⟩,by have:=h.1;simp only;omega⟩;clear h
 revert n
 decide +kernel
theorem XW{i:Int}(h:Ink i):0<=Builtin.bitAnd (i / 64) 7/\Builtin.bitAnd (i / 64) 7<=7:=by
 obtain⟨n,rfl⟩:∃n:_root_.Fin 512,i=((n.val:Nat):Int):=⟨⟨i.toNat,by have:=h.1;have:=h.2;omega⟩,by have:=h.1;simp only;omega⟩;clear h
 revert n
 decide +kernel
theorem Uw{i:Int}{n:PyData}(h:Ink i):Ink (dyeI i n):=by
 cases n with
 |int k=>
  obtain⟨m,rfl⟩:∃m:_root_.Fin 512,i=((m.val:Nat):Int):=⟨⟨i.toNat,by have:=h.1;have:=h.2;omega⟩,by have:=h.1;simp only;omega⟩;by_cases hk:0<=k/\k<=27
  .obtain⟨q,rfl⟩:∃q:_root_.Fin 28,k=((q.val:Nat):Int):=⟨⟨k.toNat,by omega⟩,by simp only;omega⟩
   clear h hk;unfold Ink
   revert m q
   decide +kernel
  .simp only[dyeI]
   rw[if_neg (by omega),if_neg (by omega),if_neg (by omega),if_neg (by omega),if_neg (by omega),if_neg (by omega)];exact h
 |_=>exact⟨Int.le_refl 0,(by decide:(0:Int)<512)⟩
theorem zds{h w:Nat}{f:PF}{k:Int}(h0:0<=k)(h1:k<h):atI (((genG h w f).map PyData.list).map W.d) k=some (.d (.list ((List.range w).map λj=>celD (f k.toNat j)))):=by
 unfold genG;rw[List.map_map,List.map_map];exact ve h0 h1
theorem Ux{w:Nat}{g:Nat->Cel}{k:Int}(h0:0<=k)(h1:k<w):atI (((List.range w).map λj=>celD (g j)).map W.d) k=some (.d (celD (g k.toNat))):=by
 rw[List.map_map];exact ve h0 h1
noncomputable def goP(N f:PF)(t l:Int)(i j:Nat):PF:=λa b=>if(a:Int)<t+i\/((a:Int)=t+i/\(b:Int)<l+j)then N a b else f a b
theorem Uy{N f:PF}{t l:Int}(hN:∀a b:Nat,(a:Int)<t\/((a:Int)=t/\(b:Int)<l)->N a b=f a b):goP N f t l 0 0 =f:=by
 funext a b
 unfold goP;split
 .rename_i e;exact hN a b (by omega)
 .rfl
theorem Uz{N f:PF}{t l:Int}{j:Nat}{r c:Nat}(hr:(r:Int)=t+i)(hc:(c:Int)=l+j):setF (goP N f t l i j) r c (N r c)=goP N f t l i (j+1):=by
 funext a b
 unfold setF goP;by_cases e:a=r/\b=c
 .obtain⟨rfl,rfl⟩:=e
  rw[if_pos ⟨rfl,rfl⟩,if_pos (by omega)]
 .rw[if_neg e]
  by_cases e2:(a:Int)<t+i\/((a:Int)=t+i/\(b:Int)<l+j)
  .rw[if_pos e2,if_pos (by omega)]
  .rw[if_neg e2,if_neg (by omega)]
theorem JF{N f:PF}{t l:Int}(hN:∀a b:Nat,(a:Int)=t+i->l+n<=b->N a b=f a b)(hM:∀a b:Nat,(a:Int)=t+i+1->(b:Int)<l->N a b=f a b):goP N f t l i n=goP N f t l (i+1) 0:=by
 funext a b
 unfold goP;by_cases e2:(a:Int)<t+i\/((a:Int)=t+i/\(b:Int)<l+n)
 .rw[if_pos e2,if_pos (by omega)]
 .rw[if_neg e2]
  split
  .rename_i e3
   by_cases e4:(a:Int)=t+i
   .exact(hN a b e4 (by omega)).symm
   .exact(hM a b (by omega) (by omega)).symm
  .rfl
theorem JG{N f:PF}{t l:Int}(hN:∀a b:Nat,t+n<=a->N a b=f a b):goP N f t l n 0 =N:=by
 funext a b
 unfold goP;split
 .rfl
 .rename_i e
  by_cases e4:t+n<=a
  .exact(hN a b e4).symm
  .exact absurd (.inl (by omega)) e
theorem vf{f:PF}{ink t b l r dn ac:Int}{j:Nat}(h:¬(t<=(i:Int)/\(i:Int)<=b/\l<=(j:Int)/\(j:Int)<=r)):mvP f ink t b l r dn ac i j=f i j:=if_neg h
theorem zbj{O:OM}:yc O (.d (.list ds))=some (ds.map .d):=rfl
theorem zj7{T1 T2 T3 U:TSW}{D:EndsW}{ρ:WS}{O:OM}(J:WS->OM->Prop)(ht:∀R:WS->OM->Prop,(∀ρ' O',J ρ' O'->R ρ' O')->xg T1 (xg T2 T3) { D with nx:=R } ρ O)(hu:∀ρ' O',J ρ' O'->U D ρ' O'):xg T1 (xg T2 (xg T3 U)) D ρ O:=ht (U D) hu
theorem zir{α:Type}{a b c d:α}:atI [a,b,c,d] (3:Int)=some d:=rfl
theorem VE{S:ST}(h:Bds S):0<=eL S/\eL S<S.w:=by
 have:=h.l0;have:=h.lr;have:=h.rr;have:=h.w1;unfold eL;split<;>omega
theorem Zp{S:ST}(h:Bds S):S.col<=eR S/\eR S<S.w:=by
 have:=h.l0;have:=h.lr;have:=h.rr;have:=h.c1;unfold eR;split<;>omega
theorem Bds.left{S:ST}(h:Bds S):Bds (leftS S):={ h with c0:=(VE h).1,c1:=(VE h).2 }
theorem Bds.pic'{S:ST}{f:PF}(h:Bds S):Bds { S with pic:=f }:={ h with }
theorem Bds.late'{S:ST}{b:Bool}(h:Bds S):Bds { S with late:=b }:={ h with }
theorem Bds.roll{S:ST}{a s:Int}(h:Bds S):Bds (rollS a s S):={ h with }
theorem Bds.cells{S:ST}{s:Int}(h:Bds S):Bds (cellsS s S):={ h with }
theorem Bds.lineE{S:ST}(h:Bds S):Bds (lineE S):=by
 have h1:=h.left;unfold L2.lineE;dsimp only;split
 .exact h1.roll
 .split
  .rename_i e1 e2
   exact{ h1 with r0:=by have:=h1.r0;simp only at *;omega,r1:=by simp only at *;omega }
  .exact h1
noncomputable def pA(S:ST):ST:=if S.late=true/\S.wrap=true then lineE S else S
noncomputable def pB(S:ST):ST:={ S with late:=false }
noncomputable def pC(S:ST):ST:=if S.putting=true then cellsS (-1) S else S
noncomputable def pD(c:Str)(S:ST):ST:={ S with pic:=setF S.pic S.row.toNat S.col.toNat (c,S.ink) }
noncomputable def pE(c:Str)(S:ST):ST:={ S with last:=.str c }
noncomputable def pF(S:ST):ST:=if S.col<eR S then{ S with col:=S.col+1 }else{ S with late:=S.wrap }
theorem vL(c:Str)(S:ST):putS0 c S=pF (pE c (pD c (pC (pB (pA S))))):=rfl
theorem Bds.pA{S:ST}(h:Bds S):Bds (pA S):=by unfold L2.pA;split;exact h.lineE;exact h
theorem Bds.pB{S:ST}(h:Bds S):Bds (pB S):=h.late'
theorem Bds.pC{S:ST}(h:Bds S):Bds (pC S):=by unfold L2.pC;split;exact h.cells;exact h
theorem Bds.pD{c:Str}{S:ST}(h:Bds S):Bds (pD c S):=h.pic'
theorem Bds.pF{S:ST}(h:Bds S):Bds (pF S):=by
 unfold L2.pF;split
 .rename_i e
  have:=Zp h;exact{ h with c0:=by have:=h.c0;simp only;omega,c1:=by simp only;omega }
 .exact h.late'
end L2
variable {S:L2.ST}{O:L2.OM}{Γ:L2.Gh}
namespace L2
open PySem
noncomputable abbrev FL:=List (Str×W)
section
variable {a0 a1 a2 a3 a4 a5 a6 a7 a8 a9 a10 a11 a12 a13 a14 a15 v:W}
theorem zkS:yo "picture" v []=([("picture",v)]:FL):=rfl
theorem zkT:yo "wide" v [("picture",a0)]=([("picture",a0),("wide",v)]:FL):=rfl
theorem zkU:yo "high" v [("picture",a0),("wide",a1)]=([("picture",a0),("wide",a1),("high",v)]:FL):=rfl
theorem zkV:yo "row" v [("picture",a0),("wide",a1),("high",a2)]=([("picture",a0),("wide",a1),("high",a2),("row",v)]:FL):=rfl
theorem zkW:yo "column" v [("picture",a0),("wide",a1),("high",a2),("row",a3)]=([("picture",a0),("wide",a1),("high",a2),("row",a3),("column",v)]:FL):=rfl
theorem zkX:yo "late" v [("picture",a0),("wide",a1),("high",a2),("row",a3),("column",a4)]=([("picture",a0),("wide",a1),("high",a2),("row",a3),("column",a4),("late",v)]:FL):=rfl
theorem zkY:yo "ink" v [("picture",a0),("wide",a1),("high",a2),("row",a3),("column",a4),("late",a5)]=([("picture",a0),("wide",a1),("high",a2),("row",a3),("column",a4),("late",a5),("ink",v)]:FL):=rfl
theorem zkZ:yo "wrap" v [("picture",a0),("wide",a1),("high",a2),("row",a3),("column",a4),("late",a5),("ink",a6)]=([("picture",a0),("wide",a1),("high",a2),("row",a3),("column",a4),("late",a5),("ink",a6),("wrap",v)]:FL):=rfl
theorem zk0:yo "putting" v [("picture",a0),("wide",a1),("high",a2),("row",a3),("column",a4),("late",a5),("ink",a6),("wrap",a7)]=([("picture",a0),("wide",a1),("high",a2),("row",a3),("column",a4),("late",a5),("ink",a6),("wrap",a7),("putting",v)]:FL):=rfl
theorem zk1:yo "home" v [("picture",a0),("wide",a1),("high",a2),("row",a3),("column",a4),("late",a5),("ink",a6),("wrap",a7),("putting",a8)]=([("picture",a0),("wide",a1),("high",a2),("row",a3),("column",a4),("late",a5),("ink",a6),("wrap",a7),("putting",a8),("home",v)]:FL):=rfl
theorem zj8:yo "top" v [("picture",a0),("wide",a1),("high",a2),("row",a3),("column",a4),("late",a5),("ink",a6),("wrap",a7),("putting",a8),("home",a9)]=([("picture",a0),("wide",a1),("high",a2),("row",a3),("column",a4),("late",a5),("ink",a6),("wrap",a7),("putting",a8),("home",a9),("top",v)]:FL):=rfl
theorem zj9:yo "bottom" v [("picture",a0),("wide",a1),("high",a2),("row",a3),("column",a4),("late",a5),("ink",a6),("wrap",a7),("putting",a8),("home",a9),("top",a10)]=([("picture",a0),("wide",a1),("high",a2),("row",a3),("column",a4),("late",a5),("ink",a6),("wrap",a7),("putting",a8),("home",a9),("top",a10),("bottom",v)]:FL):=rfl
theorem zka:yo "left" v [("picture",a0),("wide",a1),("high",a2),("row",a3),("column",a4),("late",a5),("ink",a6),("wrap",a7),("putting",a8),("home",a9),("top",a10),("bottom",a11)]=([("picture",a0),("wide",a1),("high",a2),("row",a3),("column",a4),("late",a5),("ink",a6),("wrap",a7),("putting",a8),("home",a9),("top",a10),("bottom",a11),("left",v)]:FL):=rfl
theorem zkb:yo "right" v [("picture",a0),("wide",a1),("high",a2),("row",a3),("column",a4),("late",a5),("ink",a6),("wrap",a7),("putting",a8),("home",a9),("top",a10),("bottom",a11),("left",a12)]=([("picture",a0),("wide",a1),("high",a2),("row",a3),("column",a4),("late",a5),("ink",a6),("wrap",a7),("putting",a8),("home",a9),("top",a10),("bottom",a11),("left",a12),("right",v)]:FL):=rfl
theorem zeR:yo "stops" v [("picture",a0),("wide",a1),("high",a2),("row",a3),("column",a4),("late",a5),("ink",a6),("wrap",a7),("putting",a8),("home",a9),("top",a10),("bottom",a11),("left",a12),("right",a13)]=([("picture",a0),("wide",a1),("high",a2),("row",a3),("column",a4),("late",a5),("ink",a6),("wrap",a7),("putting",a8),("home",a9),("top",a10),("bottom",a11),("left",a12),("right",a13),("stops",v)]:FL):=rfl
theorem zeS:yo "kept" v [("picture",a0),("wide",a1),("high",a2),("row",a3),("column",a4),("late",a5),("ink",a6),("wrap",a7),("putting",a8),("home",a9),("top",a10),("bottom",a11),("left",a12),("right",a13),("stops",a14)]=([("picture",a0),("wide",a1),("high",a2),("row",a3),("column",a4),("late",a5),("ink",a6),("wrap",a7),("putting",a8),("home",a9),("top",a10),("bottom",a11),("left",a12),("right",a13),("stops",a14),("kept",v)]:FL):=rfl
theorem zkc:yo "last" v [("picture",a0),("wide",a1),("high",a2),("row",a3),("column",a4),("late",a5),("ink",a6),("wrap",a7),("putting",a8),("home",a9),("top",a10),("bottom",a11),("left",a12),("right",a13),("stops",a14),("kept",a15)]=([("picture",a0),("wide",a1),("high",a2),("row",a3),("column",a4),("late",a5),("ink",a6),("wrap",a7),("putting",a8),("home",a9),("top",a10),("bottom",a11),("left",a12),("right",a13),("stops",a14),("kept",a15),("last",v)]:FL):=rfl
theorem zkD:List.lookup (Str.ofString "wide") [("picture",a0),("wide",a1),("high",a2)]=some a1:=rfl
theorem zkE:List.lookup (Str.ofString "high") [("picture",a0),("wide",a1),("high",a2)]=some a2:=rfl
theorem Kz:List.lookup (Str.ofString "begin") [("picture",a0),("wide",a1),("high",a2)]=none:=rfl
theorem zkd:List.lookup (Str.ofString "wide") [("picture",a0),("wide",a1),("high",a2),("row",a3),("column",a4),("late",a5),("ink",a6),("wrap",a7),("putting",a8),("home",a9),("top",a10)]=some a1:=rfl
theorem KA:List.lookup (Str.ofString "high") [("picture",a0),("wide",a1),("high",a2),("row",a3),("column",a4),("late",a5),("ink",a6),("wrap",a7),("putting",a8),("home",a9),("top",a10)]=some a2:=rfl
theorem zjJ:List.lookup (Str.ofString "begin") [("picture",a0),("wide",a1),("high",a2),("row",a3),("column",a4),("late",a5),("ink",a6),("wrap",a7),("putting",a8),("home",a9),("top",a10)]=none:=rfl
theorem KB:List.lookup (Str.ofString "wide") [("picture",a0),("wide",a1),("high",a2),("row",a3),("column",a4),("late",a5),("ink",a6),("wrap",a7),("putting",a8),("home",a9),("top",a10),("bottom",a11),("left",a12)]=some a1:=rfl
theorem zke:List.lookup (Str.ofString "high") [("picture",a0),("wide",a1),("high",a2),("row",a3),("column",a4),("late",a5),("ink",a6),("wrap",a7),("putting",a8),("home",a9),("top",a10),("bottom",a11),("left",a12)]=some a2:=rfl
theorem zjK:List.lookup (Str.ofString "begin") [("picture",a0),("wide",a1),("high",a2),("row",a3),("column",a4),("late",a5),("ink",a6),("wrap",a7),("putting",a8),("home",a9),("top",a10),("bottom",a11),("left",a12)]=none:=rfl
theorem KC:List.lookup (Str.ofString "wide") [("picture",a0),("wide",a1),("high",a2),("row",a3),("column",a4),("late",a5),("ink",a6),("wrap",a7),("putting",a8),("home",a9),("top",a10),("bottom",a11),("left",a12),("right",a13)]=some a1:=rfl
theorem zkf:List.lookup (Str.ofString "high") [("picture",a0),("wide",a1),("high",a2),("row",a3),("column",a4),("late",a5),("ink",a6),("wrap",a7),("putting",a8),("home",a9),("top",a10),("bottom",a11),("left",a12),("right",a13)]=some a2:=rfl
theorem zjL:List.lookup (Str.ofString "begin") [("picture",a0),("wide",a1),("high",a2),("row",a3),("column",a4),("late",a5),("ink",a6),("wrap",a7),("putting",a8),("home",a9),("top",a10),("bottom",a11),("left",a12),("right",a13)]=none:=rfl
end
end L2
namespace L2
open PySem PySem.Spec PyProof.Rows
theorem zbk{κ α:Type}[DecidableEq κ]{kvs:List (κ×α)}{k:κ}{v:α}(h:k∉kvs.map (·.1)):uI kvs k v=kvs++[(k,v)]:=by
 unfold uI;rw[if_neg];intro e;rw[List.any_eq_true]at e;obtain⟨kv,h1,h2⟩:=e;exact h (List.mem_map.mpr ⟨kv,h1,by simpa using h2⟩)
theorem Yq{κ α:Type}[DecidableEq κ]:∀{more kvs:List (κ×α)},((kvs++more).map (·.1)).Nodup->uX kvs more=kvs++more
 |[],kvs,_=>by simp[uX]
 |(k,v)::more,kvs,h=>by
  have hk:k∉kvs.map (·.1):=by
   intro m;rw[List.map_append,List.nodup_append]at h;exact h.2.2 k m k (by simp) rfl
  show uX (uI kvs k v) more=_;rw[zbk hk,Yq (by simpa using h)];simp
theorem r3w{w:Nat}(h1:1<=w)(h2:w<=24):R3 4 w 4 ((w-1) / 4):=by
 have e:∀n:_root_.Fin 25,1<=n.val->(4:Int)≠0/\Builtin.Range.small 4 ((n.val:Nat):Int) 4 =true/\Builtin.Range.rangeSize 4 ((n.val:Nat):Int) 4 =(((n.val-1) / 4:Nat))/\Builtin.divisionGoesByPylong (((n.val:Nat):Int)-4) 4 =false:=by decide +kernel
 exact e ⟨w,by omega⟩ h1
theorem zdt{w:Nat}(h2:w<=24):((stopsW w).map (·.1)).Nodup:=by
 have e:∀n:_root_.Fin 25,((List.range ((n.val-1) / 4)).map λi=>(Sum.inl (4+(i:Nat)*4:Int):Key)).Nodup:=by decide +kernel
 have:=e ⟨w,by omega⟩;unfold stopsW stK stopsI;rw[List.map_map,List.map_map];exact this
noncomputable def zbl(K:W.Frag):List V->Hp->VK->Prop:=zaY K
theorem zga(hK:X.K=K)(hc:X.calm=true):yv X (.type "dict") (zbl K):=by subst hK;exact Km hc
noncomputable def vt:List PyData->Option (List (Key×PyData))
 |[]=>some []
 |.tuple [.int i,v]::r=>(vt r).map ((Sum.inl i,v) :: ·)
 |.tuple [.str i,v]::r=>(vt r).map ((Sum.inr i,v) :: ·)
 |_=>none
theorem jB:∀{ds:List PyData}{kvs:List (Key×PyData)}{vs:List V},vt ds=some kvs->Reps K Γ.Z ds vs->∃us:List (Key×V),Yi K Γ.Z vs us/\yp K Γ (kvs.map λkv=>(kv.1,W.d kv.2)) us
 |[],kvs,vs,e,h=>by
  cases e;rw[show vs=[]from h];exact⟨[],.nil,.nil⟩
 |d::ds,kvs,vs,e,h=>by
  obtain⟨x,r,rfl,h1,h2⟩:=h;unfold vt at e;split at e
  .rename_i heq;cases heq
  .rename_i i v r' heq
   cases heq;cases hp:vt ds with
   |none=>rw[hp]at e;cases e
   |some k2=>
    rw[hp]at e;cases e;obtain⟨us,q1,q2⟩:=jB hp h2;obtain⟨a,xs,rfl,s1,y1,r1,e1,s2,y2,r2,e2,s3,e3⟩:=h1;subst e1 e2;rw[show r2=[]from e3]at s1;rw[show y1=.int i from s2]at s1;exact⟨(Sum.inl i,y2)::us,.cons ⟨a,rfl,s1⟩ q1,.cons ⟨rfl,s3⟩ q2⟩
  .rename_i i v r' heq
   cases heq;cases hp:vt ds with
   |none=>rw[hp]at e;cases e
   |some k2=>
    rw[hp]at e;cases e;obtain⟨us,q1,q2⟩:=jB hp h2;obtain⟨a,xs,rfl,s1,y1,r1,e1,s2,y2,r2,e2,s3,e3⟩:=h1;subst e1 e2;rw[show r2=[]from e3]at s1;rw[show y1=.str i from s2]at s1;exact⟨(Sum.inr i,y2)::us,.cons ⟨a,rfl,s1⟩ q1,.cons ⟨rfl,s3⟩ q2⟩
  .cases e
noncomputable def zbm:List W->OM->WK->Prop:=λxs O R=>∃w ds kvs,xs=[w]/\yc O w=some (ds.map .d)/\vt ds=some kvs/\kvs.length<=1000/\∀p,O p=none->R (.own p) (updO O p (.dK (uX [] (kvs.map λkv=>(kv.1,.d kv.2)))))
theorem zgb:RefC K (zbl K) zbm:=by
 rintro Γ O H xs vs S rs Q R ⟨w,ds,kvs,rfl,e,ep,hl,h⟩ k;cases rs with
 |cons rx t=>
  cases t;obtain⟨a,ys,rfl,q1,q2⟩:=yC S rx e;obtain⟨us,p1,p2⟩:=jB ep (ya q2);refine⟨a,ys,us,rfl,q1,p1.keep λb xs hb=>hb.same S.z,by rw[<-Paired.length p2,List.length_map];exact hl,λp hp=>?_⟩;have S':=S.newO hp (o:=.dK (xI [] us)) (oo:=.dK _) (by intro _ h;cases h) ⟨_,zX,ZE p2 .nil⟩;exact k _ _ _ _ _ (Le.refl _) S' xy (h p (S.free hp).2.1)
theorem Yr{Z:Hp}:∀ns:List Int,Reps K Z (ns.map PyData.int) (ns.map V.int)
 |[]=>rfl
 |n::ns=>⟨_,_,rfl,rfl,Yr ns⟩
theorem KF{kvs:List (Key×W)}{vs:List (Key×V)}(h:yp K Γ kvs vs):kvs.map (·.1)=vs.map (·.1):=by
 unfold yp at h
 induction h with
 |nil=>rfl
 |cons a b ih=>rw[List.map_cons,List.map_cons,a.1,ih]
theorem RefR.weak{r:R2}{rw rw':R2W}(h:RefR K r rw)(imp:∀x y O R,rw' x y O R->rw x y O R):RefR K r rw':=λΓ O H x y v u S rx ry Q R hT k=>h Γ O H x y v u S rx ry Q R (imp _ _ _ _ hT) k
theorem RefC.weak{r:List V->Hp->VK->Prop}{rw rw':List W->OM->WK->Prop}(h:RefC K r rw)(imp:∀x O R,rw' x O R->rw x O R):RefC K r rw':=λΓ O H xs vs S rs Q R hT k=>h Γ O H xs vs S rs Q R (imp _ _ _ hT) k
noncomputable def z9(i:Nat):TEW:=λρ O R=>match ρ[i]? with
 |some (some w)=>R w O
 |_=>False
theorem zis :RefE K (JY i) (z9 i):=fun Γ O H ρ σ S r Q R hT k=>zfG Γ O H ρ σ S r Q R (by
  unfold z9 at hT;split at hT
  · rename_i w e;exact⟨w,e,hT⟩
  · exact hT.elim) k
noncomputable def vI0(g:Int->Int->V):R2W:=λx y O R=>match x,y with
 |.d (.int i),.d (.int j)=>R (ofV (g i j)) O
 |_,_=>False
noncomputable def vI(C:Int->Int->Prop)(g:Int->Int->V):R2W:=λx y O R=>match x,y with
 |.d (.int i),.d (.int j)=>C i j/\R (ofV (g i j)) O
 |_,_=>False
theorem zkg{g:Int->Int->V}(hg:∀i j,scV (g i j)=true:=by intro _ _;rfl):RefR K (rI0 g) (vI0 g):=(zkK hg).weak λx y O R h=>by
 unfold vI0 at h;split at h
 .exact⟨_,_,rfl,rfl,h⟩
 .exact h.elim
theorem zk2{C:Int->Int->Prop}{g:Int->Int->V}(hg:∀i j,scV (g i j)=true:=by intro _ _;rfl):RefR K (rI C g) (vI C g):=(r_I hg).weak λx y O R h=>by
 unfold vI at h;split at h
 .exact⟨_,_,rfl,rfl,h⟩
 .exact h.elim
noncomputable def vU(g:Int->V):W->OM->WK->Prop:=λx O R=>match x with
 |.d (.int i)=>R (ofV (g i)) O
 |_=>False
theorem zk3 {g:Int->V}(hg:∀ i,scV (g i)=true:=by intro _;rfl):RefU K (rU g) (vU g):=fun Γ O H x v S rx Q R h k=>r_U hg Γ O H x v S rx Q R (by
  unfold vU at h;split at h
  · exact⟨_,rfl,h⟩
  · exact h.elim) k
noncomputable def vEq:R2W:=λx y O R=>match x,y with
 |.d (.int i),.d (.int j)=>R (.d (.bool (decide (i=j)))) O
 |.d a,.d b=>scD a=true/\scD b=true/\ZK (vOf a) (vOf b)=true/\R (.d (.bool (decide (vOf a=vOf b)))) O
 |_,_=>False
noncomputable def vNe:R2W:=λx y O R=>match x,y with
 |.d (.int i),.d (.int j)=>R (.d (.bool (!decide (i=j)))) O
 |.d a,.d b=>scD a=true/\scD b=true/\ZK (vOf a) (vOf b)=true/\R (.d (.bool (!decide (vOf a=vOf b)))) O
 |_,_=>False
theorem zkh:RefR K rEq vEq:=zkL.weak λx y O R h=>by
 unfold vEq at h;split at h
 .rename_i i j
  have e:decide (vOf (.int i)=vOf (.int j))=decide (i=j):=by simp[vOf]
  exact⟨.int i,.int j,rfl,rfl,rfl,rfl,rfl,by rw[e];exact h⟩
 .exact⟨_,_,rfl,rfl,h⟩
 .exact h.elim
theorem zki:RefR K rNe vNe:=zkM.weak λx y O R h=>by
 unfold vNe at h;split at h
 .rename_i i j
  have e:decide (vOf (.int i)=vOf (.int j))=decide (i=j):=by simp[vOf]
  exact⟨.int i,.int j,rfl,rfl,rfl,rfl,rfl,by rw[e];exact h⟩
 .exact⟨_,_,rfl,rfl,h⟩
 .exact h.elim
noncomputable def KG:R2W:=λx y O R=>match y with
 |.d .none=>R (.d (.bool (vW x))) O
 |_=>False
noncomputable def VF:R2W:=λx y O R=>match y with
 |.d .none=>R (.d (.bool (!vW x))) O
 |_=>False
theorem zit:RefR K (λx y H Q=>y=.non/\Q (.bl (decide (x=.non))) H) KG:=zjZ.weak λx y O R h=>by
 unfold KG at h;split at h
 .exact⟨rfl,h⟩
 .exact h.elim
theorem zgc:RefR K (λx y H Q=>y=.non/\Q (.bl (!decide (x=.non))) H) VF:=zhW.weak λx y O R h=>by
 unfold VF at h;split at h
 .exact⟨rfl,h⟩
 .exact h.elim
noncomputable def zdu:R2W:=λx y O R=>match y with
 |.d (.int i)=>∃ws,yc O x=some ws/\∃w,atI ws i=some w/\R w O
 |_=>False
theorem ziu:RefR K (Ke K) zdu:=zj1.weak λx y O R h=>by
 unfold zdu at h;split at h
 .obtain⟨ws,e,w,e2,h⟩:=h
  exact⟨ws,_,w,rfl,e,e2,h⟩
 .exact h.elim
noncomputable def yY(T:TEW):TTW:=λρ O R=>T ρ O λx O1=>match x with
 |.d (.bool k)=>R k O1
 |_=>False
theorem JH{t:TE}{T:TEW}(h:RefE K t T):xu K (Vy t) (yY T):=by
 intro Γ O H ρ σ S r0 Q R hT k;refine h Γ O H ρ σ S r0 _ _ hT λΓ1 O1 H1 x v l1 S1 rx h1=>?_;split at h1
 .exact⟨_,rx,k _ _ _ _ l1 S1 h1⟩
 .exact h1.elim
theorem zkj{t:TE}{T:TEW}(h:RefE K t T):xu K (tB t) (yY T):=JH h
noncomputable def UA(r r':R2W)(Ta Tb Tc:TEW):TEW:=λρ O R=>Ta ρ O λx O1=>Tb ρ O1 λy O2=>r x y O2 λz O3=>match z with
 |.d (.bool k)=>if k=true then Tc ρ O3 λw O4=>r' y w O4 R else R (.d (.bool false)) O3
 |_=>False
theorem zdv{r r':R2}{rw rw':R2W}{tb tc:TE}{Ta Tb Tc:TEW}(hr:RefR K r rw)(hr':RefR K r' rw')(ha:RefE K ta Ta)(hb:RefE K tb Tb)(hc:RefE K tc Tc):RefE K (VQ r r' ta tb tc) (UA rw rw' Ta Tb Tc):=by
 intro Γ O H ρ σ S r0 Q R h k;refine ha Γ O H ρ σ S r0 _ _ h λΓ1 O1 H1 x v l1 S1 rx h1=>?_;refine hb Γ1 O1 H1 ρ σ S1 (r0.mono l1) _ _ h1 λΓ2 O2 H2 y u l2 S2 ry h2=>?_;refine hr Γ2 O2 H2 x y v u S2 (rx.mono l2) ry _ _ h2 λΓ3 O3 H3 w z l3 S3 rz h3=>?_;split at h3
 .rename_i c
  refine⟨c,rz,?_⟩;have l13:=(l1.trans l2).trans l3;cases c with
  |true=>
   rw[if_pos rfl]at h3 ⊢;refine hc _ _ _ _ _ S3 (r0.mono l13) _ _ h3 λΓ4 O4 H4 q z4 l4 S4 r4 h4=>?_;exact hr' _ _ _ _ _ _ _ S4 (ry.mono (l3.trans l4)) r4 _ _ h4 λΓ5 O5 H5 w5 z5 l5 S5 r5 h5=>k _ _ _ _ _ ((l13.trans l4).trans l5) S5 r5 h5
  |false=>rw[if_neg (by decide)]at h3 ⊢;exact k _ _ _ _ _ l13 S3 yW h3
 .exact h3.elim
noncomputable def xh(K:W.Frag)(Ta:TEW)(f:Str):TEW:=λρ O R=>Ta ρ O λx O1=>match x with
 |.own a=>∃C dx fs,O1 a=some (.ins C dx fs)/\Cls K C/\NoAttr K C f/\∃w,fs.lookup f=some w/\R w O1
 |_=>False
theorem ziv{Ta:TEW}{f:Str}(ha:RefE K ta Ta):RefE K (J8 K ta f) (xh K Ta f):=by
 intro Γ O H ρ σ S r0 Q R hT k;refine ha Γ O H ρ σ S r0 _ _ hT λΓ1 O1 H1 x v l1 S1 rx h1=>?_;split at h1
 .obtain⟨C,dx,fs,ho,c,na,w,e,h1⟩:=h1
  obtain⟨_,vs,q1,q2⟩:=S1.o _ _ ho;obtain⟨u,e',ru⟩:=(Yl q2).2 w e;exact⟨_,C,dx,vs,u,rx,q1,c,na,e',k _ _ _ _ _ l1 S1 ru h1⟩
 .exact h1.elim
noncomputable def VG(K:W.Frag)(Ta Tv:TEW)(f:Str):TSW:=λD ρ O=>Tv ρ O λy O1=>Ta ρ O1 λx O2=>match x with
 |.own a=>∃C dx fs,O2 a=some (.ins C dx fs)/\Cls K C/\NoAttr K C f/\fs.length<1000/\D.nx ρ (updO O2 a (.ins C dx (yo f y fs)))
 |_=>False
theorem zgd{tv:TE}{Ta Tv:TEW}{f:Str}(ha:RefE K ta Ta)(hv:RefE K tv Tv):RefS K (J9 K ta tv f) (VG K Ta Tv f):=by
 intro Γ O H ρ σ D DW S r0 hT e;refine hv Γ O H ρ σ S r0 _ _ hT λΓ1 O1 H1 y u l1 S1 ry h1=>?_;refine ha _ _ _ _ _ S1 (r0.mono l1) _ _ h1 λΓ2 O2 H2 x v l2 S2 rx h2=>?_;split at h2
 .obtain⟨C,dx,fs,ho,c,na,hl,h2⟩:=h2
  obtain⟨_,vs,q1,q2⟩:=S2.o _ _ ho;refine⟨_,C,dx,vs,rx,q1,c,na,by rw[<-Paired.length q2];exact hl,?_⟩;exact e.nx _ _ _ _ _ (l1.trans l2) (S2.put (oo:=.ins C dx _) ho (by intro _ h;cases h) (by intro _ h;cases h) ⟨_,zX,Ku (ry.mono l2) q2⟩) (r0.mono (l1.trans l2)) h2
 .exact h2.elim
noncomputable def zbn(Td Ty:TEW):TEW:=λρ O R=>Td ρ O λx O1=>Ty ρ O1 λy O2=>match x,kj y with
 |.own a,some k=>∃kvs,O2 a=some (.dK kvs)/\∃w,kl kvs k=some w/\R w O2
 |_,_=>False
noncomputable def UB(Td Ty Tv:TEW):TSW:=λD ρ O=>Tv ρ O λw O1=>Td ρ O1 λx O2=>Ty ρ O2 λy O3=>match x,kj y with
 |.own a,some k=>∃kvs,O3 a=some (.dK kvs)/\kvs.length<1000/\D.nx ρ (updO O3 a (.dK (uI kvs k w)))
 |_,_=>False
theorem zdw{td ty tv:TE}{Td Ty Tv:TEW}(hd:RefE K td Td)(hy:RefE K ty Ty)(hv:RefE K tv Tv):RefS K (za3 td ty tv) (UB Td Ty Tv):=by
 intro Γ O H ρ σ D DW S r0 hT e;refine hv Γ O H ρ σ S r0 _ _ hT λΓ1 O1 H1 w z l1 S1 rw h1=>?_;refine hd _ _ _ _ _ S1 (r0.mono l1) _ _ h1 λΓ2 O2 H2 x v l2 S2 rx h2=>?_;refine hy _ _ _ _ _ S2 (r0.mono (l1.trans l2)) _ _ h2 λΓ3 O3 H3 y u l3 S3 ry h3=>?_;split at h3
 .rename_i ky ek
  obtain⟨kvs,ho,hl,h3⟩:=h3;obtain⟨_,vs,q1,q2⟩:=S3.o _ _ ho;refine⟨_,vs,ky,rx,q1,Y7 ry ek,by rw[<-Paired.length q2];exact hl,?_⟩;have l13:=(l1.trans l2).trans l3;exact e.nx _ _ _ _ _ l13 (S3.put (oo:=.dK _) ho (by intro _ h;cases h) (by intro _ h;cases h) ⟨_,zX,XU ((rw.mono l2).mono l3) q2⟩) (r0.mono l13) h3
 .exact h3.elim
noncomputable def vI2(g:Int->Int->Int):List W->OM->WK->Prop:=λxs O R=>match xs with
 |[.d (.int i),.d (.int j)]=>R (.d (.int (g i j))) O
 |_=>False
theorem zkk{g:Int->Int->Int}:RefC K (λxs H Q=>∃i j,xs=[.int i,.int j]/\Q (.int (g i j)) H) (vI2 g):=zkP.weak λx O R h=>by
 unfold vI2 at h;split at h
 .exact⟨_,_,rfl,h⟩
 .exact h.elim
end L2
namespace PySem
open Sem (wp)
section
variable {w:World}
variable {z TI TO i1 i2:Addr}{fp1 fp2:List Addr}{n1 n2:Nat}{P1 P2:Nat->Value->Prop}{St1 St2:Nat->Heap->Prop}
end
section
variable {w:World}
end
end PySem
namespace L2
open PySem PySem.Spec PyProof.Rows
theorem ku:∀{zs:List Str}{us:List Value},Vals (zs.map V.str) us->StrsAre us zs
 |[],_,.nil=>.nil
 |z::zs,_,.cons r t=>by
  obtain⟨k,rfl⟩:=r;exact .cons z k (ku t)
noncomputable def KH(K:W.Frag):V->List V->Hp->VK->Prop:=λx xs H Q=>∃sep a zs,x=.str sep/\xs=[.ref a]/\SqL K H a (zs.map .str)/\sep.length<=16/\(zs.map (·.length)).sum+zs.length<=1048576/\Q (.str (Txt.join sep zs)) H
theorem zge:MtR X "str.join" (KH X.K):=by
 intro pins s σ H x xs v us Q I rx r h;obtain⟨sep,a,zs,rfl,rfl,hq,hs,hw,q⟩:=h;obtain⟨u,rfl,ru⟩:=r.one;cases ru;obtain⟨t,rfl⟩:=rx;obtain⟨its,rv,p,hz⟩:=I.list hq;exact join_listW p.isList (ku rv) hs hw λt' k=>⟨.str _,H,I.tok _,⟨_,rfl⟩,q⟩
noncomputable def zeT:R2:=λx y H Q=>∃z n,x=.str z/\y=.int n/\MulOk z n/\Q (.str (Txt.mul z n)) H
theorem zgf:OpR X (binaryOp .Mult) zeT:=by
 intro pins s σ H x y v u Q I rx ry h;obtain⟨z,n,rfl,rfl,hok,q⟩:=h;obtain⟨t,rfl⟩:=rx;obtain⟨t',rfl⟩:=ry;exact SB.mul hok λt' k=>⟨.str _,H,I.tok _,⟨_,rfl⟩,q⟩
theorem XX:∀{bs:List Bool}{us:List Value}{i:Nat}{v:Value},Vals (bs.map V.bl) us->us[i]? =some v->∃b,bs[i]? =some b/\v=.bool b
 |[],_,_,_,.nil,e=>by simp at e
 |b::bs,_,0,v,.cons r t,e=>⟨b,rfl,by simp at e;subst e;exact r⟩
 |b::bs,_,i+1,v,.cons r t,e=>by
  simp only[List.getElem?_cons_succ]at e ⊢;exact XX t e
theorem KI(bs:List Bool):((List.range bs.length).any λi=>(bs[i]?).getD false)=bs.any id:=by
 induction bs with
 |nil=>rfl
 |cons b bs ih=>simp only[List.length_cons,List.range_succ_eq_map,List.any_cons,List.any_map];rw[<-ih];rfl
noncomputable def zdx(K:W.Frag):List V->Hp->VK->Prop:=λxs H Q=>∃a,∃bs:List Bool,xs=[.ref a]/\SqL K H a (bs.map .bl)/\Q (.bl (bs.any id)) H
theorem zbo(hc:X.calm=true):yv X (.builtin "any") (zdx X.K):=by
 intro pins s σ H xs us Q I r h;obtain⟨a,bs,rfl,hq,q⟩:=h;obtain⟨u,rfl,ru⟩:=r.one;cases ru;obtain⟨its,rv,p,hz⟩:=I.list hq;have hl:=p.isList;have hlt:a<s.heap.objs.size:=by obtain⟨_,e,_⟩:=hl;exact Heap.lt_size e
 have len:=rv.length;rw[List.length_map]at len;refine call_any_walk (wpAny_pyIter_list hl ?_);refine⟨_,_,_,_,_,_,λi=>(bs[i]?).getD false,rfl,Walks.list (A:=X.A.in1) (I.ok.hd hc) _ a (Nat.ne_of_lt hlt) _,⟨⟨_,Heap.get?_push_size _ rfl,rfl,rfl⟩,hl.push _⟩,λi v s1 Q1 E1 hP hQ=>?_,λh1 tk hk=>?_⟩
 .obtain⟨b,e,rfl⟩:=XX rv (by simpa using hP)
  simp only[e,Option.getD_some]at hQ;exact wpAny_truthy_bool hQ
 .have e:=KI bs
  rw[len]at e;rw[show((List.range its.toArray.size).any λi=>(bs[i]?).getD false)=bs.any id by simpa using e];exact⟨.bl _,H,I.kept (t':=tk) (LSm.kept_iter hk),rfl,q⟩
theorem zbp:yv X (.type "int") (λxs H Q=>∃z n,xs=[.str z]/\intText? z=some n/\z.length<=640/\Q (.int n) H):=by
 intro pins s σ H xs us Q I r h;obtain⟨z,n,rfl,hn,hl,q⟩:=h;obtain⟨u,rfl,t,rfl⟩:=uF r;exact PySem.W.KIN.call_text hn hl ⟨.int n,H,I.tok _,⟨_,rfl⟩,q⟩
noncomputable def Its(x:Str):It:=⟨λi _=>i<x.cps.size,λi H v H'=>H'=H/\∃c,x.cps[i]? =some c/\v=.str ⟨#[c]⟩,λi _=>x.cps.size<=i⟩
theorem KJ{w:World}(x:Str)(t:Tok)(it:Addr):Turn P w K tg (Its x) [it] it (λi h=>h.IsStrIter it "str_ascii_iterator" x t i) where
 mem:=List.mem_singleton.mpr rfl
 obj:=λi h st b hb=>by
  cases List.mem_singleton.mp hb;obtain⟨o,e,c,d⟩:=st;exact⟨o,e,λv z=>by rw[d]at z;cases z⟩
 keep:=λi h h' st k=>let⟨o,ho,r⟩:=st;⟨o,k it (List.mem_singleton.mpr rfl) o ho,r⟩
 item:=by
  intro X hP hw hK hc i pins s σ H E I hf st hg;subst hP hw hK;obtain⟨f0,f1,f2,f3,f4,f5⟩:=hf it (List.mem_singleton.mpr rfl);have hi:i<x.cps.size:=hg;refine wpAny_pyNext_ascii_item st (c:=x.cps[i]) (by simp[hi]) λh1 st1 sb=>?_;have I1:Inv X pins σ H { s with heap:=h1,toks:=s.toks+1 }:=I.turned (t':=s.toks+1) (λb o hb e=>(sb.2 b hb).trans e) f0 f1 f3 f4 f5;obtain⟨o,e,c,d⟩:=id st1;exact⟨_,rfl,Ze (s:={ s with heap:=h1,toks:=s.toks+1 }) e c d (by decide) ⟨.str ⟨#[x.cps[i]]⟩,H,I1,⟨_,rfl⟩,⟨rfl,_,by simp[hi],rfl⟩,st1,λb hb=>(hf b hb).1⟩⟩
 done:=by
  intro X hP hw hK hc i pins s σ H E I hf st hg;subst hP hw hK;obtain⟨f0,f1,f2,f3,f4,f5⟩:=hf it (List.mem_singleton.mpr rfl);have hi:x.cps.size<=i:=hg;exact wpAny_pyNext_ascii_end (I.ok.hd hc) st (by simp[hi]) λh1 eb=>⟨rfl,I.turned (t':=s.toks) (λb o hb e=>eb b o hb e) f0 f1 f3 f4 f5⟩
 self:=λ_ _ _ _ _ st h=>wpAny_pyIter_striter_ascii st h
noncomputable def ziw(tl:TE):TI:=λσ H R=>tl σ H λv H1=>∃x,v=.str x/\x.cps.all (· < 128)=true/\R (Its x) H1
theorem zix{l:Expr}{tl:TE}(hl:PE X l tl):PI X tg l (ziw tl):=by
 intro pins s σ H R I h;refine thn (hl pins s σ H _ I h) λv s1 ⟨y,H1,I1,r1,q1⟩=>?_;obtain⟨x,rfl,ha,q⟩:=q1;obtain⟨t,rfl⟩:=r1;refine wpAny_pyIter_ascii ha ⟨s1.heap.objs.size,[s1.heap.objs.size],_,_,H1,rfl,I1.kept (t':=s1.toks) λb o e=>Heap.get?_push_of_some _ e,KJ x t _,⟨_,Heap.get?_push_size _ rfl,rfl,rfl⟩,λb hb=>?_,q⟩;cases List.mem_singleton.mp hb;exact I1.fpOk (Nat.le_refl _) (I1.hok.fresh (Nat.le_refl _))
noncomputable def zbq:V->List V->Hp->VK->Prop:=λx xs H Q=>∃z y,x=.str z/\xs=[.str y]/\(y.length==0)=false/\z.length<=1000000/\∀p,H p=none->Q (.ref p) (upd H p (.lst ((Txt.split z y).map .str)))
theorem XY:∀{l:List (Str×Tok)}{zs:List Str},l.map (·.1)=zs->Vals (zs.map V.str) (strValues l)
 |[],_,rfl=>.nil
 |(z,t)::l,_,rfl=>.cons ⟨t,rfl⟩ (XY rfl)
theorem zdy:MtR X "str.split" zbq:=by
 intro pins s σ H x xs v us Q I rx r h;obtain⟨z,y,rfl,rfl,hy,hz,q⟩:=h;obtain⟨u,rfl,t,rfl⟩:=uF r;obtain⟨t',rfl⟩:=rx;have hsz:z.length<=sizeLine:=by rw[sizeLine_eq];omega
 have hsp:=split_le z y;have fin:∀(l:List (Str×Tok)) (k:Tok),l.map (·.1)=Txt.split z y->EP X pins σ Q (.ref s.heap.objs.size) { s with toks:=k,heap:=s.heap.push { cls:=.type "list",data:=.seq (strValues l).toArray } }:=λl k e=>by
  have len:((Txt.split z y).map V.str).length<=sizeLine:=by rw[List.length_map,sizeLine_eq];omega
  exact⟨.ref s.heap.objs.size,_,I.laid (t':=k) (o:=.lst ((Txt.split z y).map .str)) (λb ob g=>Heap.get?_push_of_some _ g) (Nat.le_refl _) ⟨len,strValues l,0,XY e,Heap.get?_push_size _ rfl⟩,rfl,q _ (I.hok.fresh (Nat.le_refl _))⟩
 cases h1:(decide (z.length<y.length)||decide (Builtin.Str.strKind z<Builtin.Str.strKind y))with
 |true=>
  have e:[z]=Txt.split z y:=(if_pos h1).symm;refine call_meets PySem.F.slot_str_split (typeIs_str _ _ _) PySem.F.entry_str_split ?_ (meets_str_split_cannot_occur z y t' t h1) ?_
  .exact PySem.F.args_str_split_2 _ _
  .exact fin [(z,t')] s.toks e
 |false=>
  cases hf:(Builtin.Str.occurrences z y 0 z.length (z.length+1)).isEmpty with
  |true=>
   have e:[z]=Txt.split z y:=((if_neg (by rw[h1];decide)).trans (if_pos hf)).symm;refine call_meets PySem.F.slot_str_split (typeIs_str _ _ _) PySem.F.entry_str_split ?_ (meets_str_split_not_found z y t' t h1 hy hf) ?_
   .exact PySem.F.args_str_split_2 _ _
   .exact fin [(z,t')] s.toks e
  |false=>
   have e:Builtin.Str.partsBetween z (Builtin.Str.occurrences z y 0 z.length (z.length+1)) y.length=Txt.split z y:=((if_neg (by rw[h1];decide)).trans (if_neg (by rw[hf];decide))).symm;refine call_meets PySem.F.slot_str_split (typeIs_str _ _ _) PySem.F.entry_str_split ?_ (meets_str_split_sep z y t' t h1 hy hf hsz ?_) ?_
   .exact PySem.F.args_str_split_2 _ _
   .rw[e,sizeLine_eq];omega
   .show wants _ _ _ _
    rw[strsFrom_eq];exact fin (numbered s.toks _) _ ((numbered_texts _ _).trans e)
theorem ziy(h:X.K=K)(hc:X.calm=true):yv X (.builtin "any") (zdx K):=by subst h;exact zbo hc
theorem Zq(h:X.K=K):MtR X "str.join" (KH K):=by subst h;exact zge
noncomputable def qA(z:Str):W:=.d (.str z)
theorem XZ:∀{zs:List Str}{vs:List V},relWs K Γ (zs.map qA) vs->vs=zs.map V.str
 |[],_,.nil=>rfl
 |z::zs,_,.cons r t=>by rw[XZ t,show _=V.str z from r];rfl
theorem Ys:∀{bs:List Bool}{vs:List V},relWs K Γ (bs.map λb=>.d (.bool b)) vs->vs=bs.map V.bl
 |[],_,.nil=>rfl
 |b::bs,_,.cons r t=>by rw[Ys t,show _=V.bl b from r];rfl
noncomputable def zeU:W->List W->OM->WK->Prop:=λx xs O R=>∃sep w,∃zs:List Str,x=.d (.str sep)/\xs=[w]/\yc O w=some (zs.map qA)/\sep.length<=16/\(zs.map (·.length)).sum+zs.length<=1048576/\R (.d (.str (Txt.join sep zs))) O
theorem ziz{T:String}:RefM K T (KH K) zeU:=by
 rintro Γ O H x v xs vs S rx rs Q R ⟨sep,w,zs,rfl,rfl,e,h1,h2,h⟩ k;cases rs with
 |cons rw t=>
  cases t;obtain⟨a,us,rfl,q1,q2⟩:=yC S rw e;rw[XZ q2]at q1;exact⟨sep,a,zs,rx,rfl,q1,h1,h2,k _ _ _ _ _ (Le.refl _) S xQ h⟩
noncomputable def zbr:W->List W->OM->WK->Prop:=λx xs O R=>∃z y,x=.d (.str z)/\xs=[.d (.str y)]/\(y.length==0)=false/\z.length<=1000000/\R (.d (.list ((Txt.split z y).map .str))) O
theorem X0{Z:Hp}:∀zs:List Str,Reps K Z (zs.map PyData.str) (zs.map V.str)
 |[]=>rfl
 |z::zs=>⟨_,_,rfl,rfl,X0 zs⟩
theorem zgg{T:String}:RefM K T zbq zbr:=by
 rintro Γ O H x v xs vs S rx rs Q R ⟨z,y,rfl,rfl,h1,h2,h⟩ k;cases rs with
 |cons rw t=>
  cases t;refine⟨z,y,rx,by rw[show _=V.str y from rw],h1,h2,λp hp=>?_⟩;obtain⟨Γ',le,S',r'⟩:=jd S (X0 (Txt.split z y)) hp;exact k _ _ _ _ _ le S' r' h
noncomputable def zeV:R2W:=λx y O R=>∃z n,x=.d (.str z)/\y=.d (.int n)/\MulOk z n/\R (.d (.str (Txt.mul z n))) O
theorem ziA:RefR K zeT zeV:=by
 rintro Γ O H x y v u S rx ry Q R ⟨z,n,rfl,rfl,h1,h⟩ k;exact⟨z,n,rx,ry,h1,k _ _ _ _ _ (Le.refl _) S xQ h⟩
noncomputable def zeW:List W->OM->WK->Prop:=λxs O R=>∃w,∃bs:List Bool,xs=[w]/\yc O w=some (bs.map λb=>.d (.bool b))/\R (.d (.bool (bs.any id))) O
theorem zkl:RefC K (zdx K) zeW:=by
 rintro Γ O H xs vs S rs Q R ⟨w,bs,rfl,e,h⟩ k;cases rs with
 |cons rw t=>
  cases t;obtain⟨a,us,rfl,q1,q2⟩:=yC S rw e;rw[Ys q2]at q1;exact⟨a,bs,rfl,q1,k _ _ _ _ _ (Le.refl _) S yW h⟩
noncomputable def zeX:List W->OM->WK->Prop:=λxs O R=>∃z n,xs=[.d (.str z)]/\intText? z=some n/\z.length<=640/\R (.d (.int n)) O
theorem ziB:RefC K (λxs H Q=>∃z n,xs=[.str z]/\intText? z=some n/\z.length<=640/\Q (.int n) H) zeX:=by
 rintro Γ O H xs vs S rs Q R ⟨z,n,rfl,h1,h2,h⟩ k;cases rs with
 |cons rw t=>
  cases t;exact⟨z,n,by rw[show _=V.str z from rw],h1,h2,k _ _ _ _ _ (Le.refl _) S xl h⟩
noncomputable def jC(x:Str):List W:=x.cps.toList.map λc=>.d (.str ⟨#[c]⟩)
noncomputable def ziC(T:TEW):TIW:=λρ O R=>T ρ O λw O1=>∃x,w=.d (.str x)/\x.cps.all (· < 128)=true/\R (jC x) (λ_=>True) O1
theorem zdz{t:TE}{T:TEW}(h:RefE K t T):vp K (ziw t) (ziC T):=by
 intro Γ O H ρ σ S r Q R hT k;refine h _ _ _ _ _ S r _ _ hT λΓ1 O1 H1 w v l1 S1 r1 h1=>?_;obtain⟨x,rfl,ha,h1⟩:=h1;refine⟨x,r1,ha,k _ _ _ _ _ _ l1 S1 (λi Γ' O' H' hz hg S' _=>⟨λw' hw=>?_,λhi=>?_⟩) h1⟩
 .unfold jC at hw
  rw[List.getElem?_map]at hw;cases hc:x.cps.toList[i]? with
  |none=>rw[hc]at hw;cases hw
  |some c=>
   rw[hc]at hw;cases hw;have hi:i<x.cps.size:=by
    have:=(List.getElem?_eq_some_iff.mp hc).1;simpa using this
   refine⟨hi,λy H2 ⟨e2,d,hd,hy⟩=>?_⟩;subst e2;have:d=c:=by
    have h3:x.cps.toList[i]? =some d:=by rw[Array.getElem?_toList];exact hd
    rw[hc]at h3;cases h3;rfl
   subst this;exact⟨Γ',Le.refl _,S',by rw[hy];exact xQ⟩
 .show x.cps.size<=i
  rw[hi];simp[jC]
noncomputable def ziD:R2:=λx y H Q=>∃i j,x=.str i/\y=.str j/\Q (.bl (!decide (j.cps.toList<i.cps.toList))) H
theorem vg:OpR X (compareOp .LtE) ziD:=by
 intro pins s σ H x y v u Q I rx ry h;obtain⟨i,j,rfl,rfl,q⟩:=h;obtain⟨t,rfl⟩:=rx;obtain⟨t',rfl⟩:=ry;exact PySem.P.le_str (yg I q rfl)
noncomputable def ziE:R2W:=λx y O R=>∃i j,x=.d (.str i)/\y=.d (.str j)/\R (.d (.bool (!decide (j.cps.toList<i.cps.toList)))) O
theorem zkm:RefR K ziD ziE:=by
 rintro Γ O H x y v u S rx ry Q R ⟨i,j,rfl,rfl,h⟩ k;exact⟨i,j,rx,ry,k _ _ _ _ _ (Le.refl _) S yW h⟩
noncomputable def ziF:V->Option Int->Option Int->Hp->VK->Prop:=λx lo hi H Q=>∃z,x=.str z/\z.length<=sizeLine/\Q (.str (Txt.slice z lo hi)) H
theorem zgh:SlR X ziF:=by
 intro pins s σ H x v vl vu lo hi sl Q I rx hs pl pu h;obtain⟨z,rfl,hz,q⟩:=h;obtain⟨t,rfl⟩:=rx;refine⟨"str",_,PySem.F.slot_str_getitem.lookup,typeIs_str _ _ _,?_⟩;have fin:∀tk k,EP X pins σ Q (.str (Txt.slice z lo hi) tk) { s with toks:=k }:=λtk k=>⟨.str _,H,I.tok _,⟨_,rfl⟩,q⟩;cases pl with
 |none=>cases pu with
  |none=>exact wpAny_getItem_str_slice (l:=none) (u:=none) (st:=none) hs rfl (post_val_or_str ⟨Nat.le_trans (Txt.slice_le z _ _) hz,fin⟩)
  |int j uj=>exact wpAny_getItem_str_slice (l:=none) (u:=some (j,uj)) (st:=none) hs rfl (post_val_or_str ⟨Nat.le_trans (Txt.slice_le z _ _) hz,fin⟩)
 |int i ui=>cases pu with
  |none=>exact wpAny_getItem_str_slice (l:=some (i,ui)) (u:=none) (st:=none) hs rfl (post_val_or_str ⟨Nat.le_trans (Txt.slice_le z _ _) hz,fin⟩)
  |int j uj=>exact wpAny_getItem_str_slice (l:=some (i,ui)) (u:=some (j,uj)) (st:=none) hs rfl (post_val_or_str ⟨Nat.le_trans (Txt.slice_le z _ _) hz,fin⟩)
noncomputable def ziG(Te:TEW)(Tl Th:TOW):TEW:=λρ O R=>Te ρ O λx O1=>Tl ρ O1 λl O2=>Th ρ O2 λu O3=>∃z,x=.d (.str z)/\z.length<=sizeLine/\R (.d (.str (Txt.slice z l u))) O3
theorem zgi{te:TE}{tl th:TO}{Te:TEW}{Tl Th:TOW}(he:RefE K te Te)(hl:kn K tl Tl)(hh:kn K th Th):RefE K (tSl ziF te tl th) (ziG Te Tl Th):=by
 intro Γ O H ρ σ S r Q R hT k;refine he _ _ _ _ _ S r _ _ hT λΓ1 O1 H1 x v l1 S1 rx h1=>?_;refine hl _ _ _ _ _ S1 (r.mono l1) _ _ h1 λΓ2 O2 H2 l l2 S2 h2=>?_;refine hh _ _ _ _ _ S2 (r.mono (l1.trans l2)) _ _ h2 λΓ3 O3 H3 u l3 S3 h3=>?_;obtain⟨z,rfl,hz,h3⟩:=h3;exact⟨z,rx,hz,k _ _ _ _ _ ((l1.trans l2).trans l3) S3 xQ h3⟩
noncomputable def JI:W->List W->OM->WK->Prop:=λx xs O R=>∃l b ws us,x=.own l/\xs=[.own b]/\O l=some (.lst ws)/\O b=some (.lst us)/\ws.length+us.length<=10000000/\R (.d .none) (updO O l (.lst (ws++us)))
theorem zdA{T:String}:RefM K T Jw JI:=by
 rintro Γ O H x v xs vs S rx rs Q R ⟨l,b,ws,us,rfl,rfl,hl,hb,hn,h⟩ k;cases rs with
 |cons rw t=>
  cases t;cases(show v=.ref l from rx);obtain⟨_,vl,q1,q2⟩:=S.o _ _ hl;obtain⟨_,vb,p1,p2⟩:=S.o _ _ hb;refine⟨l,b,vl,vb,rfl,by rw[show _=V.ref b from rw],q1,p1,by rw[<-Paired.length q2,<-Paired.length p2,sizeLine_eq];omega,?_⟩;exact k _ _ _ _ _ (Le.refl _) (S.put (oo:=.lst _) hl (by intro _ h;cases h) (by intro _ h;cases h) ⟨_,zX,Paired.appP q2 p2⟩) vK h
noncomputable def UC(Ta:TEW):TEW:=λρ O R=>Ta ρ O λx O1=>∃a ws,x=.own a/\O1 a=some (.lst ws)/\R (.d (.bool true)) O1
theorem zgj{Ta:TEW}(h:RefE K ta Ta):RefE K (tCB (Kv K) (xZ ta (xZ (tC (.ty "list")) uh))) (UC Ta):=by
 intro Γ O H ρ σ S r Q R hT k;refine h _ _ _ _ _ S r _ _ hT λΓ1 O1 H1 x v l1 S1 rx h1=>?_;obtain⟨a,ws,rfl,ho,h1⟩:=h1;cases(show v=.ref a from rx);obtain⟨_,vs,q1,_⟩:=S1.o _ _ ho;exact⟨_,_,_,true,rfl,.lst q1,rfl,k _ _ _ _ _ l1 S1 yW h1⟩
noncomputable abbrev Rw6:=List Cel
noncomputable def zk4(c:Cel):Prop:=∃k,32<=k/\k<=126/\c.1=⟨#[k]⟩
noncomputable def okR(r:Rw6):Prop:=∀c∈r,zk4 c
noncomputable abbrev T3:=Nat×Nat×Int
structure OwnAt (O:OM) (d q:Addr) (S:ST):Prop where
 d:O d=some (.dK (ownW q S))
 q:O q=some (.grid (genG S.h S.w S.pic))
noncomputable def PicOk(S:ST):Prop:=∀i j,i<S.h->j<S.w->okC (S.pic i j)
noncomputable def InWin(S:ST):Prop:=S.home=true->S.top<=S.row/\S.row<=S.bottom/\S.left<=S.col/\S.col<=S.right
section
variable {O':OM}{d q:Addr}
end
structure Both (O:OM) (C x dx p st kp d q:Addr) (S S':ST):Prop where
 s:StAt O C x dx p st kp S
 o:OwnAt O d q S'
 ds:d≠st
 pq:p≠q
section
variable {O':OM}{x st kp d q:Addr}{S' S1:ST}
end
noncomputable def AllOk(S:ST):Prop:=PicOk S/\SeqAt.shaped S.last=true/\PyData.eqv S.last S.last=true
structure Drawn (S:ST):Prop where
 b:Bds S
 ok:PicOk S
 win:InWin S
 last:S.last=.none\/∃c,S.last=.str c/\S.pic S.row.toNat S.col.toNat=(c,S.ink)
 late:S.late=true->S.col=eR S/\S.last≠.none
theorem ziH{c:Str}(h:PyData.strOk c=true):SeqAt.shaped (.str c)=true/\PyData.eqv (.str c) (.str c)=true:=
 ⟨by simp[SeqAt.shaped,PyData.canLay0,PyData.depth,h],by simp[PyData.eqv]⟩
noncomputable def sRight(C:Addr):SpW:=λws O R=>∃x dx p st kp d q S,ws=[.own x,.own d]/\Both O C x dx p st kp d q S S/\Bds S/\AllOk S/\R (.d (.bool true)) O
end L2
namespace L2
end L2
namespace L2
open PySem PySem.Spec PyProof.Rows
noncomputable def Old(O O':OM):Prop:=∀b,O b≠none->O' b=O b
theorem Old.refl:Old O O:=λ_ _=>rfl
theorem Old.upd{O':OM}{o:OO}(h:Old O O')(ha:O a=none):Old O (updO O' a o):=λb hb=>by
 rw[ze (λe=>by rw[e]at hb;exact hb ha)];exact h b hb
section
variable {q:Addr}{a b:Int}{u:Bool}{l:PyData}
end
theorem PicOk.set{j:Nat}{c:Str}{k:Int}(h:PicOk S)(hc:PyData.strOk c=true):PicOk { S with pic:=setF S.pic i j (c,k) }:=by
 intro x y hx hy;show okC (setF S.pic i j (c,k) x y);unfold setF;split
 .exact hc
 .exact h x y hx hy
theorem PicOk.mv{t b l r dn ac:Int}(h:PicOk S)(h0:0<=t)(hb:b<S.h)(hl:0<=l)(hr:r<S.w):PicOk (mvS t b l r dn ac S):=by
 intro x y hx hy;show okC (mvP S.pic S.ink t b l r dn ac x y);unfold mvP;split
 .split
  .exact h _ _ (by simp only[mvS]at *;omega) (by simp only[mvS]at *;omega)
  .show PyData.strOk (Str.ofString " ")=true
   decide +kernel
 .exact h x y hx hy
noncomputable def jnL:List (List Nat)->List Nat
 |[]=>[]
 |[a]=>a
 |a::b::r=>a++59::jnL (b::r)
theorem zeY:∀{a b x y:List Nat},59∉a->59∉b->a++59::x=b++59::y->a=b/\x=y
 |[],[],x,y,_,_,e=>⟨rfl,by simpa using e⟩
 |[],c::b,x,y,_,hb,e=>by
  simp at e;exact absurd (by rw[<-e.1];exact List.mem_cons_self) hb
 |c::a,[],x,y,ha,_,e=>by
  simp at e;exact absurd (by rw[e.1];exact List.mem_cons_self) ha
 |c::a,d::b,x,y,ha,hb,e=>by
  simp at e;obtain⟨h1,h2⟩:=zeY (λz=>ha (List.mem_cons_of_mem _ z)) (λz=>hb (List.mem_cons_of_mem _ z)) e.2;exact⟨by rw[e.1,h1],h2⟩
theorem Xa:∀{A B:List (List Nat)},A≠[]->B≠[]->(∀a∈A,59∉a)->(∀b∈B,59∉b)->jnL A=jnL B->A=B
 |[],_,h,_,_,_,_=>absurd rfl h
 |_,[],_,h,_,_,_=>absurd rfl h
 |[a],[b],_,_,_,_,e=>by rw[show a=b from e]
 |[a],b::c::s,_,_,ha,_,e=>by
  have e:a=b++59::jnL (c::s):=e;exact absurd (by rw[e];simp) (ha a List.mem_cons_self)
 |a::d::r,[b],_,_,_,hb,e=>by
  have e:a++59::jnL (d::r)=b:=e;exact absurd (by rw[<-e];simp) (hb b List.mem_cons_self)
 |a::d::r,b::c::s,_,_,ha,hb,e=>by
  have e:a++59::jnL (d::r)=b++59::jnL (c::s):=e;obtain⟨h1,h2⟩:=zeY (ha a List.mem_cons_self) (hb b List.mem_cons_self) e;rw[h1,Xa (A:=d::r) (B:=c::s) (by simp) (by simp) (λz hz=>ha z (List.mem_cons_of_mem _ hz)) (λz hz=>hb z (List.mem_cons_of_mem _ hz)) h2]
noncomputable def spS(r:List (List Nat)×List Nat)(c:Nat):List (List Nat)×List Nat:=if c= 59 then(r.1++[r.2],[])else(r.1,r.2++[c])
noncomputable def spF(cs:List Nat):List (List Nat)×List Nat:=cs.foldl spS ([],[])
theorem zdB{cs:List Nat}{c:Nat}:spF (cs++[c])=spS (spF cs) c:=by unfold spF;rw[List.foldl_append];rfl
theorem Yt:∀{A:List (List Nat)},A≠[]->jnL (A++[[]])=jnL A++[59]
 |[],h=>absurd rfl h
 |[a],_=>rfl
 |a::b::r,_=>by
  show a++59::jnL ((b::r)++[[]])=(a++59::jnL (b::r))++[59];rw[Yt (by simp)];simp
theorem UD:∀{A:List (List Nat)}{w:List Nat}{c:Nat},jnL (A++[w++[c]])=jnL (A++[w])++[c]
 |[],w,c=>rfl
 |[a],w,c=>by
  show a++59::(w++[c])=(a++59::w)++[c];simp
 |a::b::r,w,c=>by
  show a++59::jnL ((b::r)++[w++[c]])=(a++59::jnL ((b::r)++[w]))++[c];rw[UD (A:=b::r)];simp
theorem zbs(cs:List Nat):jnL ((spF cs).1++[(spF cs).2])=cs/\(∀a∈(spF cs).1++[(spF cs).2],59∉a):=by
 have key:∀n,∀cs:List Nat,cs.length=n->jnL ((spF cs).1++[(spF cs).2])=cs/\(∀a∈(spF cs).1++[(spF cs).2],59∉a):=by
  intro n
  induction n with
  |zero=>
   intro cs h;cases List.length_eq_zero_iff.mp h;exact⟨rfl,λa ha=>by cases List.mem_singleton.mp ha;exact List.not_mem_nil⟩
  |succ n ih=>
   intro cs h;obtain⟨ds,c,rfl⟩:∃ds c,cs=ds++[c]:=⟨cs.dropLast,cs.getLast (by intro z;rw[z]at h;cases h),(List.dropLast_concat_getLast _).symm⟩;obtain⟨h1,h2⟩:=ih ds (by simpa using h);rw[zdB];unfold spS;by_cases hc:c= 59
   .rw[if_pos hc]
    refine⟨?_,λa ha=>?_⟩
    .show jnL (((spF ds).1++[(spF ds).2])++[[]])=_
     rw[Yt (by simp),h1,hc]
    .rcases List.mem_append.mp ha with ha|ha
     .exact h2 a ha
     .cases List.mem_singleton.mp ha;exact List.not_mem_nil
   .rw[if_neg hc]
    refine⟨by rw[UD,h1],λa ha=>?_⟩;rcases List.mem_append.mp ha with ha|ha
    .exact h2 a (List.mem_append_left _ ha)
    .cases List.mem_singleton.mp ha
     intro m;rcases List.mem_append.mp m with m|m
     .exact h2 _ (List.mem_append_right _ (List.mem_singleton.mpr rfl)) m
     .exact hc (List.mem_singleton.mp m).symm
 exact key _ cs rfl
noncomputable def xU:Str:=⟨#[59]⟩
theorem xn{a b:Str}:(a++b).cps.toList=a.cps.toList++b.cps.toList:=by
 show(a.cps++b.cps).toList=_;simp
theorem qq:∀ps:List Str,(Str.join xU ps).cps.toList=jnL (ps.map (·.cps.toList))
 |[]=>rfl
 |[p]=>rfl
 |p::q::r=>by
  rw[join_cons_cons,xn,xn,qq (q::r)];have e:xU.cps.toList=[59]:=rfl;have e2:jnL ((p::q::r).map (·.cps.toList))=p.cps.toList++59::jnL ((q::r).map (·.cps.toList)):=rfl;rw[e,e2];simp
theorem QY(z:Str):(Txt.split z xU).map (·.cps.toList)=(spF z.cps.toList).1++[(spF z.cps.toList).2]:=by
 obtain⟨h1,h2⟩:=zbs z.cps.toList;refine Xa ?_ (by simp) ?_ h2 ?_
 .have:=split_pos z xU
  intro e;have:(Txt.split z xU).length= 0:=by simpa using congrArg List.length e
  omega
 .intro a ha
  obtain⟨p,hp,rfl⟩:=List.mem_map.mp ha;exact StrLaws.split_free z 59 p hp
 .rw[h1,<-qq,StrLaws.join_split]
noncomputable def okD(z:Str):Prop:=∀c∈z.cps.toList,48<=c/\c<=57
noncomputable def ul(cs:List Nat):PyData:=if cs=[]then .none else .int ((NumText.digitsVal cs:Nat):Int)
noncomputable def qr(ws:List (List Nat)):PyData:=if 6<ws.length\/(ws.any λw=>decide (3<w.length))=true then .none else .tuple (ws.map ul)
noncomputable def vv(z:Str):PyData:=qr ((spF z.cps.toList).1++[(spF z.cps.toList).2])
noncomputable def okP(a:PyData):Prop:=a=.none\/∃ds:List PyData,a=.tuple ds/\ds.length<=1000/\∀d∈ds,d=.none\/∃n,d=.int n
theorem zdC(z:Str):okP (vv z):=by
 unfold vv qr;split
 .exact .inl rfl
 .rename_i hn
  refine .inr ⟨_,rfl,by rw[List.length_map];omega,λd hd=>?_⟩;obtain⟨w,_,rfl⟩:=List.mem_map.mp hd;unfold ul;split
  .exact .inl rfl
  .exact .inr ⟨_,rfl⟩
theorem xo(z:Str):z.length=z.cps.toList.length:=rfl
theorem Zr(sep:Str)(zs:List Str):Txt.join sep zs=Str.join sep zs:=eq_of_beq (join_plain_closes sep zs)
theorem UE(sep:Str):∀zs:List Str,(Str.join sep zs).cps.toList.length<=(zs.map (·.length)).sum+zs.length*sep.length
 |[]=>Nat.zero_le _
 |[p]=>by
  show p.cps.toList.length<=([p].map (·.length)).sum+_;rw[<-xo];simp
 |p::q::r=>by
  have ih:=UE sep (q::r);rw[join_cons_cons,xn,xn,List.length_append,List.length_append,<-xo p,<-xo sep];simp only[List.map_cons,List.sum_cons,List.length_cons,Nat.add_mul]at ih ⊢;omega
theorem zbt{α:Type}(l:List α)(g:α->W)(F:W->Option PyData)(k:α->PyData)(h:∀a,F (g a)=some (k a)):(l.map g).filterMap F=l.map k:=by
 induction l with
 |nil=>rfl
 |cons a l ih=>rw[List.map_cons,List.filterMap_cons,h a,ih];rfl
noncomputable def noS:Str:=⟨#[]⟩
theorem JJ:∀{l:List Str},(∀x∈l,x.length= 1)->(l.map λx=>x.length).sum=l.length
 |[],_=>rfl
 |a::l,h=>by
  simp only[List.map_cons,List.sum_cons,JJ λx hx=>h x (List.mem_cons_of_mem _ hx),h a List.mem_cons_self,List.length_cons];omega
theorem UF:∀(cs:List Nat) (acc:Array Nat),((cs.map λc=>(⟨#[c]⟩:Str)).foldl (λacc p=>acc++noS.cps++p.cps) acc).toList=acc.toList++cs
 |[],acc=>by simp
 |c::cs,acc=>by
  rw[List.map_cons,List.foldl_cons,UF cs];simp[noS]
theorem zdD(cs:List Nat):Txt.join noS (cs.map λc=>⟨#[c]⟩)=⟨cs.toArray⟩:=by
 show Builtin.Str.glued _ _=_;unfold Builtin.Str.glued
 congr 1
 apply Array.ext';cases cs with
 |nil=>rfl
 |cons c cs=>
  show((cs.map λc=>(⟨#[c]⟩:Str)).foldl (λacc p=>acc++noS.cps++p.cps) #[c]).toList=_;rw[UF];rfl
noncomputable def ZS(O:OM)(o w:W):Option OM:=match o with
 |.own a=>match O a with
  |some (.lst ws)=>if ws.length<100000 then some (updO O a (.lst (ws++[w])))else none
  |_=>none
 |_=>none
noncomputable def KK:W->List W->OM->WK->Prop:=λx ws O R=>∃w O1,ws=[w]/\ZS O x w=some O1/\R (.d .none) O1
theorem ziI{T:String}:RefM K T Zi KK:=by
 rintro Γ O H x v xs vs S rx rs Q R ⟨w,O1,rfl,e,h⟩ k;cases rs with
 |cons rw t=>
  cases t
  rename_i u
  cases x with
  |d _=>cases e
  |row _ _=>cases e
  |own a=>
   cases(show v=.ref a from rx);simp only[ZS]at e;split at e
   .rename_i ws ho
    split at e
    .rename_i hl
     cases e;obtain⟨_,us,q1,q2⟩:=S.o _ _ ho;refine⟨a,us,u,rfl,rfl,q1,by rw[<-Paired.length q2,sizeLine_eq];omega,?_⟩;exact k _ _ _ _ _ (Le.refl _) (S.put (oo:=.lst _) ho (by intro _ h;cases h) (by intro _ h;cases h) ⟨_,zX,Paired.appP q2 (.cons rw .nil)⟩) vK h
    .cases e
   .cases e
section
variable {k:Nat}{sp:Sp}{p:Pos}
theorem zgk(c:CalM X.prog X.w X.K X.mg X.base k x C sp)(hr:Room (k+1) X.A)(hg:Gl X x)(hdb:(x==("__debug__":Str))=false:=by decide):PE X (.Call (.Name x p) [] [] pos) (Yc C sp [] E0 uh):=by
 obtain⟨f,fd,ps,M,F,hm,hb⟩:=c.ex;exact zcB M F hr hg hm hb .nil Yf hdb
end
theorem zkn{y:Str}(hg:Gl X x)(h:∃t,X.mg x=some (.str y t))(hd:(x==("__debug__":Str))=false:=by decide):PE X (.Name x pos) (tC (.str y)):=by
 obtain⟨t,e⟩:=h;exact uK hg e ⟨t,rfl⟩ hd
theorem zdE{z:Str}{lo hi:Option Int}{a b:Nat}(hab:a<=b)(hb:b<=z.length)(e:Builtin.Str.strSliceIndices lo hi 1 z.length=(List.range (b-a)).map (a+ ·)):(Txt.slice z lo hi).cps.toList=(z.cps.toList.drop a).take (b-a):=by
 have hz:z.length=z.cps.toList.length:=rfl;unfold Txt.slice;rw[e];split
 .rename_i h
  simp at h;have ha:a= 0:=by omega
  subst ha;rw[List.drop_zero,List.take_of_length_le (by omega)]
 .show(((List.range (b-a)).map (a+ ·)).filterMap (z.cps[·]?))=_
  rw[List.filterMap_map];refine List.ext_getElem? λi=>?_;have key:∀n,n<=b-a->(List.range n).filterMap ((λx=>z.cps[x]?)∘λx=>a+x)=(z.cps.toList.drop a).take n:=by
   intro n
   induction n with
   |zero=>intro _;simp
   |succ n ih=>
    intro hn;rw[List.range_succ,List.filterMap_append,ih (by omega)];have h1:a+n<z.cps.toList.length:=by omega
    have h2:z.cps[a+n]? =some z.cps.toList[a+n]:=by
     rw[<-Array.getElem?_toList,List.getElem?_eq_getElem h1]
    have h3:(z.cps.toList.drop a)[n]? =some z.cps.toList[a+n]:=by
     rw[List.getElem?_drop,List.getElem?_eq_getElem h1]
    rw[List.take_succ,h3];simp[h2]
  rw[key _ (Nat.le_refl _)]
theorem zgl{z:Str}{a:Nat}(ha:a<=z.length):(Txt.slice z (some (a:Int)) none).cps.toList=z.cps.toList.drop a:=by
 rw[zdE (a:=a) (b:=z.length) ha (Nat.le_refl _) ?_]
 .rw[List.take_of_length_le (by rw[List.length_drop];exact Nat.le_refl _)]
 unfold Builtin.Str.strSliceIndices sliceRange;simp only[show(1:Int)>0 by decide,if_true];have ca:max 0 (min (if(a:Int)<0 then(a:Int)+z.length else a) z.length)=(a:Int):=by rw[if_neg (by omega)];omega
 rw[ca];have e:(if(a:Int)<z.length then((z.length:Int)-a+1-1) / 1 else 0).toNat=z.length-a:=by
  split
  .rw[Int.ediv_one];omega
  .simp;omega
 rw[e];refine List.map_congr_left λk hk=>?_;omega
theorem Xb{a b:Str}(h:a.cps.toList=b.cps.toList):a=b:=by
 obtain⟨a⟩:=a;obtain⟨b⟩:=b;exact congrArg Str.mk (Array.ext' h)
noncomputable abbrev sgS(c:Nat):Str:=⟨#[c]⟩
noncomputable abbrev sgW(c:Nat):W:=.d (.str (sgS c))
noncomputable def isLet(c:Nat):Prop:=(97<=c/\c<=122)\/(65<=c/\c<=90)
noncomputable def vw(c:Nat):Prop:=48<=c/\c<=57
noncomputable instance (c:Nat):Decidable (isLet c):=by unfold isLet;infer_instance
noncomputable instance (c:Nat):Decidable (vw c):=by unfold vw;infer_instance
noncomputable def ue(c:Nat):PyData:=if c= 10 then .tuple [.str (Str.ofString "line")]else if c= 9 then .tuple [.str (Str.ofString "tab")]else .tuple [.str (Str.ofString "sign"),.str (sgS c)]
noncomputable def ziJ:PyData->Bool
 |.none=>true
 |_=>false
noncomputable def rwD(b:List Nat)(c:Nat):List PyData:=if ziJ (vv ⟨(b.drop 1).toArray⟩)=true then[]else[.tuple [.str (Str.ofString "row"),.str (sgS c),vv ⟨(b.drop 1).toArray⟩]]
noncomputable def rdS(b:List Nat)(c:Nat):List Nat×List PyData:=
 if b≠[]/\isLet c then([],rwD b c)
 else if b≠[]/\(vw c\/c= 59)then(b++[c],[])
 else if c≠126\/b.length= 1 then([],[ue c])else([126],[])
noncomputable def rdF:List Nat->List Nat->List Nat×List PyData
 |b,[]=>(b,[])
 |b,c::cs=>((rdF (rdS b c).1 cs).1,(rdS b c).2++(rdF (rdS b c).1 cs).2)
theorem JK:∀(cs:List Nat) (b ds:List Nat),rdF b (cs++ds)=((rdF (rdF b cs).1 ds).1,(rdF b cs).2++(rdF (rdF b cs).1 ds).2)
 |[],b,ds=>by simp[rdF]
 |c::cs,b,ds=>by simp[rdF,JK cs]
theorem UG(b cs:List Nat)(c:Nat):rdF b (cs++[c])=((rdS (rdF b cs).1 c).1,(rdF b cs).2++(rdS (rdF b cs).1 c).2):=by
 rw[JK];simp[rdF]
noncomputable def okG(b:List Nat):Prop:=∀c∈b.drop 1,c= 59\/(48<=c/\c<=57)
theorem Xc:okG []:=λc h=>by cases h
theorem zbu{b:List Nat}(h:okG b)(c:Nat):okG (rdS b c).1/\(rdS b c).1.length<=b.length+1/\(rdS b c).2.length<=1:=by
 unfold rdS;split
 .refine⟨Xc,Nat.zero_le _,?_⟩
  show(rwD b c).length<=1;unfold rwD;split
  .exact Nat.zero_le _
  .exact Nat.le_refl _
 .split
  .rename_i q
   refine⟨λd hd=>?_,by simp,Nat.zero_le _⟩;have hd':d∈(b++[c]).drop 1:=hd;cases b with
   |nil=>exact absurd rfl q.1
   |cons a b=>
    have hd2:d∈b++[c]:=hd';rcases List.mem_append.mp hd2 with z|z
    .exact h d z
    .cases List.mem_singleton.mp z
     rcases q.2 with y|y
     .exact .inr y
     .exact .inl y
  .split
   .exact⟨Xc,Nat.zero_le _,Nat.le_refl _⟩
   .exact⟨λd hd=>(by cases hd),(by simp),Nat.zero_le _⟩
theorem zbv:∀(cs:List Nat) {b:List Nat},okG b->okG (rdF b cs).1/\(rdF b cs).1.length<=b.length+cs.length/\(rdF b cs).2.length<=cs.length
 |[],b,h=>⟨h,Nat.le_refl _,Nat.le_refl _⟩
 |c::cs,b,h=>by
  obtain⟨h1,h2,h3⟩:=zbu h c;obtain⟨h4,h5,h6⟩:=zbv cs h1;refine⟨h4,?_,?_⟩
  .show(rdF (rdS b c).1 cs).1.length<=_
   rw[List.length_cons];omega
  .show((rdS b c).2++(rdF (rdS b c).1 cs).2).length<=_
   rw[List.length_append,List.length_cons];omega
noncomputable def zdF(z:Str):Prop:=z.length<=100000/\∀c∈z.cps.toList,c= 59\/(48<=c/\c<=57)
theorem zdG{z p:Str}(hz:zdF z)(hp:p∈Txt.split z xU):okD p/\p.length<=100000:=by
 have e:=StrLaws.join_split z xU;refine⟨λc hc=>?_,Nat.le_trans (part_short hp) hz.1⟩;have h1:c∈z.cps.toList:=by
  rw[<-e];exact(mem_join xU c _).mpr (.inl ⟨p,hp,hc⟩)
 rcases hz.2 c h1 with h|h
 .exact absurd (h▸hc) (StrLaws.split_free z 59 p hp)
 .exact h
noncomputable def zbw:SpW:=λws O R=>∃z,ws=[.d (.str z)]/\zdF z/\R (.d (vv z)) O
noncomputable def zeZ:SpW:=λws O R=>∃c,ws=[sgW c]/\R (.d (.bool (decide (isLet c)))) O
noncomputable def ze0:SpW:=λws O R=>∃c,ws=[sgW c]/\R (.d (.bool (decide (vw c)))) O
noncomputable def Xd:SpW:=λws O R=>∃c,ws=[sgW c]/\R (.d (ue c)) O
structure RdAt (C:Addr) (O:OM) (x dx p:Addr) (b:List Nat):Prop where
 x:O x=some (.ins C dx [(Str.ofString "begun",.own p)])
 p:O p=some (.lst (b.map sgW))
noncomputable def Ho(O O':OM)(x p:Addr):Prop:=∀a,O a≠none->a≠x->a≠p->O' a=O a
theorem RdAt.ne{x:Addr}{b:List Nat}(h:RdAt C O x dx p b):x≠p:=λe=>by
 have:=h.x;rw[e,h.p]at this;cases this
noncomputable def zbx(C:Addr):SpW:=λws O R=>∃x dx,ws=[.own x]/\O x=some (.ins C dx [])/\∀p O',O p=none->RdAt C O' x dx p []->(∀a,a≠x->a≠p->O' a=O a)->R (.d .none) O'
noncomputable def UH(C:Addr):SpW:=λws O R=>∃x dx p b,ws=[.own x]/\RdAt C O x dx p b/\b.length<=100000/\R (.d (.str ⟨b.toArray⟩)) O
noncomputable def KL(C:Addr):SpW:=λws O R=>∃x dx p b c,ws=[.own x,sgW c]/\RdAt C O x dx p b/\b≠[]/\okG b/\b.length<=100000/\∀q p' O',RdAt C O' x dx p' []->Ho O O' x p->O p'=none->O q=none->q≠p'->O' q=some (.lst ((rwD b c).map .d))->R (.own q) O'
noncomputable def UI(C:Addr):SpW:=λws O R=>∃x dx p b c,ws=[.own x,sgW c]/\RdAt C O x dx p b/\okG b/\b.length<100000/\∀q p' O',RdAt C O' x dx p' (rdS b c).1->Ho O O' x p->(p'=p\/O p'=none)->O q=none->q≠p'->O' q=some (.lst ((rdS b c).2.map .d))->R (.own q) O'
noncomputable def UJ(C:Addr):SpW:=λws O R=>∃x dx p b z,ws=[.own x,.d (.str z)]/\RdAt C O x dx p b/\okG b/\z.cps.all (· < 128)=true/\b.length+z.length<=90000/\∀p' O',RdAt C O' x dx p' (rdF b z.cps.toList).1->Ho O O' x p->(p'=p\/O p'=none)->R (.d (.list (rdF b z.cps.toList).2)) O'
structure Rdr (K:W.Frag) (C:Addr):Prop where
 cl:Cls K C
 n_begun:NoAttr K C "begun"
theorem Sim.shrink{O':OM}(S:Sim K Γ O' H)(h:Old O O'):Sim K Γ O H:=by
 have k1:∀{x:Addr}{o:OO},O x=some o->O' x=some o:=λ{x o} e=>by rw[h x (by rw[e];simp)];exact e
 have k0:∀{x:Addr},O' x=none->O x=none:=λ{x} e=>by
  cases q:O x with
  |none=>rfl
  |some o=>rw[k1 q]at e;cases e
 refine⟨S.z,λx o e=>?_,S.gd,S.f,λx o e hn=>S.gn x o (k1 e) hn,S.fg,λx o e=>⟨(S.fd x o e).1,k0 (S.fd x o e).2.1,λb rows rs e1=>(S.fd x o e).2.2 b rows rs (k1 e1)⟩,λx b ra rb rs ss r e1 e2=>S.u x b ra rb rs ss r (k1 e1) (k1 e2)⟩;obtain⟨h1,h2⟩:=S.o _ _ (k1 e);refine⟨h1,h2.keep (Le.refl _) rfl rfl λrs r hg ⟨rows,hrw⟩ hr=>?_⟩;subst hrw;obtain⟨_,q2,_⟩:=S.rowIn (k1 e) hg hr;refine⟨rfl,rfl,?_⟩;rw[q2];exact k0 q2
theorem FnOk.forget{w:World}{CX:CXT}{k:Nat}{ps:List Str}{s s':SpW}(F:FnOk P w K mg base CX k f fd ps (zb K s'))
  (h:∀ws O R,s ws O R->s' ws O λw O'=>Old O O'/\R w O):FnOk P w K mg base CX k f fd ps (zb K s):=
 F.imp λvs H Q E ⟨Γ,O,ws,R,S,r,hs,k⟩=>⟨Γ,O,ws,_,S,r,h ws O R hs,λΓ' O' H' w v l S' rw⟨ho,hR⟩=>k Γ' O H' w v l (S'.shrink ho) rw hR⟩
noncomputable def zdH(wi:TI)(n:Nat)(js:List Nat)(g:TG)(tt:TT)(te:TE):TE:=tLc wi n js g tt te
section
variable {js:List Nat}{scope:Scope}{cl:List (Str×Addr)}{elt iter:Expr}{ifs:List Expr}{wi:TI}{g:TG}{tt:TT}{te:TE}
theorem Yu(L:LcOk X N n js scope cl)(hc:X.calm=true)(hi:PI X tg iter wi)
  (hg:∀C s0 H0 fp0,PG (yt X N scope cl C s0 H0 fp0) tg g)(ht:∀C s0 H0 fp0,PTs (yt X N scope cl C s0 H0 fp0) ifs tt)(he:∀C s0 H0 fp0,PE (yt X N scope cl C s0 H0 fp0) elt te)
  (hs:∀x,foldedSetIterable iter X.env x=pure x:=by intro _;rfl):PE X (.ListComp elt [⟨tg,iter,ifs,0⟩] scope pos) (zdH wi n js g tt te):=vV L hc hi hg ht he hs
theorem zby{pos' spos:Pos}(hN:X.N.Nodup)(hx:X.N[i]? =some x)(hk:X.env.scope.names.lookup x=some .local)(L:LcOk X N n js scope cl)(hc:X.calm=true)(hi:PI X tg iter wi)
  (hg:∀C s0 H0 fp0,PG (yt X N scope cl C s0 H0 fp0) tg g)(ht:∀C s0 H0 fp0,PTs (yt X N scope cl C s0 H0 fp0) ifs tt)(he:∀C s0 H0 fp0,PE (yt X N scope cl C s0 H0 fp0) elt te)
  (hsw:swapsWith (.ListComp elt [⟨tg,iter,ifs,0⟩] scope pos) (some (.Name x pos')) spos.line X.env=pure true:=by rfl)
  (hs:∀x,foldedSetIterable iter X.env x=pure x:=by intro _;rfl):PS X (.Assign [.Name x pos'] (.ListComp elt [⟨tg,iter,ifs,0⟩] scope pos) spos) (ZJ (zdH wi n js g tt te) (qj i)):=uT hN hx hk L hc hi hg ht he hsw hs
end
noncomputable def ziK(Wi:TIW)(n:Nat)(js:List Nat)(G:TGW)(T:TTW)(E:TEW):TEW:=λρ O R=>Wi ρ O λws keep O1=>keep O1/\ws.length<=1000000/\∃Pd:PyData->Prop,
 (∀w∈ws,∀us:WS,us.length=n->Zo G T E n (yn js ρ) w (us++yn js ρ) O1 λy O2=>O2=O1/\∃d,y=some (.d d)/\Pd d)/\∀ds:List PyData,ds.length=ws.length->(∀d∈ds,Pd d)->R (.d (.list ds)) O1
theorem zgm{wi:TI}{Wi:TIW}{js:List Nat}{g:TG}{G:TGW}{tt:TT}{T:TTW}{te:TE}{E:TEW}(hi:vp K wi Wi)(hg:RefG K g G)(ht:xu K tt T)(he:RefE K te E):RefE K (zdH wi n js g tt te) (ziK Wi n js G T E):=by
 intro Γ O H ρ σ S r Q R hT k;refine hi _ _ _ _ _ S r _ _ hT λΓ1 O1 H1 J ws keep l1 S1 ok h1=>?_;obtain⟨hk,hlen,Pd,hF,hR⟩:=h1;intro D hD;have hFD:Γ1.F D=none:=S1.f.free hD;have r1:=qp (r.mono l1) n js;refine⟨fun i m σ' H'=>i<=ws.length/\m=ws.length - i/\∃ Γ' ρ' vs,Same Γ1.Z Γ'.Z/\(∀ a rs,Γ1.G a=some rs->∃ more,Γ'.G a=some (rs ++ more))/\Γ'.F=upd Γ1.F D (.lst vs)/\Sim K Γ' O1 H'/\relR K Γ' ρ' σ'/\
  ρ'.length=n+(yn js ρ).length/\ρ'.drop n=yn js ρ/\∃ds,ds.length=i/\(∀d∈ds,Pd d)/\Reps K Γ'.Z ds vs,⟨_,Nat.zero_le _,rfl,_,_,[],Same.refl _,λa rs h=>⟨[],by rw[List.append_nil];exact h⟩,rfl,S1.frameNew hD (.lst []),r1.setF,by simp,by simp,[],rfl,λd h=>(by cases h),rfl⟩,?_⟩
 rintro i m σ' H' ⟨hi,rfl,Γ',ρ',vs,z',g',f',S',r',n1,n2,ds,hdl,hdp,rp⟩;obtain⟨ok1,ok2⟩:=ok i Γ' O1 H' z' g' S' hk;have hvl:vs.length<=i:=by
  rw[<-Reps.length rp];omega
 by_cases hlt:i<ws.length
 .obtain⟨go,y⟩:=ok1 _ (List.getElem?_eq_getElem hlt)
  refine .inr ⟨go,fun σ2 H2=>∃ Γ2 ρ2 vs2,Same Γ1.Z Γ2.Z/\(∀ a rs,Γ1.G a=some rs->∃ more,Γ2.G a=some (rs ++ more))/\Γ2.F=upd Γ1.F D (.lst vs2)/\Sim K Γ2 O1 H2/\relR K Γ2 ρ2 σ2/\
   ρ2.length=n+(yn js ρ).length/\ρ2.drop n=yn js ρ/\∃ds,ds.length=i+1/\(∀d∈ds,Pd d)/\Reps K Γ2.Z ds vs2,λσ2 H2 h=>⟨ws.length-(i+1),by omega,hlt,rfl,h⟩,λx H2 hy=>?_⟩
  obtain⟨Γ2,l2,S2,rx⟩:=y x H2 hy;obtain⟨us,hus,rfl⟩:=jz n1 n2;have et:ws.take (i+1)=ws.take i++[ws[i]]:=(List.take_append_getElem hlt).symm;refine hg _ _ _ _ _ _ _ S2 (r'.mono l2) rx _ _ (hF _ (List.getElem_mem hlt) us hus) λΓ3 O3 H3 ρ3 σ3 l3 S3 r3 h3=>?_;obtain⟨⟨m1,m2⟩,h3⟩:=h3;refine ht _ _ _ _ _ S3 r3 _ _ h3 λΓ4 O4 H4 b l4 S4 h4=>?_;have l24:=(l2.trans l3).trans l4;have up:∀ Γ5,Le Γ' Γ5->Same Γ1.Z Γ5.Z/\(∀ a rs,Γ1.G a=some rs->∃ more,Γ5.G a=some (rs ++ more)):=fun Γ5 l=>⟨z'.trans l.z,fun a rs h=>by
   obtain⟨m,e⟩:=g' a rs h;obtain⟨m2,e2⟩:=l.g a _ e;exact⟨m++m2,by rw[<-List.append_assoc];exact e2⟩⟩
  cases b with
  |true=>
   rw[if_pos rfl]at h4 ⊢;refine he _ _ _ _ _ S4 (r3.mono l4) _ _ h4 λΓ5 O5 H5 w5 v5 l5 S5 r5 h5=>?_;obtain⟨rfl,h5⟩:=h5;have l25:=l24.trans l5;obtain⟨d,hy5,hd⟩:=h5;cases hy5;have f5:Γ5.F=upd Γ1.F D (.lst vs):=by rw[l25.f,f']
   have fD:Γ5.F D=some (.lst vs):=by rw[f5,zX]
   refine⟨vs,S5.f _ _ fD,(by rw[sizeLine_eq];omega),?_⟩;obtain⟨u1,u2⟩:=up Γ5 l25;refine⟨⟨Γ5.Z,Γ5.G,upd Γ5.F D (.lst (vs++[v5]))⟩,ρ3,vs++[v5],u1,u2,?_,S5.framePut fD _,((r3.mono l4).mono l5).setF,m1,m2,ds++[d],?_,?_,?_⟩
   .show upd Γ5.F D _=_
    rw[f5,YV]
   .simp[hdl]
   .intro e he
    rcases List.mem_append.mp he with he|he
    .exact hdp e he
    .cases List.mem_singleton.mp he;exact hd
   .exact Reps.snoc (Reps.same l25.z _ _ rp) r5
  |false=>
   rw[if_neg (by decide)]at h4;obtain⟨_,d,h4,_⟩:=h4;cases h4
 .have hi2:i=ws.length:=by omega
  subst hi2;refine .inl ⟨ok2 rfl,?_⟩;obtain⟨q1,q2,q3⟩:=S'.unframe f' hFD rp;exact k ⟨upd Γ'.Z D (.lst vs),Γ'.G,Γ1.F⟩ _ _ _ _ (l1.trans ⟨rfl,z'.trans q1,g'⟩) q2 q3 (hR ds hdl hdp)
theorem ltA{a b:Nat}:((#[a]:Array Nat) < #[b])↔a<b:=by
 show([a]:List Nat)<[b]↔_;rw[List.cons_lt_cons_iff];simp
theorem leA{a b:Nat}:((#[a]:Array Nat)<=#[b])↔a<=b:=by
 show(¬(([b]:List Nat)<[a]))↔_;rw[List.cons_lt_cons_iff];simp
theorem UK{a b:Nat}:((⟨#[a]⟩:Str)=⟨#[b]⟩)↔a=b:=by simp
theorem kz{O1:OM}{x p' q:Addr}{b':List Nat}{L:List W}(h1:RdAt C O1 x dx p' b')(h2:Ho O O1 x p)(h3:∀a,O1 a=none->O a=none)(hq:O1 q=none) :
  RdAt C (updO O1 q (.lst L)) x dx p' b'/\Ho O (updO O1 q (.lst L)) x p/\O q=none/\q≠p'/\updO O1 q (.lst L) q=some (.lst L):=by
 have e1:x≠q:=λe=>by have:=h1.x;rw[e,hq]at this;cases this
 have e2:p'≠q:=λe=>by have:=h1.p;rw[e,hq]at this;cases this
 refine⟨⟨by rw[ze e1];exact h1.x,by rw[ze e2];exact h1.p⟩,λa ha hx hp=>?_,h3 q hq,Ne.symm e2,zf⟩;have:a≠q:=λe=>ha (by rw[e];exact h3 q hq);rw[ze this];exact h2 a ha hx hp
theorem zbz{x p':Addr}{b:List Nat}(h:RdAt C O x dx p b)(hp:O p'=none)(b':List Nat){O1:OM}(e:O1=updO (updO O p' (.lst (b'.map sgW))) x (.ins C dx [(Str.ofString "begun",.own p')])) :
  RdAt C O1 x dx p' b'/\Ho O O1 x p/\∀a,O1 a=none->O a=none:=by
 subst e;have e1:p'≠x:=λe=>by rw[e,h.x]at hp;cases hp
 refine⟨⟨zf,by rw[ze e1,zf]⟩,λa ha hx hpp=>?_,λa ha=>?_⟩
 .have:a≠p':=λe=>ha (by rw[e];exact hp)
  rw[ze hx,ze this]
 .by_cases q:a=x
  .subst q;rw[zf]at ha;cases ha
  .rw[ze q]at ha
   by_cases q2:a=p'
   .subst q2;exact hp
   .rw[ze q2]at ha;exact ha
theorem zbA{x:Addr}{b:List Nat}(h:RdAt C O x dx p b)(b':List Nat):RdAt C (updO O p (.lst (b'.map sgW))) x dx p b'/\Ho O (updO O p (.lst (b'.map sgW))) x p/\∀a,updO O p (.lst (b'.map sgW)) a=none->O a=none:=by
 refine⟨⟨by rw[ze h.ne];exact h.x,zf⟩,λa _ _ hp=>by rw[ze hp],λa ha=>?_⟩;by_cases q:a=p
 .subst q;rw[zf]at ha;cases ha
 .rw[ze q]at ha;exact ha
theorem zdI(b:List Nat):Txt.join noS (b.map sgS)=⟨b.toArray⟩:=zdD b
theorem KM{b:List Nat}(h:b≠[]):Txt.slice ⟨b.toArray⟩ (some 1) none=⟨(b.drop 1).toArray⟩:=by
 apply Xb;have hl:1<=(⟨b.toArray⟩:Str).length:=by
  show 1<=b.toArray.size;rw[List.size_toArray];exact List.length_pos_iff.mpr h
 have:=zgl (z:=⟨b.toArray⟩) (a:=1) hl;exact this
theorem xL{w:W}:List.lookup (Str.ofString "begun") [(Str.ofString "begun",w)]=some w:=by simp[List.lookup]
theorem zgn{O':OM}{x:Addr}(hx:O x=none)(hp:updO O x (.ins C dx []) p=none)(ho:∀a,a≠x->a≠p->O' a=updO O x (.ins C dx []) a):Old O O'/\O p=none/\p≠x:=by
 have e:p≠x:=λe=>by rw[e,zf]at hp;cases hp
 rw[ze e]at hp;refine⟨λa ha=>?_,hp,e⟩;have h1:a≠x:=λe=>ha (by rw[e];exact hx);have h2:a≠p:=λe=>ha (by rw[e];exact hp);rw[ho a h1 h2,ze h1]
theorem ziL{O1 O2:OM}{x p':Addr}{b:List Nat}(h:Old O O1)(hx:O x=none)(hp:O p=none)(r:RdAt C O1 x dx p b)(ho:Ho O1 O2 x p)(hp':p'=p\/O1 p'=none):Old O O2/\O p'=none:=by
 refine⟨λa ha=>?_,?_⟩
 .rw[ho a (by rw[h a ha];exact ha) (λe=>ha (by rw[e];exact hx)) (λe=>ha (by rw[e];exact hp)),h a ha]
 .rcases hp' with e|e
  .rw[e];exact hp
  .refine Classical.byContradiction λn=>?_
   rw[h p' n]at e;exact n e
noncomputable def frz(w:W)(O:OM):Option (PyData×OM):=match w with
 |.d x=>some (x,O)
 |.own a=>match O a with
  |some (.lst ws)=>(yH ws).map λds=>(.list ds,del O a)
  |_=>none
 |_=>none
noncomputable def frzs:List W->OM->Option (List PyData×OM)
 |[],O=>some ([],O)
 |w::ws,O=>match frz w O with
  |some (d,O1)=>(frzs ws O1).map λq=>(d::q.1,q.2)
  |none=>none
noncomputable def inS(j i:Str):Bool:=!(Builtin.Str.occurrences j i 0 j.length 1).isEmpty
noncomputable def ziM:R2W:=λx y O R=>∃i j,x=.d (.str i)/\y=.d (.str j)/\R (.d (.bool (inS j i))) O
theorem zko:RefR K (λx y H Q=>∃i j,x=.str i/\y=.str j/\Q (.bl (!(Builtin.Str.occurrences j i 0 j.length 1).isEmpty)) H) ziM:=by
 rintro Γ O H x y v u S rx ry Q R ⟨i,j,rfl,rfl,h⟩ k;exact⟨i,j,rx,ry,k _ _ _ _ _ (Le.refl _) S yW h⟩
theorem zgo{c:Nat}(h:c= 59\/(48<=c/\c<=57)):¬isLet c:=λz=>by rcases z with z|z<;>omega
theorem UL:∀{t b:List Nat},b≠[]->(∀c∈t,c= 59\/(48<=c/\c<=57))->rdF b t=(b++t,[])
 |[],b,_,_=>by simp[rdF]
 |c::t,b,hb,h=>by
  have hc:=h c List.mem_cons_self;have e:rdS b c=(b++[c],[]):=by
   unfold rdS;rw[if_neg (λz=>zgo hc z.2),if_pos ⟨hb,hc.symm⟩]
  have ih:=UL (t:=t) (b:=b++[c]) (by simp) λd hd=>h d (List.mem_cons_of_mem _ hd);simp[rdF,e,ih]
section
variable {O':OM}{xb db pb xr dr pr p' q:Addr}{bb br br' bb':List Nat}
end
section
variable {js:List Nat}{scope:Scope}{cl:List (Str×Addr)}{elt iter:Expr}{ifs:List Expr}{wi:TI}{g:TG}{tt:TT}{te:TE}
end
section
variable {w:World}
end
end L2
namespace PySem.AutoListH
open AutoSeq1 (wpAny_loadPart')
open MeetsSeq MeetsSeq2 MeetsSeq3 SeqRoads2
end PySem.AutoListH
namespace L2
open PySem PySem.Spec PyProof.Rows
section
variable (K:W.Frag)
end
section
variable {w:World}
end
noncomputable def ziN(K:W.Frag):List V->Hp->VK->Prop:=Kv K
theorem ziO(h:X.K=K):yv X (.builtin "isinstance") (ziN K):=km h
theorem zgp{Ta:TEW}(h:RefE K ta Ta):RefE K (tCB (ziN K) (xZ ta (xZ (tC (.ty "list")) uh))) (UC Ta):=zgj h
end L2
namespace PySem.MeetsSeq2
open AutoSeq1 (wpAny_loadPart')
open MeetsSeq
end PySem.MeetsSeq2
namespace L2
open PySem PySem.Spec PyProof.Rows
noncomputable abbrev DSp(kvs:List (Str×Value))(D:List (Str×Int)):Prop:=Paired (λ(p:Str×Value) (q:Str×Int)=>p.1=q.1/\∃t,p.2=.int q.2 t) kvs D
structure DS (P:Program) (w:World) (K:W.Frag) (a:Addr) (D:List (Str×Int)):Prop where
 ns:(a==sysModules)=false
 ex:∃(kvs:List (Str×Value)) (ep:Nat),(∀h:Heap,K.In h->h.DictAt (strKind P w) a kvs ep)/\DSp kvs D
theorem UM:∀{kvs:List (Str×Value)}{D:List (Str×Int)},PyProof.V.FlatPairs PyData.str kvs ((D.map λp=>(p.1,PyData.int p.2)).map λp=>(PyData.str p.1,p.2))->DSp kvs D
 |_,[],h=>by
  cases h;exact .nil
 |_,(y,i)::D,h=>by
  simp only[List.map_cons]at h;cases h with
  |cons hf ht=>
   refine .cons ⟨rfl,?_⟩ (UM ht);cases hf (default:Heap)with
   |int _ t=>exact⟨t,rfl⟩
theorem DS.of{w:World}{D:List (Str×Int)}(hl:KTD.tabLook KTD.flatLooks (λb=>K.lookup b) a (D.map λp=>(p.1,PyData.int p.2))=true)
  (hn:((D.map λp=>(p.1,PyData.int p.2)).map (·.1)).Nodup)(hh:KTD.hashesOf (λb=>K.lookup b) a=(D.map λp=>(p.1,PyData.int p.2)).map λp=>(strKind P w).hash p.1):DS P w K a D:=by
 simp only[KTD.tabLook,Bool.and_eq_true]at hl;obtain⟨h0,hl⟩:=hl;split at hl
 .rename_i o ho
  simp only[Bool.and_eq_true]at hl;obtain⟨⟨⟨e1,e2⟩,e3⟩,e4⟩:=hl;split at e4
  .rename_i es ep hd
   have hh':es.toList.map (·.hash)=(D.map λp=>(p.1,PyData.int p.2)).map λp=>(strKind P w).hash p.1:=by
    rw[<-hh];unfold KTD.hashesOf;simp only[ho,hd]
   obtain⟨hk,kvs,hp,hf,hm⟩:=KTD.strs_of_rows P w (KTD.rows_of_look (λ_ _ x=>KTD.flat_of_looks x) e4) hh';exact⟨by simpa using h0,kvs,ep,λh X=>⟨o,es,X _ _ ho,⟨beq_iff_eq.mp e1,by simpa using e2,by simpa using e3⟩,hd,λe he=>hk e (by simpa using he),hp,by rw[hm];exact hn⟩,UM hf⟩
  .cases e4
 .cases hl
noncomputable def Iti(D:List (Str×Int)):It:=
  ⟨fun i _=>i < D.length,
   λi H v H'=>∃t p,v=.ref t/\H t=none/\D[i]? =some p/\H'=upd H t (.tup [.str p.1,.int p.2]),
   λi _=>D.length<=i⟩
theorem KN{w:World}{k:Nat}{a ep:Nat}{D:List (Str×Int)}{kvs:List (Str×Value)}(hat:∀h:Heap,K.In h->h.DictAt (strKind P w) a kvs ep)(hp:DSp kvs D) :
    Turn P w K (.Tuple es k pos) (Iti D) [n] n (λi h=>∃ok ov,IsItemIter h n a i kvs.length ep ok ov) where
  mem:=by simp
  obj:=λi h st c hc=>by
    obtain⟨ok,ov,hz⟩:=st;cases List.mem_singleton.1 hc;exact⟨_,hz,fun v z=>by
      have z':Data.fields _=Data.cell v:=z;cases z'⟩
  keep:=λi h h' st k=>by
    obtain⟨ok,ov,hz⟩:=st;exact⟨ok,ov,k _ (by simp) _ hz⟩
  item:=by
    intro X hP hw hK hc i pins s σ H E I hf st hg;subst hP hw hK;obtain⟨ok,ov,hz⟩:=st;have hg':i<D.length:=hg;obtain⟨q,hq,e1,t,e2⟩:=Paired.getQ hp (List.getElem?_eq_getElem hg');obtain⟨qk,qv⟩:=q;simp only at e1 e2;subst e2;have hm:=hat s.heap I.kIn;refine wpAny_pyNext_items_item hz hm hq λkey h' hkey hz' hp' hsz kk=>?_;obtain⟨tk,rfl⟩:=Value.isStrOf_shape hkey;refine⟨_,rfl,wpAny_letOwnedTupleGo_items hz' λh3 z3 sb=>?_⟩;have hn:=I.hok.fresh (Nat.le_refl s.heap.objs.size);have I1:Inv X pins σ (upd H s.heap.objs.size (.tup [.str qk,.int D[i].2])) { s with heap:=s.heap.push { cls:=.type "tuple",data:=.seq [Value.str qk tk,Value.int D[i].2 t].toArray },toks:=s.toks }:=
      I.laid (t':=s.toks) (λb o e=>Heap.get?_push_of_some _ e) (Nat.le_refl _) ⟨by show 2<=sizeLine;decide,[Value.str qk tk,Value.int D[i].2 t],.cons ⟨tk,rfl⟩ (.cons ⟨t,rfl⟩ .nil),IsTup.new s.heap _⟩
    have ln:n≠s.heap.objs.size:=Nat.ne_of_lt (Heap.lt_size hz);have I2:=I1.turnedL (h':=h3) (t':=s.toks) (fp:=[n]) (fun c o hc q=>by
      have c0:c≠n:=λz=>hc (by simp[z]);by_cases hcz:c=s.heap.objs.size
      · subst hcz
        have q':(s.heap.push { cls:=.type "tuple",data:=.seq #[Value.str qk tk,Value.int D[i].2 t] }).get? s.heap.objs.size=some o:=q;rw[Heap.get?_push_size s.heap (o:={ cls:=.type "tuple",data:=.seq #[Value.str qk tk,Value.int D[i].2 t] }) rfl]at q';exact(sb.2 _ c0).trans (hp'.trans q')
      · have q':(s.heap.push { cls:=.type "tuple",data:=.seq #[Value.str qk tk,Value.int D[i].2 t] }).get? c=some o:=q
        rw[Heap.get?_push_ne _ _ _ hcz]at q';exact(sb.2 c c0).trans (kk c o c0 q')) λc hc=>by
          cases List.mem_singleton.1 hc;exact⟨by rw[zv ln];exact(hf n (by simp)).1,(hf n (by simp)).2⟩
    refine⟨.ref s.heap.objs.size,_,I2,rfl,⟨_,D[i],rfl,hn,List.getElem?_eq_getElem hg',by rw [e1]⟩,⟨_,_,z3⟩,fun c hc=>by
      cases List.mem_singleton.1 hc;rw[zv ln];exact(hf n (by simp)).1⟩
  done:=by
    intro X hP hw hK hc i pins s σ H E I hf st hg;subst hP hw hK;obtain⟨ok,ov,hz⟩:=st;have hg':D.length<=i:=hg;have hm:=hat s.heap I.kIn;refine wpAny_pyNext_items_end (I.ok.hd hc) hz hm (List.getElem?_eq_none (by rw[Paired.length hp];exact hg')) λh' kk=>⟨rfl,I.turnedL (t':=s.toks) (fp:=[n]) (λc o hc e=>kk c o (λz=>hc (by simp[z])) e) hf⟩
  self:=λ_ _ _ _ _ st h=>by
    obtain⟨ok,ov,hz⟩:=st;exact PySem.W.kcp_self hz h
noncomputable def UN(P:Program)(w:World)(K:W.Frag)(to:TE):TI:=λσ H R=>to σ H λx H1=>∃a D,x=.ref a/\DS P w K a D/\R (Iti D) H1
theorem zdJ{k:Nat}{tp:Pos}{o:Expr}{to:TE}{apos cpos:Pos}(ho:PE X o to)(hbase:attributeBase o "items" X.env (eval o X.env)=eval o X.env:=by rfl)(hline:(apos.endLine==cpos.line)=true:=by rfl) :
  PI X (.Tuple es k tp) (.Call (.Attribute o "items" apos) [] [] cpos) (UN X.prog X.w X.K to):=by
 intro pins s σ H R I h;refine wpAny_Call_method0_late hbase hline (thn (ho pins s σ H _ I h) λv s1 ⟨x,H1,I1,r1,a,D,ex,hD,q⟩=>?_);subst ex;cases r1;obtain⟨kvs,ep,hat,hp⟩:=hD.ex;have dd:=hat s1.heap I1.kIn;obtain⟨ob,bs,hob,hc,hrest⟩:=id dd;have dof:s1.heap.DictOf (strKind X.prog X.w) a kvs:=⟨ob,bs,ep,hob,hc,hrest⟩;refine⟨"dict","dict.items",PySem.F.plainAttrs_dict,PySem.F.slot_dict_items,PySem.F.type_dict_items,⟨ob,hob,hc.1⟩,λb e=>by injection e with e;subst e;exact⟨ob,hob,hc.2.1⟩,Calls.callWith_builtin rfl (PySem.evalArgs_none ?_)⟩;refine call_meetsIn PySem.F.slot_dict_items dof.typeIs PySem.F.entry_dict_items (PySem.F.args_dict_items_1 _) (meets_dict_items (strKind X.prog X.w) a hD.ns) ⟨⟨kvs,dof⟩,?_⟩;have hv:(s1.heap.push { cls:=.type "dict_items",data:=.fields #[.ref a] }).IsItemsView s1.heap.objs.size a:=⟨_,Heap.get?_push_size _ rfl,rfl,rfl⟩;have k1:∀b o,s1.heap.get? b=some o->(s1.heap.push { cls:=.type "dict_items",data:=.fields #[.ref a] }).get? b=some o:=λb o e=>Heap.get?_push_of_some _ e;have I2:Inv X pins σ H1 { s1 with heap:=s1.heap.push { cls:=.type "dict_items",data:=.fields #[.ref a] } }:=I1.kept (t':=s1.toks) k1;refine wpAny_pyIter_items (knd:=strKind X.prog X.w) hv (hat _ I2.kIn) ?_;refine⟨_,[(s1.heap.push { cls:=.type "dict_items",data:=.fields #[.ref a] }).objs.size],_,_,H1,rfl,I2.kept (t':=s1.toks) λb o e=>Heap.get?_push_of_some _ e,KN (ep:=ep) hat hp,⟨.none,.none,Heap.get?_push_size _ rfl⟩,λc hc=>?_,q⟩;cases List.mem_singleton.1 hc;exact I2.fpOk (Nat.le_refl _) (I2.hok.fresh (Nat.le_refl _))
section
variable {w:World}
noncomputable def zbB(P:Program)(w:World)(K:W.Frag)(To:TEW):TIW:=λρ O R=>To ρ O λx O1=>∃a D,x=.own a/\DS P w K a D/\R (D.map λp=>W.d (.tuple [.str p.1,.int p.2])) (λ_=>True) O1
theorem KO{to:TE}{To:TEW}(h:RefE K to To):vp K (UN P w K to) (zbB P w K To):=by
 intro Γ O H ρ σ S r Q R hT k;refine h _ _ _ _ _ S r _ _ hT λΓ1 O1 H1 x v l1 S1 r1 h1=>?_;obtain⟨a,D,rfl,hD,h1⟩:=h1;refine⟨a,D,r1,hD,k _ _ _ _ _ _ l1 S1 (λi Γ' O' H' hz hg S' e'=>⟨λw' hw=>?_,λhi=>?_⟩) h1⟩
 .rw[List.getElem?_map]at hw
  cases hd:D[i]? with
  |none=>rw[hd]at hw;cases hw
  |some p=>
   rw[hd]at hw;cases hw;refine⟨(List.getElem?_eq_some_iff.mp hd).1,λy H2 ⟨t,p',e1,e2,e3,e4⟩=>?_⟩;rw[hd]at e3;cases e3;subst e1 e4;obtain⟨Γ2,l2,S2,r2⟩:=kh S' (ds:=[.str p.1,.int p.2]) (vs:=[.str p.1,.int p.2]) ⟨_,_,rfl,rfl,_,_,rfl,rfl,rfl⟩ e2;exact⟨Γ2,l2,S2,r2⟩
 .show D.length<=i
  rw[hi,List.length_map];exact Nat.le_refl _
theorem Yv{i:Int}(h0:0<=i)(h1:i<=1000000):i.natAbs.log2<1920:=by
 by_cases hz:i.natAbs= 0
 .rw[hz]
  decide
 .refine(Nat.log2_lt hz).2 ?_
  have:i.natAbs<=1000000:=by omega
  exact Nat.lt_of_le_of_lt this (Nat.lt_of_lt_of_le (show 1000000<2 ^ 20 by decide) (Nat.pow_le_pow_right (n:=2) (by decide) (show 20<=1920 by decide)))
noncomputable def ze1:List V->Hp->VK->Prop:=λxs H Q=>∃i,xs=[.int i]/\i.natAbs.log2<1920/\Q (.str (toString i)) H
end
theorem X1:yv X (.type "str") ze1:=VS
noncomputable def Xe:V->Option Str
 |.str z=>if z.length<=1000 then some z else none
 |.int i=>if -1000000<=i/\i<=1000000 then some (toString i)else none
 |_=>none
noncomputable def ziP(ta:TE)(z:Str)(tb:TE):TE:=λσ H Q=>ta σ H λx H1=>∃s1,Xe x=some s1/\s1.length<=1000/\tb σ H1 λy H2=>∃s2,Xe y=some s2/\s2.length<=1000/\Q (.str (((Str.empty++s1)++z)++s2)) H2
theorem zbC{x:V}{v:Value}{y:Str}(I:Inv X pins σ H s)(r:RelV x v)(e:Xe x=some y)(h:∀t s',Inv X pins σ H s'->Q (.str y t) s'):wpAny (model X.prog X.w) X.A (formatField v Str.empty) Q X.xe s:=by
 cases x with
 |str z=>
  obtain⟨t,rfl⟩:=r;simp only[Xe]at e;split at e
  .rename_i hz
   cases e;exact formatField_str (λt' tk=>h t' _ (I.tok tk)) (by rw[sizeLine_eq];omega)
  .cases e
 |int i=>
  obtain⟨t,rfl⟩:=r;simp only[Xe]at e;split at e
  .rename_i hz
   cases e;exact formatField_int_small (by have e:=Yv (i:=(i.natAbs:Int)) (by omega) (by omega);rwa[Int.natAbs_natCast]at e) (h _ _ (I.tok _))
  .cases e
 |_=>cases e
theorem UO{a b:Expr}{z:Str}{k:Nat}{p1 p2 p3:Pos}{tb:TE}(ha:PE X a ta)(hb:PE X b tb)(hz:z.length<=1000):PE X (.JoinedStr [.FormattedValue a (-1) none p1,.Constant (.str z) k p2,.FormattedValue b (-1) none p3] pos) (ziP ta z tb):=by
 intro pins s σ H Q I h;refine JoinedStr_many (joinParts_cons (FormattedValue_plain (thn (ha pins s σ H _ I h) λv s1 ⟨x,H1,I1,r1,s1',e1,l1,q1⟩=>zbC I1 r1 e1 λt s2 I2=>?_)));have len:∀a b:Str,(a++b).length=a.length+b.length:=strLen_append;have le0:Str.empty.length= 0:=rfl;refine⟨by rw[len,le0,sizeLine_eq];omega,?_⟩;refine joinParts_cons (thn (zk (X:=X) (x:=z) pins s2 σ H1 (λv H'=>v=.str z/\H'=H1) I2 ⟨rfl,rfl⟩) λv s3 ⟨x',H',I3,r3,ex,eH⟩=>?_);subst ex eH;obtain⟨t3,rfl⟩:=r3;refine⟨by rw[len,len,le0,sizeLine_eq];omega,?_⟩;refine joinParts_cons (FormattedValue_plain (thn (hb pins s3 σ H' _ I3 q1) λv s4 ⟨y,H2,I4,r4,s2',e2,l2,q2⟩=>zbC I4 r4 e2 λt s5 I5=>?_));refine⟨by rw[len,len,len,le0,sizeLine_eq];omega,?_⟩;exact joinParts_nil ⟨.str _,H2,I5.tok _,⟨_,rfl⟩,q2⟩ (by rw[len,len,len,le0,sizeLine_eq];omega)
noncomputable def KQ:W->Option Str
 |.d (.str z)=>if z.length<=1000 then some z else none
 |.d (.int i)=>if -1000000<=i/\i<=1000000 then some (toString i)else none
 |_=>none
theorem zbD{x:W}{y:Str}(r:relW K Γ x v)(e:KQ x=some y):Xe v=some y:=by
 cases x with
 |d d=>
  cases d with
  |str z=>rw[show v=V.str z from r];exact e
  |int z=>rw[show v=V.int z from r];exact e
  |_=>cases e
 |own _=>cases e
 |row _ _=>cases e
noncomputable def zdK(Ta:TEW)(z:Str)(Tb:TEW):TEW:=λρ O R=>Ta ρ O λx O1=>∃s1,KQ x=some s1/\s1.length<=1000/\Tb ρ O1 λy O2=>∃s2,KQ y=some s2/\s2.length<=1000/\R (.d (.str (((Str.empty++s1)++z)++s2))) O2
theorem zgq{tb:TE}{Ta Tb:TEW}{z:Str}(ha:RefE K ta Ta)(hb:RefE K tb Tb):RefE K (ziP ta z tb) (zdK Ta z Tb):=by
 intro Γ O H ρ σ S r Q R hT k;refine ha _ _ _ _ _ S r _ _ hT λΓ1 O1 H1 x v l1 S1 rx h1=>?_;obtain⟨s1,e1,n1,h1⟩:=h1;refine⟨s1,zbD rx e1,n1,hb _ _ _ _ _ S1 (r.mono l1) _ _ h1 λΓ2 O2 H2 y u l2 S2 ry h2=>?_⟩;obtain⟨s2,e2,n2,h2⟩:=h2;exact⟨s2,zbD ry e2,n2,k _ _ _ _ _ (l1.trans l2) S2 xQ h2⟩
end L2
namespace L2
open PySem PySem.W PySem.Spec PySem.Calls PyProof.Rows
section
variable {w:World}
theorem zbE{k:Nat}{tp:Pos}{o:Expr}{to:TE}{apos cpos:Pos}(hK:X.K=K)(hP:X.prog=P)(hw:X.w=w)(ho:PE X o to)(hbase:attributeBase o "items" X.env (eval o X.env)=eval o X.env:=by rfl)(hline:(apos.endLine==cpos.line)=true:=by rfl) :
  PI X (.Tuple es k tp) (.Call (.Attribute o "items" apos) [] [] cpos) (UN P w K to):=by subst hK hP hw;exact zdJ ho hbase hline
end
end L2
namespace L2
open PySem PySem.Spec PyProof.Rows
noncomputable def sp1:Str:=Str.ofString " "
theorem uZ(a b:Nat):Builtin.bitAnd (a:Int) (b:Int)=((a &&& b:Nat):Int):=by
 unfold Builtin.bitAnd;rw[decide_eq_true (Int.natCast_nonneg a),decide_eq_true (Int.natCast_nonneg b)];rfl
noncomputable def bitsD:List (Str×Int):=[(Str.ofString "bold",64),(Str.ofString "under",128),(Str.ofString "turned",256)]
noncomputable def KR:Str:=Str.ofString "bold"
noncomputable def KS:Str:=Str.ofString "under"
noncomputable def KU:Str:=Str.ofString "turned"
noncomputable def Xf:Str:=Str.ofString "fore"
noncomputable def KW:Str:=Str.ofString "back"
noncomputable def fig(k:Nat):Str:=⟨#[48+k]⟩
noncomputable def bun(n:Nat):List (List Str):=(if n / 64%2=1 then[[KR]]else[])++(if n / 128%2=1 then[[KS]]else[])++(if n / 256%2=1 then[[KU]]else[])++(if n%8=0 then[]else[[Xf,fig (n%8)]])++(if n / 8%8=0 then[]else[[KW,fig (n / 8%8)]])
noncomputable def wl(n:Nat):List Str:=(bun n).flatten
noncomputable def inkT(n:Nat):Str:=if n= 0 then Str.ofString "plain" else Str.join sp1 ((bun n).map (Str.join sp1))
theorem zkp(h0:n≠0)(h:n<512):wl n≠[]:=by
 unfold wl bun;intro e;simp only[List.flatten_append,List.append_eq_nil_iff]at e;obtain⟨⟨⟨⟨e1,e2⟩,e3⟩,e4⟩,e5⟩:=e;have g1:n / 64%2≠1:=λz=>by rw[if_pos z]at e1;simp at e1
 have g2:n / 128%2≠1:=λz=>by rw[if_pos z]at e2;simp at e2
 have g3:n / 256%2≠1:=λz=>by rw[if_pos z]at e3;simp at e3
 have g4:n%8=0:=Classical.byContradiction λz=>by rw[if_neg z]at e4;simp at e4
 have g5:n / 8%8=0:=Classical.byContradiction λz=>by rw[if_neg z]at e5;simp at e5
 omega
section
variable {w:World}
end
section
variable {H':Hp}{h':Heap}
end
end L2
namespace PySem
open Sem (wp)
section
variable {w:World}
end
section
variable {w:World}{K:Type}[DecidableEq K]{knd:KeyKind prog w K}
variable {z TI TO i1 i2:Addr}{fp1 fp2:List Addr}{n1 n2:Nat}{P1 P2:Nat->Value->Prop}{St1 St2:Nat->Heap->Prop}
end
end PySem
namespace L2
open PySem PySem.Spec PyProof.Rows
noncomputable def ziQ:W->List W->OM->WK->Prop:=λx ws O R=>∃a us y,x=.own a/\ws=[]/\O a=some (.lst us)/\us[us.length-1]? =some y/\R y (updO O a (.lst us.dropLast))
theorem Paired.dropLastP{α β:Type}{F:α->β->Prop}{xs:List α}{ys:List β}(r:Paired F xs ys):Paired F xs.dropLast ys.dropLast:=by
 have e:ys.length=xs.length:=(Paired.length r).symm;rw[List.dropLast_eq_take,List.dropLast_eq_take,e];exact Paired.takeP r _
theorem Paired.eraseP{α β:Type}{F:α->β->Prop}{xs:List α}{ys:List β}(r:Paired F xs ys):∀k,Paired F (xs.eraseIdx k) (ys.eraseIdx k):=by
 induction r with
 |nil=>intro k;exact .nil
 |cons h t ih=>
  intro k;cases k with
  |zero=>exact t
  |succ k=>exact .cons h (ih k)
theorem zkq{T:String}:RefM K T zhC ziQ:=by
 rintro Γ O H x v xs vs S rx rs Q R ⟨a,us,y,rfl,rfl,ho,hy,h⟩ k;cases rs;cases(show v=.ref a from rx);obtain⟨_,vs,q1,q2⟩:=S.o _ _ ho;obtain⟨u,hu,ru⟩:=Paired.getP q2 hy;rw[Paired.length q2]at hu;exact⟨a,vs,u,rfl,rfl,q1,hu,k _ _ _ _ _ (Le.refl _) (S.put (oo:=.lst _) ho (by intro _ h;cases h) (by intro _ h;cases h) ⟨_,zX,Paired.dropLastP q2⟩) ru h⟩
noncomputable def zbF:W->List W->OM->WK->Prop:=λx ws O R=>∃a us y,∃n:Nat,x=.own a/\ws=[.d (.int n)]/\O a=some (.lst us)/\us[n]? =some y/\n<=1000/\R y (updO O a (.lst (us.eraseIdx n)))
theorem zgr{T:String}:RefM K T zaP zbF:=by
 rintro Γ O H x v xs vs S rx rs Q R ⟨a,us,y,n,rfl,rfl,ho,hy,hn,h⟩ k;cases rs with
 |cons rn t=>
  cases t;cases(show v=.ref a from rx);obtain⟨_,vs,q1,q2⟩:=S.o _ _ ho;obtain⟨u,hu,ru⟩:=Paired.getP q2 hy;have hlt:n<vs.length:=(List.getElem?_eq_some_iff.mp hu).1;refine⟨a,vs,n,n,u,rfl,by rw[show _=V.int n from rn],q1,by omega,by omega,?_,hu,k _ _ _ _ _ (Le.refl _) (S.put (oo:=.lst _) ho (by intro _ h;cases h) (by intro _ h;cases h) ⟨_,zX,Paired.eraseP q2 n⟩) ru h⟩;unfold seqIndex?;have h1:¬((n:Int)<0):=by omega
  have h2:¬((n:Int)≥(vs.length:Int)):=by omega
  simp[h1,h2,hlt]
noncomputable def ze2:List W->OM->WK->Prop:=λxs O R=>∃i:Int,xs=[.d (.int i)]/\-1000000<=i/\i<=1000000/\R (.d (.str (toString i))) O
theorem ziR:RefC K ze1 ze2:=by
 rintro Γ O H xs vs S rs Q R ⟨i,rfl,h0,h1,h⟩ k;cases rs with
 |cons rx t=>
  cases t;refine⟨i,by rw[show _=V.int i from rx],?_,k _ _ _ _ _ (Le.refl _) S xQ h⟩;have e:=Yv (i:=(i.natAbs:Int)) (by omega) (by omega);rwa[Int.natAbs_natCast]at e
noncomputable def zbG(K:W.Frag):List V->Hp->VK->Prop:=zev K
theorem JL(h:X.K=K)(hg:X.A.guards=some [])(hu:X.A.units+64<cLine):yv X (.builtin "repr") (zbG K):=by subst h;exact Kk hg hu
noncomputable def ze3:List W->OM->WK->Prop:=λxs O R=>∃w d,xs=[w]/\datW O w=some d/\(isDisplay d && !d.hasDict)=true/\d.showable=true/\d.depth<=60/\d.shown.length<=sizeLine/\R (.d (.str d.shown)) O
theorem ziS:RefC K (zbG K) ze3:=by
 rintro Γ O H xs vs S rs Q R ⟨w,d,rfl,e,h1,h2,h3,h4,h⟩ k;cases rs with
 |cons rx t=>
  cases t;exact⟨d,_,rfl,uW S rx e,h1,h2,h3,h4,k _ _ _ _ _ (Le.refl _) S xQ h⟩
theorem zgs(hc:X.calm=true):yv X (.builtin "sorted") Kl:=Uc hc
noncomputable def KY:List W->OM->WK->Prop:=λxs O R=>∃a kvs,∃ns:List Int,xs=[.own a]/\O a=some (.dK kvs)/\kvs.map (·.1)=ns.map (Sum.inl:Int->Key)/\ns.length<64/\R (.d (.list ((srt ns).map .int))) O
theorem ziT:RefC K Kl KY:=by
 rintro Γ O H xs vs S rs Q R ⟨a,kvs,ns,rfl,ho,hk,hl,h⟩ k;cases rs with
 |cons rx t=>
  cases t;obtain⟨_,us,q1,q2⟩:=S.o _ _ ho;refine⟨a,us,ns,by rw[show _=V.ref a from rx],q1,by rw[<-KF q2];exact hk,hl,λp hp=>?_⟩;obtain⟨Γ',l',S',r'⟩:=jd S (Yr (srt ns)) hp;exact k _ _ _ _ _ l' S' r' h
theorem Yw{T1 T2 U:TSW}{D:EndsW}{ρ:WS}(J:WS->OM->Prop)(ht:∀R:WS->OM->Prop,(∀ρ' O',J ρ' O'->R ρ' O')->xg T1 T2 { D with nx:=R } ρ O)(hu:∀ρ' O',J ρ' O'->U D ρ' O'):xg T1 (xg T2 U) D ρ O:=ht (U D) hu
noncomputable def strI(i:Int):Str:=toString i
structure MA where
 sp:Addr
 kq:Addr
 q:Addr
section
variable {A:MA}
end
noncomputable def ButO(O O':OM)(xs:List Addr):Prop:=∀b,b∉xs->O b≠none->O' b=O b
section
variable {O' O1:OM}{x st kp d:Addr}{A:MA}{S' S1:ST}{xs:List Addr}
theorem ButO.refl:ButO O O xs:=λ_ _ _=>rfl
theorem ButO.trans(a:ButO O O1 xs)(b:ButO O1 O' xs):ButO O O' xs:=λc h1 h2=>by
 have e:=a c h1 h2;rw[b c h1 (by rw[e];exact h2),e]
theorem ButO.upd{o:OO}(h:a∈xs):ButO O (updO O a o) xs:=λb hb _=>ze λe=>hb (by rw[e];exact h)
theorem ButO.old(h:ButO O O' xs):∀{b:Addr}{o:OO},O b=some o->b∉xs->O' b=some o:=λ{b o} e hb=>by rw[h b hb (by rw[e];simp),e]
theorem ButO.mono{ys:List Addr}(h:ButO O O' xs)(m:∀b∈xs,b∈ys):ButO O O' ys:=λb hb h0=>h b (λz=>hb (m b z)) h0
theorem But.butO(h:But O O' x p):ButO O O' [x,p]:=λb hb _=>h b (λe=>hb (by simp[e])) (λe=>hb (by simp[e]))
theorem Old.butO(h:Old O O'):ButO O O' xs:=λb _ hb=>h b hb
theorem StAt.butO(s:StAt O C x dx p st kp S)(h:ButO O O' xs)(h1:x∉xs)(h2:p∉xs)(h3:st∉xs)(h4:kp∉xs):StAt O' C x dx p st kp S:=
 ⟨h.old s.x h1,h.old s.p h2,h.old s.st h3,h.old s.kp h4⟩
end
noncomputable def goS(c:Nat)(n:Int)(S:ST):ST:=
 if c= 117 then{ S with row:=if eT S>S.row-n then eT S else S.row-n }else if c= 100 then{ S with row:=if eB S<S.row+n then eB S else S.row+n }
 else if c= 108 then{ S with col:=if eL S>S.col-n then eL S else S.col-n }else if c= 114 then{ S with col:=if eR S<S.col+n then eR S else S.col+n }else S
noncomputable def offS(S:ST):ST:={ S with late:=false }
noncomputable def ltr(c:Nat):Prop:=c= 117\/c= 100\/c= 108\/c= 114
noncomputable def UP(C:Addr):SpW:=λws O R=>∃c n,ltr c/\NumD n/\sSt C [.d (.str ⟨#[c]⟩),.d n] (λ_=>True) (λS=>offS (goS c (oneD n) S)) ws O R
noncomputable def qB(S:ST):KP:=⟨S.row,S.col,S.late,S.ink,S.wrap,S.putting,S.home⟩
noncomputable def keepS(S:ST):ST:={ S with kept:=(if S.kept.length<8 then S.kept else S.kept.drop 1)++[qB S] }
noncomputable def backS(S:ST):ST:=match S.kept[S.kept.length-1]? with
 |some k=>{ S with row:=k.row,col:=k.col,late:=k.late,ink:=k.ink,wrap:=k.wrap,putting:=k.putting,home:=k.home,kept:=S.kept.dropLast }
 |none=>S
inductive sKeep (C:Addr) (f:ST->ST) (ws:List W) (O:OM) (R:WK):Prop
 |mk:∀x dx p st kp S,ws=[.own x]->StAt O C x dx p st kp S->S.kept.length<=8->(∀O',StAt O' C x dx p st kp (f S)->ButO O O' [x,kp]->R (.d .none) O')->sKeep C f ws O R
noncomputable def plT(S:ST):Str:=if S.home=true then strI (S.row+1-S.top)++Str.ofString ";" ++ strI (S.col+1-S.left)else strI (S.row+1)++Str.ofString ";" ++ strI (S.col+1)
noncomputable def szT(S:ST):Str:=strI S.w++Str.ofString "x" ++ strI S.h
inductive sTold1 (C:Addr) (f:ST->Str) (ws:List W) (O:OM) (R:WK):Prop
 |mk:∀x dx p st kp S,ws=[.own x]->StAt O C x dx p st kp S->Bds S->R (.d (.str (f S))) O->sTold1 C f ws O R
noncomputable def ansD(S:ST):PyData->List Str
 |.none=>[plT S]
 |.int i=>if i= 0\/i= 1 then[plT S]else if i= 2 then[szT S]else if i= 3 then[inkT S.ink.toNat]else[]
 |_=>[]
noncomputable def ansL(S:ST)(ns:List PyData):List Str:=(ns.map (ansD S)).flatten
inductive sAsked (C:Addr) (ws:List W) (O:OM) (R:WK):Prop
 |mk:∀x dx p st kp S,∀ns:List PyData,ws=[.own x,.d (.tuple ns)]->ns.length<=6->(∀n∈ns,NumD n)->StAt O C x dx p st kp S->Bds S->(∀q O',O q=none->O' q=some (.lst (((ansL S ns).map .str).map .d))->Old O O'->R (.own q) O')->sAsked C ws O R
theorem yV{c:TTW}{T U:TSW}{D:EndsW}{ρ:WS}(q:Prop)[Decidable q](hc:∀R:Bool->OM->Prop,R (decide q) O->c ρ O R)(ht:q->T D ρ O)(hu:¬q->U D ρ O):vm c T U D ρ O:=by
 refine hc _ ?_;show if decide q=true then T D ρ O else U D ρ O
 by_cases h:q
 .rw[if_pos (decide_eq_true h)];exact ht h
 .rw[if_neg (by simp[h])];exact hu h
theorem yj{Tv:TEW}{U:TSW}{D:EndsW}{ρ:WS}{x:Addr}{fs fs':List (Str×W)}{y:W}{fn:Str}(hc:Cls K C)(hn:NoAttr K C fn)(e:yo fn y fs=fs')(hv:∀R:WK,R y (updO O x (.ins C dx fs))->Tv ρ (updO O x (.ins C dx fs)) R)(hl:fs.length<1000)(hr:ρ[i]? =some (some (.own x)))(h:U D ρ (updO O x (.ins C dx fs'))):xg (VG K (z9 i) Tv fn) U D ρ (updO O x (.ins C dx fs)):=by
 refine hv _ ?_;show z9 i ρ _ _;unfold z9;rw[hr];refine⟨C,dx,fs,zf,hc,hn,hl,?_⟩;show U D ρ _;rw[yR,e];exact h
theorem jg{x:Addr}{o:OO}(h:O x=some o):O=updO O x o:=by
 funext b
 by_cases e:b=x
 .rw[e,zf,h]
 .rw[ze e]
inductive sMixM (ws:List W) (O:OM) (R:WK):Prop
 |mk:∀c k:Int,ws=[.d (.int c),.d (.int k)]->0<=k->k<=1000->(∀n:Int,0<=n->n<100000000->R (.d (.int n)) O)->sMixM ws O R
inductive sSizeM (ws:List W) (O:OM) (R:WK):Prop
 |mk:∀c:Int,ws=[.d (.int c)]->0<=c->(∀w h:Nat,1<=w->w<=24->1<=h->h<=12->R (.d (.tuple [.int w,.int h])) O)->sSizeM ws O R
theorem Zs{n:PyData}{a b:Int}(h:a<=b):a<=kt n a b/\kt n a b<=b:=by
 have:=yZ (n:=n);unfold kt;split<;>omega
theorem Bds.pl{r c:PyData}(h:Bds S):Bds (plS r c S):=by
 have t:=h.tb;have t0:=h.t0;have b1:=h.b1;have lr:=h.lr;have l0:=h.l0;have rr:=h.rr;have w1:=h.w1;have h1:=h.h1;have a1:=Zs (n:=r) t;have a2:=Zs (n:=c) lr;have a3:=Zs (n:=r) (show(0:Int)<=S.h-1 by omega);have a4:=Zs (n:=c) (show(0:Int)<=S.w-1 by omega);unfold plS;split
 .exact{ h with r0:=by simp only;omega,r1:=by simp only;omega,c0:=by simp only;omega,c1:=by simp only;omega }
 .exact{ h with r0:=by simp only;omega,r1:=by simp only;omega,c0:=by simp only;omega,c1:=by simp only;omega }
theorem JM{m:PyData}{s:Int}:xK m s<=s:=by
 unfold xK;split
 .split
  .omega
  .split<;>omega
 .omega
theorem Bds.rows{a b:PyData}(h:Bds S):Bds (rowsS a b S):=by
 have o:=yZ (n:=a);have e:=JM (m:=b) (s:=S.h);unfold rowsS;split
 .exact h
 .exact Bds.pl { h with t0:=by simp only;omega,tb:=by simp only;omega,b1:=by simp only;omega }
theorem Bds.cols{a b:PyData}(h:Bds S):Bds (colsS a b S):=by
 have o:=yZ (n:=a);have e:=JM (m:=b) (s:=S.w);unfold colsS;split
 .exact h
 .exact Bds.pl { h with l0:=by simp only;omega,lr:=by simp only;omega,rr:=by simp only;omega }
theorem Bds.dye{ns:List PyData}(h:Bds S):Bds (dyeS ns S):=by
 have key:∀(ns:List PyData) (i:Int),Ink i->Ink (ns.foldl dyeI i):=λns=>by
  induction ns with
  |nil=>exact λi h=>h
  |cons n ns ih=>exact λi h=>ih _ (Uw h)
 have:=key ns S.ink ⟨h.i0,h.i1⟩;exact{ h with i0:=this.1,i1:=this.2 }
theorem zkr(h:Bds S):0<=eT S/\eT S<=S.row:=by
 have:=h.t0;have:=h.r0;unfold eT;split<;>omega
theorem zks(h:Bds S):S.row<=eB S/\eB S<S.h:=by
 have:=h.b1;have:=h.r1;unfold eB;split<;>omega
theorem zkt(h:Bds S):eL S<=S.col:=by
 have:=h.c0;unfold eL;split<;>omega
theorem Bds.goS{c:Nat}{n:Int}(hn:0<=n)(h:Bds S):Bds (goS c n S):=by
 have t:=zkr h;have b:=zks h;have l:=VE h;have l2:=zkt h;have r:=Zp h;have:=h.r0;have:=h.r1;have:=h.c0;have:=h.c1;unfold L2.goS
 repeat' split
 all_goals first|exact h|exact{ h with r0:=by simp only;omega,r1:=by simp only;omega } |exact{ h with c0:=by simp only;omega,c1:=by simp only;omega }
noncomputable def KOk(S:ST):Prop:=S.kept.length<=8/\∀k∈S.kept,0<=k.row/\k.row<S.h/\0<=k.col/\k.col<S.w/\Ink k.ink
theorem KOk.keep(h:KOk S)(b:Bds S):KOk (keepS S):=by
 refine⟨?_,λk hk=>?_⟩
 .unfold keepS
  simp only[List.length_append,List.length_singleton];split
  .omega
  .rw[List.length_drop];have:=h.1;omega
 .unfold keepS at hk
  simp only[List.mem_append,List.mem_singleton]at hk;rcases hk with hk|rfl
  .split at hk
   .exact h.2 k hk
   .exact h.2 k (List.mem_of_mem_drop hk)
  .exact⟨b.r0,b.r1,b.c0,b.c1,b.i0,b.i1⟩
theorem zgt(h:KOk S)(b:Bds S):KOk (backS S)/\Bds (backS S):=by
 unfold backS;split
 .rename_i k hk
  obtain⟨r0,r1,c0,c1,i0,i1⟩:=h.2 k (List.mem_of_getElem? hk);exact⟨⟨by simp;have:=h.1;omega,λz hz=>h.2 z (List.dropLast_subset _ hz)⟩,{ b with r0:=r0,r1:=r1,c0:=c0,c1:=c1,i0:=i0,i1:=i1 }⟩
 .exact⟨h,b⟩
section
variable {O':OM}{x st kp d:Addr}{A:MA}{r c:PyData}{k:Int}{on:Bool}{ns:List PyData}
theorem KOk.of{S':ST}(h:KOk S)(e:S'.w=S.w/\S'.h=S.h/\S'.stops=S.stops/\S'.kept=S.kept):KOk S':=by
 obtain⟨e1,e2,_,e4⟩:=e;unfold KOk;rw[e1,e2,e4];exact h
end
end L2
namespace L2
open PySem PySem.Spec PyProof.Rows PySem.Builtin PySem.Builtin.Str
noncomputable def zle:Str:=⟨#[58]⟩
noncomputable def nl:Str:=⟨#[10]⟩
noncomputable def okW(r:Rw6):Prop:=1<=r.length/\r.length<=24/\okR r/\∀c∈r,0<=c.2/\c.2<512
end L2
namespace L2
open PySem PySem.Spec PyProof.Rows
section
variable {te:TE}{lo hi:Option Expr}{tl th:TO}{p2:Pos}
end
noncomputable def VH(C:Addr):SpW:=λws O R=>∃n,NumD n/\sSt C [.d n] Bds (cellsS (oneD n)) ws O R
noncomputable def wipP(f:PF)(k:Int)(w:Nat)(a b:Int):PF:=λi j=>if j<w/\a<=(i:Int)*w+j/\(i:Int)*w+j<b then blank k else f i j
noncomputable def wipS(a b:Int)(S:ST):ST:={ S with pic:=wipP S.pic S.ink S.w a b,late:=false }
noncomputable def KZ(C:Addr):SpW:=λws O R=>∃a b:Int,0<=a/\a<=1000/\0<=b/\b<=1000/\sSt C [.d (.int a),.d (.int b)] (λS=>Bds S/\b<=(S.h:Int)*S.w) (wipS a b) ws O R
noncomputable def VI(C:Addr):SpW:=λws O R=>∃n,NumD n/\sSt C [.d n] Bds (λS=>wipS (S.row*S.w+S.col) (S.row*S.w+(if(S.w:Int)<S.col+oneD n then(S.w:Int)else S.col+oneD n)) S) ws O R
theorem UQ{f:PF}{k:Int}{w:Nat}{a:Int}:wipP f k w a a=f:=by
 funext i j
 unfold wipP;rw[if_neg (by omega)]
theorem zgu{f:PF}{k:Int}{w:Nat}{a b:Int}(h:b<=a):wipP f k w a b=f:=by
 funext i j
 unfold wipP;rw[if_neg (by omega)]
theorem zbH{f:PF}{k:Int}{w:Nat}{a b:Int}(h0:0<=b)(hab:a<=b)(hw:1<=w):setF (wipP f k w a b) (b / w).toNat (b%w).toNat (blank k)=wipP f k w a (b+1):=by
 have w0:(0:Int)<w:=by omega
 have e1:b%w=b-w*(b / w):=by have:=Int.mul_ediv_add_emod b w;omega
 have e2:0<=b%(w:Int):=Int.emod_nonneg _ (by omega);have e3:b%(w:Int)<w:=Int.emod_lt_of_pos _ w0;have e4:0<=b / (w:Int):=Int.ediv_nonneg h0 (by omega);have key:∀i j:Nat,j<w->((i:Int)*w+j=b↔i=(b / w).toNat/\j=(b%w).toNat):=λi j hj=>by
  constructor
  .intro h
   have q1:b / w=i:=by
    rw[<-h,Int.add_comm,Int.add_mul_ediv_right _ _ (by omega),Int.ediv_eq_zero_of_lt (by omega) (by omega)];omega
   have q2:b%w=j:=by
    rw[<-h,Int.add_comm,Int.add_mul_emod_self_right,Int.emod_eq_of_lt (by omega) (by omega)]
   exact⟨by omega,by omega⟩
  .rintro⟨rfl,rfl⟩
   rw[Int.toNat_of_nonneg e4,Int.toNat_of_nonneg e2,Int.mul_comm];exact Int.mul_ediv_add_emod b w
 funext i j
 unfold setF;by_cases hj:j<w
 .by_cases h:i=(b / w).toNat/\j=(b%w).toNat
  .rw[if_pos h]
   have:=(key i j hj).2 h;unfold wipP;rw[if_pos ⟨hj,by omega,by omega⟩]
  .rw[if_neg h]
   have nb:¬((i:Int)*w+j=b):=λz=>h ((key i j hj).1 z);unfold wipP;by_cases z:a<=(i:Int)*w+j/\(i:Int)*w+j<b
   .rw[if_pos ⟨hj,z⟩,if_pos ⟨hj,z.1,by omega⟩]
   .rw[if_neg (λy=>z y.2),if_neg (λy=>z ⟨y.2.1,by have:=y.2.2;omega⟩)]
 .rw[if_neg (by omega)]
  unfold wipP;rw[if_neg (λy=>hj y.1),if_neg (λy=>hj y.1)]
noncomputable def spI(y:Int)(S:ST):Int×Int:=
 if y= 0 then(S.row*S.w+S.col,S.row*S.w+S.w)else if y= 1 then(S.row*S.w,S.row*S.w+S.col+1)else if y= 2 then(S.row*S.w,S.row*S.w+S.w)
 else if y= 3 then(S.row*S.w+S.col,S.w*S.h)else if y= 4 then(0,S.row*S.w+S.col+1)else if y= 5 then(0,S.w*S.h)else(0,0)
noncomputable def wayD:PyData->Int
 |.int i=>i
 |_=>0
noncomputable def Yx(C:Addr):SpW:=λws O R=>∃x dx p st kp S m,ws=[.own x,.d m]/\NumD m/\StAt O C x dx p st kp S/\Bds S/\∀O',StAt O' C x dx p st kp (wipS (spI (wayD m) S).1 (spI (wayD m) S).2 S)->(∀b,b≠x->b≠p->O b≠none->O' b=O b)->R (.d .none) O'
theorem StAt.old{O':OM}{x st kp:Addr}(s:StAt O C x dx p st kp S)(h:Old O O'):StAt O' C x dx p st kp S:=
 ⟨by rw[h x (by rw[s.x];simp)];exact s.x,by rw[h p (by rw[s.p];simp)];exact s.p,by rw[h st (by rw[s.st];simp)];exact s.st,by rw[h kp (by rw[s.kp];simp)];exact s.kp⟩
theorem ziU(h:Bds S):0<=S.row*(S.w:Int)/\S.row*(S.w:Int)+S.w<=(S.w:Int)*S.h/\(S.w:Int)*S.h<=288:=by
 have r0:=h.r0;have r1:=h.r1;have w2:=h.w2;have h2:=h.h2;have m0:0<=S.row*(S.w:Int):=Int.mul_nonneg r0 (by omega);have m1:(S.row+1)*(S.w:Int)<=(S.h:Int)*S.w:=Int.mul_le_mul_of_nonneg_right (by omega) (by omega);have m2:(S.h:Int)*S.w<=12*24:=Int.mul_le_mul (by omega) (by omega) (by omega) (by omega);rw[Int.add_mul]at m1;rw[Int.mul_comm (S.w:Int) (S.h:Int)];omega
theorem ziV(h:Bds S)(y:Int):0<=(spI y S).1/\(spI y S).1<=1000/\0<=(spI y S).2/\(spI y S).2<=1000/\(spI y S).2<=(S.w:Int)*S.h:=by
 obtain⟨a,b,c⟩:=ziU h;have c0:=h.c0;have c1:=h.c1;unfold spI
 repeat' split
 all_goals simp only;omega
theorem AllOk.wip{a b:Int}(h:AllOk S):AllOk (wipS a b S):=by
 refine⟨λi j hi hj=>?_,h.2⟩;show okC (wipP S.pic S.ink S.w a b i j);unfold wipP;split
 .show PyData.strOk (Str.ofString " ")=true
  decide +kernel
 .exact h.1 i j hi hj
noncomputable def Zt(C:Addr):SpW:=λws O R=>sBegin C ws O R\/∃x dx p st kp S,ws=[.own x]/\StAt O C x dx p st kp S/\1<=S.w/\S.w<=24/\
 ∀st' kp' O',O st'=none->O kp'=none->StAt O' C x dx p st' kp' (st0 S.w S.h S.pic)->(∀b,b≠x->b≠st'->b≠kp'->O' b=O b)->R (.d .none) O'
noncomputable def newS(S:ST):ST:=wipS 0 ((S.w:Int)*S.h) (st0 S.w S.h S.pic)
inductive sAnew (C:Addr) (ws:List W) (O:OM) (R:WK):Prop
 |mk:∀x dx p st kp S,ws=[.own x]->StAt O C x dx p st kp S->Bds S->(∀st' kp' O',O st'=none->O kp'=none->StAt O' C x dx p st' kp' (newS S)->ButO O O' [x,p]->R (.d .none) O')->sAnew C ws O R
noncomputable def stopS(S:ST):ST:={ S with stops:=if S.col∈S.stops then S.stops else S.stops++[S.col] }
inductive sSetStop (C:Addr) (ws:List W) (O:OM) (R:WK):Prop
 |mk:∀x dx p st kp S,ws=[.own x]->StAt O C x dx p st kp S->S.stops.length<100->(∀O',StAt O' C x dx p st kp (stopS S)->ButO O O' [st]->R (.d .none) O')->sSetStop C ws O R
theorem zbI(l:List Int)(c:Int):uI (stK l) (Sum.inl c) (W.d (.bool true))=stK (if c∈l then l else l++[c]):=by
 unfold uI;have e:((stK l).any λkv=>decide (kv.1=(Sum.inl c:Key)))=decide (c∈l):=by
  rw[Bool.eq_iff_iff,List.any_eq_true,decide_eq_true_iff];unfold stK;constructor
  .rintro⟨kv,hk,h⟩
   obtain⟨i,hi,rfl⟩:=List.mem_map.1 hk;have:=of_decide_eq_true h;cases this;exact hi
  .intro h
   exact⟨_,List.mem_map.2 ⟨c,h,rfl⟩,by simp⟩
 rw[e];by_cases h:c∈l
 .rw[if_pos (decide_eq_true h),if_pos h]
  unfold stK;rw[List.map_map];apply List.map_congr_left;intro i _;simp only[Function.comp];split
  .rfl
  .rfl
 .rw[if_neg (by simp[h]),if_neg h]
  unfold stK;simp
structure Nx (O:OM) (A A':MA):Prop where
 sp:A'.sp=A.sp\/O A'.sp=none
 kq:A'.kq=A.kq\/O A'.kq=none
 q:A'.q=A.q\/O A'.q=none
 sk:A'.sp≠A'.kq
section
variable {k m:Nat}{sp:Sp}{f:Str}{dvs:List V}{a b o:Expr}{tb te:TE}{p apos pos':Pos}
theorem zj(c:Cal X.prog X.w X.K X.mg X.base k x dvs sp)(hr:Room m X.A)(q:QA X (e::es) t)(hk:k<=m:=by decide)(hg:Gl X x:=by rfl)(hdb:(x==("__debug__":Str))=false:=by decide)
  (he:starEach (e::es) X.env=(false,eval e X.env)::starEach es X.env:=by rfl)(hpl:(backTo pos (starEach es X.env)).any (·.1)=false:=by rfl):PE X (.Call (.Name x p) (e::es) [] pos) (Zg sp dvs E0 t):=zhG c (hr.mono hk) hg q.pa hdb he hpl
theorem qt{pl:Sem Bool}(c:CalT X.prog X.w X.K X.mg X.base k x C sp)(hr:Room m X.A)(he:PE X o ta)(q:QA X (e::es) t)(hk:k<=m:=by decide)
    (hst:starEach (e::es) X.env=(false,eval e X.env)::starEach es X.env:=by rfl)(hpl:(backTo pos (starEach es X.env)).any (·.1)=false:=by rfl)
    (ht:eval (.Call (.Attribute o x apos) (e :: es) [] pos) X.env=(do
      let ov<-eval o X.env
      standAt apos.atName
      let(f,first)<-holding [ov] (getMethod ov x pl)
      callWith pos f first (backTo pos (starEach (e::es) X.env)) (backToKw pos (keywordEach [] X.env))):=by rfl):PE X (.Call (.Attribute o x apos) (e::es) [] pos) (Zh C x sp [] E0 ta t):=zhR (pl:=pl) c (hr.mono hk) he q.pa hst hpl ht
theorem fl(K:W.Frag)(he:PE X e ta)(hK:X.K=K:=by rfl)(hb:attributeBase e f X.env (eval e X.env)=eval e X.env:=by rfl):PE X (.Attribute e f pos) (J8 K ta f):=zf6 hK he hb
theorem fs(K:W.Frag)(ha:PE X o ta)(hv:PE X e te)(hK:X.K=K:=by rfl)(hs:swapsWith e (some (.Attribute o f pos')) pos.line X.env=pure false:=by rfl):PS X (.Assign [.Attribute o f pos'] e pos) (J9 K ta te f):=zf7 hK ha hv hs
theorem zZ(i:Nat)(hN:X.N.Nodup)(he:PE X e te)(hi:X.N[i]? =some x:=by rfl)(hx:Loc X.env.scope x:=by first|exact Or.inl rfl|exact Or.inr rfl)(hs:swapsWith e (some (.Name x pos')) pos.line X.env=pure false:=by rfl)(hf:X.fn x=true\/X.env.scope.names.lookup x=some .local:=by first|exact .inl rfl|exact .inr rfl|assumption) :
  PS X (.Assign [.Name x pos'] e pos) (ZJ te (qj i)):=zhm hN hi hx he hs hf
theorem zM{op:CmpOp}{r:R2}(ho:OpR X (compareOp op) r)(ha:PE X a ta)(hb:PE X b tb)(h:op≠.In:=by decide)(h2:op≠.NotIn:=by decide):PT X (.Compare a [op] [b] pos) (Vy (tOp r ta tb)):=xx ho ha hb (zaD b h h2)
theorem xT{op:CmpOp}{r:R2}(ho:OpR X (compareOp op) r)(ha:PE X a ta)(hb:PE X b tb)(h:op≠.In:=by decide)(h2:op≠.NotIn:=by decide):PE X (.Compare a [op] [b] pos) (tOp r ta tb):=zfk ho ha hb (zaD b h h2)
theorem zY{r:R2}(hr:IxR X r)(ha:PE X a ta)(hb:PE X b tb)(hs:Jv b:=by exact λ_ _=>rfl):PE X (.Subscript a b pos) (tOp r ta tb):=zjO hr ha hb hs
theorem xa{T U:TSW}{D:EndsW}{ρ:WS}(l:WS)(ht:∀R:WS->OM->Prop,R l O->T { D with nx:=R } ρ O)(hu:U D l O):xg T U D ρ O:=ht (U D) hu
end
section
variable {w:World}
theorem Fun.okU{qual:Str}{ps:List Str}{k:Nat}{s:SpW}{t:TS}{T:TSW}(F:Fun K x qual st f fd)(S:FnScope N ps (defScope st))(len:∀ws O R,s ws O R->ws.length=ps.length)
  (hP:∀{cdv:Value}{A:Around}{outer:List Env}{sh:Shared}{H:Hp}{E:XK},Room k (A.deeper (envOfC qual (defScope st) sh.heap.objs.size f cdv))->PSs (vH CX0 P w K mg base N qual (defScope st) f cdv A outer sh H E).nox (defBody st) t)
  (hR:RefS K t T)(hb:∀ws O R,s ws O R->T { nx:=λ_ O'=>Clo R (.d .none) O',rt:=Clo R } (xX N ws) O):FnOk P w K mg base CX0 (k+1) f fd ps (zb K s):=F.okV S len (λ_ _ _ _ _ _ hr=>hP hr) hR hb
theorem FunD.okU{qual:Str}{ds:List Value}{ps:List Str}{k:Nat}{s:SpW}{t:TS}{T:TSW}(F:FunD K x qual st ds f fd)(S:FnScope N ps (defScope st))(len:∀ws O R,s ws O R->ws.length=ps.length)
  (hP:∀{cdv:Value}{A:Around}{outer:List Env}{sh:Shared}{H:Hp}{E:XK},Room k (A.deeper (envOfC qual (defScope st) sh.heap.objs.size f cdv))->PSs (vH CX0 P w K mg base N qual (defScope st) f cdv A outer sh H E).nox (defBody st) t)
  (hR:RefS K t T)(hb:∀ws O R,s ws O R->T { nx:=λ_ O'=>Clo R (.d .none) O',rt:=Clo R } (xX N ws) O):FnOk P w K mg base CX0 (k+1) f fd ps (zb K s):=F.okV S len (λ_ _ _ _ _ _ hr=>hP hr) hR hb
end
noncomputable def rollT(up:Bool)(n:PyData)(S:ST):ST:={ rollS S.top (if up=true then oneD n else -(oneD n)) S with late:=false }
noncomputable def UR(up:Bool):Str:=if up=true then "R" else "D"
noncomputable def kA(C:Addr):SpW:=λws O R=>∃(up:Bool) (n:PyData),NumD n/\sSt C [.d (.str (UR up)),.d n] Bds (rollT up n) ws O R
theorem AllOk.roll{a s:Int}(h:AllOk S)(hB:Bds S)(ha:0<=a):AllOk (rollS a s S):=⟨PicOk.mv h.1 ha hB.b1 hB.l0 hB.rr,h.2⟩
theorem AllOk.left(h:AllOk S):AllOk (leftS S):=h
theorem AllOk.lineE(h:AllOk S)(hB:Bds S):AllOk (lineE S):=by
 have h1:=h.left;have hB1:=hB.left;unfold L2.lineE;dsimp only;split
 .exact h1.roll hB1 hB1.t0
 .split
  .exact h1
  .exact h1
theorem Inv.swap{d:Addr}{o o':HO}(I:Inv X pins σ H s)(hd:H d=some o)(nt:∀xs,o≠.tup xs)(nb:∀ps,o≠.tbl ps)(no:∀y,o≠.own y)(nf:∀q u,X.H₀ d≠some (.frz q u))
  (new:ym X.prog X.w (upd H d o') s.heap d o'):Inv X pins σ (upd H d o') s where
 ok:=I.ok
 os:=I.os
 bare:=I.bare
 base:=by
  refine⟨I.base.keep,I.base.slot,λb ob e n hx=>?_,I.base.there,λb xs e=>?_,λb ob u e=>?_,λb ps e=>?_⟩
  .have q:=I.base.free b ob e n hx
   rw[zv (λz=>by rw[z,hd]at q;cases q)];exact q
  .have q:=I.base.tups b xs e
   rw[zv (λz=>by rw[z,hd]at q;exact nt xs (Option.some.inj q))];exact q
  .have q:=I.base.frzs b ob u e
   rw[zv (λz=>by rw[z]at e;exact nf _ _ e)];exact q
  .obtain⟨more,q⟩:=I.base.tbls b ps e
   refine⟨more,?_⟩;rw[zv (λz=>by rw[z,hd]at q;exact nb _ (Option.some.inj q))];exact q
 loc:=I.loc
 cell:=I.cell
 free:=by
  rw[zv (λz=>by have q:=I.free;rw[z,hd]at q;cases q)];exact I.free
 freeC:=λx c e=>by
  have q:=I.freeC x c e;rw[zv (λz=>by rw[z,hd]at q;cases q)];exact q
 pin:=λp hp=>by
  obtain⟨a1,a2,a3⟩:=I.pin p hp;refine⟨a1,?_,a3⟩;rw[zv (λz=>by rw[z,hd]at a2;cases a2)];exact a2
 hok:=λb u e=>by
  by_cases z:b=d
  .subst z
   rw[zX]at e;cases e;exact new
  .rw[zv z]at e
   refine(I.hok b u e).stay (λ_ _ _ q=>q) (λc q=>?_) λc xs q=>?_
   .rw[zv (λz=>by rw[z,hd]at q;exact no _ (Option.some.inj q))]
    exact q
   .rw[zv (λz=>by rw[z,hd]at q;exact nt _ (Option.some.inj q))]
    exact q
 len:=I.len
theorem Inv.nofrz{d:Addr}(I:Inv X pins σ H s)(hd:H d=some (.dK kvs)):∀q u,X.H₀ d≠some (.frz q u):=λq u e=>by
 have z:=I.base.frzs d q u e;rw[hd]at z;cases z
theorem Inv.freeze{d:Addr}{o:Obj}(I:Inv X pins σ H s)(hd:H d=some (.dK kvs))(ho:s.heap.get? d=some o):Inv X pins σ (upd H d (.frz o (.dK kvs))) s:=
 I.swap hd (λ_ z=>nomatch z) (λ_ z=>nomatch z) (λ_ z=>nomatch z) (I.nofrz hd) ⟨ho,show ym X.prog X.w _ s.heap d (.dK kvs)from I.hok d _ hd⟩
theorem Inv.thaw{d:Addr}{o:Obj}(I:Inv X pins σ H s)(nf:∀q u,X.H₀ d≠some (.frz q u))(hd:H d=some (.frz o (.dK kvs))):Inv X pins σ (upd H d (.dK kvs)) s:=
 I.swap hd (λ_ z=>nomatch z) (λ_ z=>nomatch z) (λ_ z=>nomatch z) nf (show ym X.prog X.w _ s.heap d (.dK kvs)from(I.hok d _ hd).2)
noncomputable def ziW(t:TS):TS:=λD σ H=>∃d kvs,H d=some (.dK kvs)/\t { D with nx:=λσ' H'=>(∃o,H' d=some (.frz o (.dK kvs)))/\D.nx σ' (upd H' d (.dK kvs)) } σ H
theorem zbJ{t:TS}(h:PS X st t):PS X st (ziW t):=by
 intro pins s σ H D I ⟨d,kvs,hd,ht⟩;refine thn (h pins s σ H _ I ht) λf s' q=>?_;cases f with
 |next=>
  obtain⟨σ',H',I',⟨o,e⟩,q⟩:=q;exact⟨σ',_,I'.thaw (I.nofrz hd) e,q⟩
 |brk=>exact q
 |cont=>exact q
 |ret u=>exact q
noncomputable def Itd(d:Addr)(o:Obj)(kvs:List (Key×V)):It:=
 ⟨λi H=>H d=some (.frz o (.dK kvs))/\i<kvs.length,λi H x H'=>H'=H/\∃k v,kvs[i]? =some (k,v)/\x=kV k,λi H=>H d=some (.frz o (.dK kvs))/\kvs.length<=i⟩
theorem zdL{k:Key}(h:qi k u=true):RelV (kV k) u:=by
 rcases yE h with⟨i,t,rfl,rfl⟩|⟨x,t,rfl,rfl⟩
 .exact⟨t,rfl⟩
 .exact⟨t,rfl⟩
theorem zbK{w:World}(d it:Addr)(o:Obj)(kvs:List (Key×V))(vs:List (Key×Value))(ep:Nat)(rel:KV kvs vs)(hat:∀h:Heap,h.get? d=some o->h.DictAt (yk P w) d vs ep) :
  Turn P w K tg (Itd d o kvs) [it] it (λi h=>h.IsKeyIter it d i vs.length ep) where
 mem:=List.mem_singleton.mpr rfl
 obj:=λi h st b hb=>by
  cases List.mem_singleton.mp hb;obtain⟨o,e,c,d⟩:=st;exact⟨o,e,λv z=>by rw[d]at z;cases z⟩
 keep:=λi h h' st k=>st.at λo e=>k it (List.mem_singleton.mpr rfl) o e
 item:=by
  intro X hP hw hK hc i pins s σ H E I hf st hg;subst hP hw hK;obtain⟨f0,f1,f2,f3,f4,f5⟩:=hf it (List.mem_singleton.mpr rfl);obtain⟨hfz,hi⟩:=hg;have od:=(show ym X.prog X.w H s.heap d (.frz o (.dK kvs))from I.hok d _ hfz).1;have len:=rel.length;obtain⟨⟨k,v⟩,hx⟩:∃p,vs[i]? =some p:=⟨vs[i],by simp[<-len,hi]⟩;refine wpAny_pyNext_dict_item st (hat _ od) hx λkey h' hkey st' sb=>?_;have I1:Inv X pins σ H { s with heap:=h' }:=I.turned (t':=s.toks) (λb o hb e=>(sb.2 b hb).trans e) f0 f1 f3 f4 f5;obtain⟨o',e,c,dd⟩:=id st';refine⟨key,rfl,Ze (s:={ s with heap:=h' }) e c dd (by decide) ⟨kV k,H,I1,zdL hkey,⟨rfl,?_⟩,st',λb hb=>(hf b hb).1⟩⟩;have hk:(kvs.map (·.1))[i]? =some k:=by rw[rel.keys,List.getElem?_map,hx];rfl
  rw[List.getElem?_map]at hk;obtain⟨⟨k',v'⟩,e1,e2⟩:=Option.map_eq_some_iff.mp hk;exact⟨k',v',e1,by rw[<-e2]⟩
 done:=by
  intro X hP hw hK hc i pins s σ H E I hf st hg;subst hP hw hK;obtain⟨f0,f1,f2,f3,f4,f5⟩:=hf it (List.mem_singleton.mpr rfl);obtain⟨hfz,hi⟩:=hg;have od:=(show ym X.prog X.w H s.heap d (.frz o (.dK kvs))from I.hok d _ hfz).1;have len:=rel.length;exact wpAny_pyNext_dict_end (I.ok.hd hc) st (hat _ od) (by simp;omega) λh' eb=>⟨rfl,I.turned (t':=s.toks) (λb o hb e=>eb b o hb e) f0 f1 f3 f4 f5⟩
 self:=λ_ _ _ _ _ st h=>wpAny_pyIter_keyiter st h
noncomputable def ziX(tl:TE):TI:=λσ H R=>tl σ H λx H1=>∃a kvs,x=.ref a/\H1 a=some (.dK kvs)/\∀o,R (Itd a o kvs) (upd H1 a (.frz o (.dK kvs)))
theorem JN{l:Expr}{tl:TE}(hl:PE X l tl):PI X tg l (ziX tl):=by
 intro pins s σ H R I h;refine thn (hl pins s σ H _ I h) λv s1 ⟨y,H1,I1,r1,q1⟩=>?_;obtain⟨a,kvs,rfl,e,q⟩:=q1;cases r1;obtain⟨z,hd,vs,rel,dd⟩:=jx I1.hok e;obtain⟨ep,hat⟩:=dd.dictAt;obtain⟨o,es,ho,y6⟩:=id hat;have I2:=I1.freeze e ho;refine wpAny_pyIter_dict hd hat ⟨s1.heap.objs.size,[s1.heap.objs.size],_,_,_,rfl,I2.kept (t':=s1.toks) λb o e=>Heap.get?_push_of_some _ e,zbK a _ o kvs vs ep rel (λh e=>⟨o,es,e,y6⟩),⟨_,Heap.get?_push_size _ rfl,rfl,rfl⟩,λb hb=>?_,q o⟩;cases List.mem_singleton.mp hb;exact I2.fpOk (Nat.le_refl _) (I2.hok.fresh (Nat.le_refl _))
noncomputable def tK(ns:List Int):List (Key×V):=ns.map λi=>(Sum.inl i,V.bl true)
theorem zbL{ns:List Int}:(tK ns).length=ns.length:=List.length_map ..
theorem ziY{ns:List Int}{k:Key}(h:(tK ns)[i]? =some (k,v)):∃z,ns[i]? =some z/\k=Sum.inl z:=by
 unfold tK at h;rw[List.getElem?_map]at h;obtain⟨z,e,q⟩:=Option.map_eq_some_iff.mp h;cases q;exact⟨z,e,rfl⟩
theorem zbM{ns:List Int}{c:Int}:y7 (tK ns) (Sum.inl c)=if c∈ns then some (V.bl true)else none:=by
 induction ns with
 |nil=>rfl
 |cons a r ih=>
  by_cases e:a=c
  .subst e
   rw[if_pos (List.mem_cons_self ..)];exact ju rfl
  .have h1:y7 (tK (a::r)) (Sum.inl c)=y7 (tK r) (Sum.inl c):=jv (λz=>e (Sum.inl.inj z))
   rw[h1,ih];have:¬(c=a):=λz=>e z.symm;simp[List.mem_cons,this]
theorem zgv{ns:List Int}{c:Int}:jt (tK ns) (Sum.inl c)=tK (ns.filter λz=>decide (z≠c)):=by
 unfold jt tK;rw[List.filter_map]
 congr 1
 refine List.filter_congr λz _=>?_;simp
theorem zbN{ns:List Int}{c:Int}(h:c∉ns):(ns.filter λz=>decide (z≠c))=ns:=
 List.filter_eq_self.mpr λz hz=>decide_eq_true λe=>h (e▸hz)
end L2
namespace PySem
open Sem (wp)
section
variable {K:Type}[DecidableEq K]
end
section
variable {w:World}{K:Type}[DecidableEq K]{knd:HeapKind prog w K}
end
section
variable {w:World}{K:Type}[DecidableEq K]{knd:KeyKind prog w K}
end
end PySem
namespace L2
open PySem PySem.Spec PyProof.Rows
noncomputable def K0(r c:Nat):List Key:=[.inl (r:Int),.inl (c:Int)]
theorem Sim.raw(S:Sim K Γ O H){p:HO->Hp->Prop}(h:O a=some (.raw p)):∃o,H a=some o/\p o Γ.Z:=by
 obtain⟨_,o,h1,h2⟩:=S.o _ _ h;exact⟨o,h1,h2 _ (Same.refl _)⟩
theorem Zu:∀{ns:List Int}{vs:List (Key×V)},yp K Γ (stK ns) vs->vs=tK ns
 |[],_,h=>by cases h;rfl
 |n::ns,_,h=>by
  cases h with
  |cons a b=>
   rename_i q qs
   obtain⟨k,v⟩:=q;obtain⟨e1,e2⟩:=a;cases(show Sum.inl n=k from e1);cases(show v=V.bl true from e2);rw[Zu b];rfl
theorem US:∀(ns:List Int),yp K Γ (stK ns) (tK ns)
 |[]=>.nil
 |n::ns=>.cons ⟨rfl,rfl⟩ (US ns)
noncomputable def Xg(ns:List Int)(o:Obj):HO->Hp->Prop:=λu _=>u=.frz o (.dK (tK ns))
noncomputable def ziZ(T:TSW):TSW:=λD ρ O=>∃d ns,O d=some (.dK (stK ns))/\T { D with nx:=λρ' O'=>∃o,O' d=some (.raw (Xg ns o))/\D.nx ρ' (updO O' d (.dK (stK ns))) } ρ O
theorem zgw{t:TS}{T:TSW}(h:RefS K t T):RefS K (ziW t) (ziZ T):=by
 intro Γ O H ρ σ D DW S r ⟨d,ns,hd,hT⟩ e;obtain⟨_,vs,q1,q2⟩:=S.o _ _ hd;cases Zu q2;refine⟨d,tK ns,q1,h _ _ _ _ _ _ _ S r hT ⟨λΓ' O' H' ρ' σ' l S' r' ⟨o,ho,h'⟩=>?_,e.rt,e.bk,e.ct⟩⟩;obtain⟨u,hu,rfl⟩:=S'.raw ho;exact⟨⟨o,hu⟩,e.nx _ _ _ _ _ l (S'.put (oo:=.dK _) ho (by intro _ h;cases h) (by intro _ h;cases h) ⟨_,zX,US ns⟩) r' h'⟩
noncomputable def zi0(T:TEW):TIW:=λρ O R=>T ρ O λw O1=>∃a ns,w=.own a/\O1 a=some (.dK (stK ns))/\∀o,R (ns.map λi=>.d (.int i)) (λO'=>O' a=some (.raw (Xg ns o))) (updO O1 a (.raw (Xg ns o)))
theorem zdM{t:TE}{T:TEW}(h:RefE K t T):vp K (ziX t) (zi0 T):=by
 intro Γ O H ρ σ S r Q R hT k;refine h _ _ _ _ _ S r _ _ hT λΓ1 O1 H1 w v l1 S1 r1 h1=>?_;obtain⟨a,ns,rfl,ho,h1⟩:=h1;obtain⟨_,vs,q1,q2⟩:=S1.o _ _ ho;cases Zu q2;refine⟨a,tK ns,r1,q1,λo=>k _ _ _ _ _ _ l1 (S1.put (oo:=.raw (Xg ns o)) ho (by intro _ h;cases h) (by intro _ h;cases h) ⟨_,zX,λZ _=>rfl⟩) (λi Γ' O' H' hz hg S' e'=>?_) (h1 o)⟩;obtain⟨u,hu,rfl⟩:=S'.raw e';refine⟨λw hw=>?_,λhi=>⟨hu,by rw[zbL,hi,List.length_map];exact Nat.le_refl _⟩⟩;rw[List.getElem?_map]at hw;obtain⟨z,hz1,rfl⟩:=Option.map_eq_some_iff.mp hw;refine⟨⟨hu,by rw[zbL];exact(List.getElem?_eq_some_iff.mp hz1).1⟩,λx H2 ⟨e2,k',v',hk,hx⟩=>?_⟩;subst e2;obtain⟨z',e3,rfl⟩:=ziY hk;rw[hz1]at e3;cases e3;exact⟨Γ',Le.refl _,S',by rw[hx];rfl⟩
noncomputable def zbO(Td Ty Tx:TEW):TEW:=λρ O R=>Td ρ O λx O1=>∃a kvs,x=.own a/\O1 a=some (.dK kvs)/\Ty ρ O1 λy O2=>Tx ρ O2 λz O3=>∃ns c,O3 a=some (.dK (stK ns))/\y=.d (.int c)/\
 (c∈ns->R (.d (.bool true)) (updO O3 a (.dK (stK (ns.filter λz=>decide (z≠c))))))/\(c∉ns->R z O3)
theorem zbP{td ty tx:TE}{Td Ty Tx:TEW}(hd:RefE K td Td)(hy:RefE K ty Ty)(hx:RefE K tx Tx):RefE K (zaV td ty tx) (zbO Td Ty Tx):=by
 intro Γ O H ρ σ S r0 Q R hT k;refine hd _ _ _ _ _ S r0 _ _ hT λΓ1 O1 H1 x v l1 S1 rx h1=>?_;obtain⟨a,kvs,rfl,ho,h1⟩:=h1;obtain⟨_,vs,q1,q2⟩:=S1.o _ _ ho;refine⟨a,rx,.inl ⟨vs,Rd.of q1⟩,hy _ _ _ _ _ S1 (r0.mono l1) _ _ h1 λΓ2 O2 H2 y u l2 S2 ry h2=>?_⟩;refine hx _ _ _ _ _ S2 (r0.mono (l1.trans l2)) _ _ h2 λΓ3 O3 H3 z t l3 S3 rz h3=>?_;obtain⟨ns,c,ho3,rfl,k1,k2⟩:=h3;obtain⟨_,vs3,q3,q4⟩:=S3.o _ _ ho3;cases Zu q4;have l13:=(l1.trans l2).trans l3;refine⟨tK ns,.inl c,q3,ry,λv' hv=>?_,λhv=>?_⟩
 .rw[zbM]at hv
  by_cases hc:c∈ns
  .rw[if_pos hc]at hv
   cases hv;rw[zgv];exact k _ _ _ _ _ l13 (S3.put (oo:=.dK _) ho3 (by intro _ h;cases h) (by intro _ h;cases h) ⟨_,zX,US _⟩) yW (k1 hc)
  .rw[if_neg hc]at hv
   cases hv
 .rw[zbM]at hv
  by_cases hc:c∈ns
  .rw[if_pos hc]at hv
   cases hv
  .exact k _ _ _ _ _ l13 S3 rz (k2 hc)
noncomputable def JO:W->List W->OM->WK->Prop:=λx ws O R=>∃a kvs,x=.own a/\ws=[]/\O a=some (.dK kvs)/\R (.d .none) (updO O a (.dK []))
theorem zdN{T:String}:RefM K T Jz JO:=by
 rintro Γ O H x v xs vs S rx rs Q R ⟨a,us,rfl,rfl,ho,h⟩ k;cases rs;cases(show v=.ref a from rx);obtain⟨_,vs,q1,q2⟩:=S.o _ _ ho;exact⟨a,vs,rfl,rfl,q1,k _ _ _ _ _ (Le.refl _) (S.put (oo:=.dK []) ho (by intro _ h;cases h) (by intro _ h;cases h) ⟨_,zX,.nil⟩) vK h⟩
theorem zdO(hK:X.K=K)(hc:X.calm=true):kf X (.builtin "min") ["default"] (Ud K):=by
 subst hK;exact L2.call_minDf hc
theorem zdP(hK:X.K=K)(hc:X.calm=true):kf X (.builtin "max") ["default"] (Ue K):=by
 subst hK;exact L2.call_maxDf hc
noncomputable def K1(K:W.Frag)(r:List V->List V->Hp->VK->Prop)(rw:List W->List W->OM->WK->Prop):Prop:=∀Γ O H xs vs zs us,Sim K Γ O H->relWs K Γ xs vs->relWs K Γ zs us->∀(Q:VK) (R:WK),rw xs zs O R->(∀Γ' O' H' w v,Le Γ Γ'->Sim K Γ' O' H'->relW K Γ' w v->R w O'->Q v H')->r vs us H Q
noncomputable def zi1(rw:List W->List W->OM->WK->Prop)(T Tk:TAW):TEW:=λρ O R=>T ρ O λws O1=>Tk ρ O1 λzs O2=>rw ws zs O2 R
theorem zgx{r:List V->List V->Hp->VK->Prop}{rw:List W->List W->OM->WK->Prop}{tk:TA}{T Tk:TAW}(hr:K1 K r rw)(h:xf K t T)(hk:xf K tk Tk):RefE K (zhQ r t tk) (zi1 rw T Tk):=by
 intro Γ O H ρ σ S r0 Q R hT k;refine h _ _ _ _ _ S r0 _ _ hT λΓ1 O1 H1 ws vs l1 S1 rs h1=>?_;refine hk _ _ _ _ _ S1 (r0.mono l1) _ _ h1 λΓ2 O2 H2 zs us l2 S2 rz h2=>?_;exact hr _ _ _ _ _ _ _ S2 (relWs.mono l2 rs) rz _ _ h2 λΓ3 O3 H3 w u l3=>k _ _ _ _ _ ((l1.trans l2).trans l3)
noncomputable def UT(d:Int):List Int->Int
 |[]=>d
 |a::r=>r.foldl min a
noncomputable def UU(d:Int):List Int->Int
 |[]=>d
 |a::r=>r.foldl max a
theorem kB:∀(r:List Int) (a:Int),r.foldl min a∈a::r/\∀b∈a::r,r.foldl min a<=b
 |[],a=>⟨List.mem_cons_self ..,λb h=>by rw[List.mem_singleton.mp h];exact Int.le_refl _⟩
 |x::r,a=>by
  obtain⟨h1,h2⟩:=kB r (min a x);have m:min a x=a\/min a x=x:=by omega
  have h3:=h2 _ (List.mem_cons_self ..);refine⟨?_,λb hb=>?_⟩
  .rcases List.mem_cons.mp h1 with e|e
   .rw[List.foldl_cons,e]
    rcases m with m|m<;>rw[m]
    .exact List.mem_cons_self ..
    .exact List.mem_cons_of_mem _ (List.mem_cons_self ..)
   .exact List.mem_cons_of_mem _ (List.mem_cons_of_mem _ e)
  .rw[List.foldl_cons]
   rcases List.mem_cons.mp hb with rfl|hb
   .omega
   .rcases List.mem_cons.mp hb with rfl|hb
    .omega
    .exact h2 b (List.mem_cons_of_mem _ hb)
theorem kC:∀(r:List Int) (a:Int),r.foldl max a∈a::r/\∀b∈a::r,b<=r.foldl max a
 |[],a=>⟨List.mem_cons_self ..,λb h=>by rw[List.mem_singleton.mp h];exact Int.le_refl _⟩
 |x::r,a=>by
  obtain⟨h1,h2⟩:=kC r (max a x);have m:max a x=a\/max a x=x:=by omega
  have h3:=h2 _ (List.mem_cons_self ..);refine⟨?_,λb hb=>?_⟩
  .rcases List.mem_cons.mp h1 with e|e
   .rw[List.foldl_cons,e]
    rcases m with m|m<;>rw[m]
    .exact List.mem_cons_self ..
    .exact List.mem_cons_of_mem _ (List.mem_cons_self ..)
   .exact List.mem_cons_of_mem _ (List.mem_cons_of_mem _ e)
  .rw[List.foldl_cons]
   rcases List.mem_cons.mp hb with rfl|hb
   .omega
   .rcases List.mem_cons.mp hb with rfl|hb
    .omega
    .exact h2 b (List.mem_cons_of_mem _ hb)
theorem jD:∀{ns:List Int}{vs:List V},relWs K Γ (ns.map λi=>.d (.int i)) vs->vs=ns.map V.int
 |[],_,h=>by cases h;rfl
 |n::ns,_,h=>by
  cases h with
  |cons a b=>
   rw[jD b];rw[show _=V.int n from a];rfl
noncomputable def wDf(g:Int->List Int->Int):List W->List W->OM->WK->Prop:=λxs zs O R=>∃w ns d,xs=[w]/\zs=[.d (.int d)]/\yc O w=some (ns.map λi=>.d (.int i))/\R (.d (.int (g d ns))) O
theorem zi2:K1 K (Ud K) (wDf UT):=by
 rintro Γ O H xs vs zs us S rx rz Q R ⟨w,ns,d,rfl,rfl,e,h⟩ k;cases rx with
 |cons ra t=>
  cases t;cases rz with
  |cons b t=>
   cases t;obtain⟨a,vs,rfl,q1,q2⟩:=yC S ra e;cases jD q2;refine⟨a,ns,d,rfl,by rw[show _=V.int d from b],q1,λe=>?_,λM hM hb=>?_⟩
   .subst e
    exact k _ _ _ _ _ (Le.refl _) S xl h
   .cases ns with
    |nil=>cases hM
    |cons x r=>
     obtain⟨h1,h2⟩:=kB r x;have e:M=UT d (x::r):=Int.le_antisymm (hb _ h1) (h2 _ hM);subst e;exact k _ _ _ _ _ (Le.refl _) S xl h
theorem zi3:K1 K (Ue K) (wDf UU):=by
 rintro Γ O H xs vs zs us S rx rz Q R ⟨w,ns,d,rfl,rfl,e,h⟩ k;cases rx with
 |cons ra t=>
  cases t;cases rz with
  |cons b t=>
   cases t;obtain⟨a,vs,rfl,q1,q2⟩:=yC S ra e;cases jD q2;refine⟨a,ns,d,rfl,by rw[show _=V.int d from b],q1,λe=>?_,λM hM hb=>?_⟩
   .subst e
    exact k _ _ _ _ _ (Le.refl _) S xl h
   .cases ns with
    |nil=>cases hM
    |cons x r=>
     obtain⟨h1,h2⟩:=kC r x;have e:M=UU d (x::r):=Int.le_antisymm (h2 _ hM) (hb _ h1);subst e;exact k _ _ _ _ _ (Le.refl _) S xl h
theorem zgy(d:Int):∀ns:List Int,UT d ns=d\/UT d ns∈ns
 |[]=>.inl rfl
 |_::_=>.inr (kB _ _).1
theorem zgz(d:Int):∀ns:List Int,UU d ns=d\/UU d ns∈ns
 |[]=>.inl rfl
 |_::_=>.inr (kC _ _).1
noncomputable def fwd(ns:List Int)(r c:Int):Int:=UT r (ns.filter λz=>decide (c<z/\z<r))
noncomputable def bwd(ns:List Int)(l c:Int):Int:=UU l (ns.filter λz=>decide (l<z/\z<c))
noncomputable def itF(f:Int->Int):Nat->Int->Int
 |0,c=>c
 |n+1,c=>f (itF f n c)
theorem zi4{ns:List Int}{r c N:Int}(hc:0<=c)(hr:0<=r)(hN:r<N):0<=fwd ns r c/\fwd ns r c<N:=by
 rcases zgy r (ns.filter λz=>decide (c<z/\z<r))with e|e
 .unfold fwd;rw[e];exact⟨hr,hN⟩
 .have:=of_decide_eq_true (List.mem_filter.mp e).2
  unfold fwd;omega
theorem zi5{ns:List Int}{l c N:Int}(hl:0<=l)(hc:c<N)(hN:l<N):0<=bwd ns l c/\bwd ns l c<N:=by
 rcases zgz l (ns.filter λz=>decide (l<z/\z<c))with e|e
 .unfold bwd;rw[e];exact⟨hl,hN⟩
 .have:=of_decide_eq_true (List.mem_filter.mp e).2
  unfold bwd;omega
theorem UV{f:Int->Int}{N:Int}(hf:∀c,0<=c/\c<N->0<=f c/\f c<N):∀(n:Nat) {c:Int},0<=c/\c<N->0<=itF f n c/\itF f n c<N
 |0,_,h=>h
 |n+1,_,h=>hf _ (UV hf n h)
noncomputable def tabS(n:Nat)(S:ST):ST:={ S with col:=itF (fwd S.stops (eR S)) n S.col,late:=false }
noncomputable def bakS(n:Nat)(S:ST):ST:={ S with col:=itF (bwd S.stops (eL S)) n S.col,late:=false }
noncomputable def cutS(S:ST):ST:={ S with stops:=S.stops.filter λz=>decide (z≠S.col) }
noncomputable def clrS(S:ST):ST:={ S with stops:=[] }
noncomputable def kD(a b:Int):W->Option PyData
 |.d (.int z)=>if a<z/\z<b then some (.int z)else none
 |_=>none
theorem JP{a b z:Int}:if a<z/\z<b then some (W.d (.int z))=Option.map W.d (kD a b (.d (.int z)))else none=Option.map W.d (kD a b (.d (.int z))):=by
 simp only[kD];split
 .rfl
 .rfl
noncomputable def K2(a b:Int)(ns:List Int):List Int:=ns.filter λz=>decide (a<z/\z<b)
theorem kE(a b:Int):∀ns:List Int,(ns.filterMap (kD a b∘λi=>W.d (.int i)))=(K2 a b ns).map PyData.int
 |[]=>rfl
 |n::ns=>by
  have ih:=kE a b ns;unfold K2 at ih ⊢;rw[List.filterMap_cons,List.filter_cons];by_cases h:a<n/\n<b
  .rw[if_pos (decide_eq_true h)]
   simp only[Function.comp,kD,if_pos h,List.map_cons];exact congrArg _ ih
  .rw[if_neg (by simpa using h)]
   simp only[Function.comp,kD,if_neg h];exact ih
theorem UW(ns:List Int):yc O (.d (.list (ns.map PyData.int)))=some (ns.map λi=>W.d (.int i)):=by
 simp only[yc,List.map_map];rfl
noncomputable def Xh(S:ST)(c:Int):ST:={ S with col:=c }
noncomputable def qC(C:Addr)(f:Nat->ST->ST):SpW:=λws O R=>∃n,NumD n/\sSt C [.d n] (λS=>Bds S/\S.stops.length<=1000) (f (oneD n).toNat) ws O R
inductive sStop (C:Addr) (f:ST->ST) (ws:List W) (O:OM) (R:WK):Prop
 |mk:∀x dx p st kp S,ws=[.own x]->StAt O C x dx p st kp S->(∀O',StAt O' C x dx p st kp (f S)->ButO O O' [st]->R (.d .none) O')->sStop C f ws O R
noncomputable def modeP(on:Bool)(S:ST):PyData->ST
 |.int k=>if k= 1 then{ S with wrap:=on }else if k= 2 then{ S with putting:=on }else if k= 3 then{ S with home:=on }else S
 |_=>S
noncomputable def is3:PyData->Bool
 |.int k=>decide (k= 3)
 |_=>false
noncomputable def modesS(ns:List PyData)(on:Bool)(S:ST):ST:=if ns.any is3=true then plS .none .none (ns.foldl (modeP on) S)else ns.foldl (modeP on) S
noncomputable def sModesN(C:Addr):SpW:=λws O R=>∃ns on,(∀n∈ns,NumD n)/\sSt C [.d (.tuple ns),.d (.bool on)] (λ_=>True) (modesS ns on) ws O R
structure MkN (K:W.Frag) (C:Addr):Prop where
 makes:W.makesIn K C=true
 init:W.findIn K (.ref C) "__init__" =some (some (.builtin "object.__init__"))
 kp:W.keepIn K (.ref C)=true
structure CalN (K:W.Frag) (mg:Str->Option Value) (x:Str) (C:Addr):Prop where
 m:MkN K C
 g:mg x=some (.ref C)
noncomputable def tMakeN(C:Addr):TE:=λσ H Q=>∀x dx,H x=none->H dx=none->dx≠x->Q (.ref x) (upd (upd H dx (.own x)) x (.ins C dx []))
section
variable {p:Pos}
theorem zbQ{Q:VK}(M:MkN X.K C)(I:Inv X pins σ H s)
  (h:∀x dx,H x=none->H dx=none->dx≠x->Q (.ref x) (upd (upd H dx (.own x)) x (.ins C dx []))) :
  wpAny (model X.prog X.w) X.A (call (.ref C) []) (EP X pins σ Q) X.xe s:=by
 have hq:=h (s.heap.objs.size+1) s.heap.objs.size (I.hok.fresh (Nat.le_succ _)) (I.hok.fresh (Nat.le_refl _)) (Nat.ne_of_lt (Nat.lt_succ_self _));have I2:=Inv.made (C:=C) I;have Y:=PySem.W.makes_of (M:=model X.prog X.w) I.kIn M.makes;have e2:((s.heap.push PySem.W.emptyDict).push (PySem.W.instObj C s.heap.objs.size)).get? (s.heap.objs.size+1)=some (PySem.W.instObj C s.heap.objs.size):=by
  have:=Heap.get?_push_size (s.heap.push PySem.W.emptyDict) (o:=PySem.W.instObj C s.heap.objs.size) rfl;rwa[Heap.size_push]at this
 refine wpAny_call (zaG I.kIn M.makes M.init (λself=>PySem.W.Looks.of_pure (PySem.W.oi_bind self)) ?_);have t1:PySem.W.Looks (model X.prog X.w) ((s.heap.push PySem.W.emptyDict).push (PySem.W.instObj C s.heap.objs.size)) (typeOf (.ref (s.heap.objs.size+1))) (.ref C):=PySem.W.Looks.andThen (PySem.W.Looks.ld e2) PySem.W.Looks.now;have t2:PySem.W.Looks (model X.prog X.w) ((s.heap.push PySem.W.emptyDict).push (PySem.W.instObj C s.heap.objs.size)) (isInstance (.ref (s.heap.objs.size+1)) (.type "object")) true:=PySem.W.Looks.andThen t1 (Y.top.keeps λb o e=>Heap.get?_push_of_some _ (Heap.get?_push_of_some _ e));refine codeAny_call_builtin PySem.W.oi_plain PySem.W.entry_oi (PySem.W.check_slot PySem.W.oi_kind PySem.W.oi_split t2 (PySem.W.oi_args _) ?_);rw[PySem.W.oi_run];exact wpAny_pure ⟨rfl,⟨V.ref (s.heap.objs.size+1),_,I2,rfl,hq⟩⟩
theorem jh(c:CalN X.K X.mg x C)(hg:Gl X x)(hdb:(x==("__debug__":Str))=false:=by decide):PE X (.Call (.Name x p) [] [] pos) (tMakeN C):=by
 intro pins s σ H Q I h;refine wpAny_Call_Name_kw (qY I hg c.g ?_ hdb);exact PySem.W.callWith_K0 I.kIn c.m.kp (zbQ c.m I h)
end
noncomputable def zi6(t u:TE):TE:=λσ H Q=>t σ H Q\/u σ H Q
theorem ji{t u:TE}(h1:PE X e t)(h2:PE X e u):PE X e (zi6 t u):=by
 intro pins s σ H Q I h;rcases h with h|h
 .exact h1 pins s σ H Q I h
 .exact h2 pins s σ H Q I h
noncomputable def tCl(C:Addr):TE:=tC (.ref C)
theorem Yy(hg:Gl X x)(hm:X.mg x=some (.ref C))(hd:(x==("__debug__":Str))=false:=by decide):PE X (.Name x pos) (tCl C):=uK hg hm rfl hd
noncomputable def zi7(K:W.Frag):List V->Hp->VK->Prop:=λxs H Q=>∃x D t b,xs=[x,.ref D]/\TyOf K H x t/\W.kitOne K t (.ref D)=some b/\Q (.bl b) H
theorem kG(h:X.K=K):yv X (.builtin "isinstance") (zi7 K):=by
 subst h;intro pins s σ H xs us Q I r h;obtain⟨x,D,t,b,rfl,ty,e,q⟩:=h;obtain⟨u,c,rfl,ru,rc⟩:=r.two;cases rc;exact XH I ru ty e λtk=>⟨.bl b,H,I.tok tk,rfl,q⟩
structure IsK (K:W.Frag) (C:Addr):Prop where
 cl:Cls K C
 ha:W.findIn K (.ref C) "__class__" =some (some (.builtin "object.__class__"))
 hn:W.specialIn K (.builtin "object.__class__") "__get__" =some (some (.builtin "getset_descriptor.__get__"))
 htk:W.takesIn K (.builtin "object.__class__")=some true
 hm:W.mroIn K C (.type "object")=some true
noncomputable def zbR(C:Addr):TEW:=λρ O R=>∀x dx,O x=none->R (.own x) (updO O x (.ins C dx []))
theorem zbS:RefE K (tMakeN C) (zbR C):=by
 intro Γ O H ρ σ S r0 Q R hT k x dx hx hdx hne;have hx':upd H dx (.own x) x=none:=by rw[zv (Ne.symm hne)];exact hx
 have S2:=S.junk hdx (.own x);have S3:=S2.newO hx' (o:=.ins C dx []) (oo:=.ins C dx []) (by intro _ h;cases h) ⟨[],zX,.nil⟩;exact k _ _ _ _ _ (Le.refl _) S3 xy (hT x dx (S2.free hx').2.1)
noncomputable def zi8(T U:TEW):TEW:=λρ O R=>T ρ O R\/U ρ O R
theorem zgA{t u:TE}{T U:TEW}(h1:RefE K t T)(h2:RefE K u U):RefE K (zi6 t u) (zi8 T U):=by
 intro Γ O H ρ σ S r0 Q R hT k;rcases hT with h|h
 .exact .inl (h1 _ _ _ _ _ S r0 _ _ h k)
 .exact .inr (h2 _ _ _ _ _ S r0 _ _ h k)
noncomputable def Xi(D:Addr)(Ta:TEW):TEW:=λρ O R=>Ta ρ O λx O1=>∃a C dx fs b,x=.own a/\O1 a=some (.ins C dx fs)/\IsK K C/\W.kitOne K (.ref C) (.ref D)=some b/\R (.d (.bool b)) O1
theorem zgB{D:Addr}{Ta:TEW}(h:RefE K ta Ta):RefE K (tCB (zi7 K) (xZ ta (xZ (tCl D) uh))) (Xi (K:=K) D Ta):=by
 intro Γ O H ρ σ S r Q R hT k;refine h _ _ _ _ _ S r _ _ hT λΓ1 O1 H1 x v l1 S1 rx h1=>?_;obtain⟨a,C,dx,fs,b,rfl,ho,ik,e,h1⟩:=h1;cases(show v=.ref a from rx);obtain⟨_,vs,q1,q2⟩:=S1.o _ _ ho;exact⟨_,D,_,b,rfl,.ins q1 ik.cl ik.ha ik.hn ik.htk ik.hm,e,k _ _ _ _ _ l1 S1 yW h1⟩
inductive Lt where
 |R|D|i|k|s|x|e|w
noncomputable def effP(l:Lt)(m:PyData)(S:ST):PF:=match l with
 |.R=>mvP S.pic S.ink S.top S.bottom S.left S.right (oneD m) 0
 |.D=>mvP S.pic S.ink S.top S.bottom S.left S.right (-(oneD m)) 0
 |.i=>if S.top<=S.row/\S.row<=S.bottom then mvP S.pic S.ink S.row S.bottom S.left S.right (-(oneD m)) 0 else S.pic
 |.k=>if S.top<=S.row/\S.row<=S.bottom then mvP S.pic S.ink S.row S.bottom S.left S.right (oneD m) 0 else S.pic
 |.s=>mvP S.pic S.ink S.row S.row S.col (eR S) 0 (-(oneD m))
 |.x=>mvP S.pic S.ink S.row S.row S.col (eR S) 0 (oneD m)
 |.e=>wipP S.pic S.ink S.w (S.row*S.w+S.col) (S.row*S.w+(if(S.w:Int)<S.col+oneD m then(S.w:Int)else S.col+oneD m))
 |.w=>wipP S.pic S.ink S.w (spI (wayD m) S).1 (spI (wayD m) S).2
noncomputable def effS(l:Lt)(m:PyData)(S:ST):ST:={ S with pic:=effP l m S,late:=false }
theorem zku{m:PyData}:lineS (-(oneD m)) S=effS .i m S:=by
 unfold lineS effS effP;simp only;split<;>rfl
theorem zkv{m:PyData}:lineS (oneD m) S=effS .k m S:=by
 unfold lineS effS effP;simp only;split<;>rfl
theorem PicOk.wip{a b:Int}(h:PicOk S):PicOk { S with pic:=wipP S.pic S.ink S.w a b }:=by
 intro i j hi hj;show okC (wipP S.pic S.ink S.w a b i j);unfold wipP;split
 .show PyData.strOk (Str.ofString " ")=true
  decide +kernel
 .exact h i j hi hj
theorem AllOk.eff{l:Lt}{m:PyData}(h:AllOk S)(hB:Bds S):AllOk (effS l m S):=by
 have e:=Zp hB;refine⟨?_,h.2⟩;show PicOk { S with pic:=effP l m S };cases l<;>simp only[effP]
 .exact PicOk.mv h.1 hB.t0 hB.b1 hB.l0 hB.rr
 .exact PicOk.mv h.1 hB.t0 hB.b1 hB.l0 hB.rr
 .split
  .exact PicOk.mv h.1 hB.r0 hB.b1 hB.l0 hB.rr
  .exact h.1
 .split
  .exact PicOk.mv h.1 hB.r0 hB.b1 hB.l0 hB.rr
  .exact h.1
 .exact PicOk.mv h.1 hB.r0 hB.r1 hB.c0 e.2
 .exact PicOk.mv h.1 hB.r0 hB.r1 hB.c0 e.2
 .exact PicOk.wip h.1
 .exact PicOk.wip h.1
theorem Bds.put{c:Str}(h:Bds S):Bds (putS0 c S):=by
 rw[vL];exact(show Bds (L2.pE c (L2.pD c (L2.pC (L2.pB (L2.pA S)))))from{ h.pA.pB.pC with }).pF
theorem AllOk.put{c:Str}(h:AllOk S)(hB:Bds S)(hc:PyData.strOk c=true):AllOk (putS0 c S):=by
 rw[vL];have h1:AllOk (pA S):=by
  unfold pA;split
  .exact h.lineE hB
  .exact h
 have h2:AllOk (pB (pA S)):=h1;have hB2:=hB.pA.pB
 generalize pB (pA S)=S2 at *
 have h3:AllOk (pC S2):=by
  unfold pC;split
  .exact⟨PicOk.mv h2.1 hB2.r0 hB2.r1 hB2.c0 (Zp hB2).2,h2.2⟩
  .exact h2
 generalize pC S2=S3 at *
 have h4:AllOk (pE c (pD c S3)):=⟨PicOk.set h3.1 hc,ziH hc⟩
 generalize pE c (pD c S3)=S4 at *
 unfold pF;split
 .exact h4
 .exact h4
theorem yh{k c:Nat}{z:Str}{A B:TSW}{D:EndsW}{ρ:WS}(hz:z=⟨#[k]⟩)(hv:ρ[i]? =some (some (.d (.str ⟨#[c]⟩))))(h1:c=k->A D ρ O)(h2:c≠k->B D ρ O):vm (yY (wOp vEq (z9 i) (wC (.str z)))) A B D ρ O:=by
 refine yV (c=k) (λR hR=>?_) h1 h2;unfold yY wOp z9;rw[hv];refine⟨rfl,rfl,rfl,?_⟩;have e:decide (vOf (.str ⟨#[c]⟩)=vOf (.str z))=decide (c=k):=by
  rw[hz];simp[vOf]
 show R (decide (vOf (.str ⟨#[c]⟩)=vOf (.str z))) O;rw[e];exact hR
structure Nxt (O O':OM) (C x dx p st kp st' kp':Addr) (S':ST):Prop where
 s:StAt O' C x dx p st' kp' S'
 b:ButO O O' [x,p,st,kp]
 n:∀b,O b≠none->O' b≠none
 e1:st'=st\/O st'=none
 e2:kp'=kp\/O kp'=none
section
variable {O1 O2 O':OM}{x st kp st' kp' st1 kp1:Addr}{S' S1:ST}
theorem StAt.some(s:StAt O C x dx p st kp S):∀b∈[x,p,st,kp],O b≠none:=by
 intro b hb;simp only[List.mem_cons,List.not_mem_nil,or_false]at hb;rcases hb with rfl|rfl|rfl|rfl
 .rw[s.x];simp
 .rw[s.p];simp
 .rw[s.st];simp
 .rw[s.kp];simp
theorem Nxt.of{l:List Addr}(h:StAt O' C x dx p st kp S')(b:ButO O O' l)(hl:∀a∈l,a∈[x,p,st,kp]):Nxt O O' C x dx p st kp st kp S':=
 ⟨h,b.mono hl,fun a ha=>by
  by_cases e:a∈[x,p,st,kp]
  .exact h.some a e
  .rw[b.mono hl a e ha];exact ha,.inl rfl,.inl rfl⟩
theorem Nxt.xp(h:StAt O' C x dx p st kp S')(b:But O O' x p):Nxt O O' C x dx p st kp st kp S':=.of h b.butO (by simp)
theorem Nxt.xp'(h:StAt O' C x dx p st kp S')(b:∀b,b≠x->b≠p->O b≠none->O' b=O b):Nxt O O' C x dx p st kp st kp S':=
 .of (l:=[x,p]) h (λa ha h0=>b a (λe=>ha (by simp[e])) (λe=>ha (by simp[e])) h0) (by simp)
theorem Nxt.refl(h:StAt O C x dx p st kp S):Nxt O O C x dx p st kp st kp S:=.of (l:=[]) h ButO.refl (by simp)
theorem Nxt.anew(hs:StAt O C x dx p st kp S)(h:StAt O' C x dx p st' kp' S')(b:ButO O O' [x,p])(h1:O st'=none)(h2:O kp'=none):Nxt O O' C x dx p st kp st' kp' S':=
 ⟨h,b.mono (by simp),fun a ha=>by
  by_cases e:a∈[x,p]
  .exact h.some a (by simp at e;rcases e with rfl|rfl<;>simp)
  .rw[b a e ha];exact ha,.inr h1,.inr h2⟩
theorem Nxt.trans(a:Nxt O O1 C x dx p st kp st1 kp1 S1)(b:Nxt O1 O2 C x dx p st1 kp1 st' kp' S'):Nxt O O2 C x dx p st kp st' kp' S':=by
 refine⟨b.s,λc hc h0=>?_,λc hc=>b.n c (a.n c hc),?_,?_⟩
 .have q1:=a.b c hc h0
  simp only[List.mem_cons,List.not_mem_nil,or_false,not_or]at hc;rw[b.b c ?_ (by rw[q1];exact h0),q1];simp only[List.mem_cons,List.not_mem_nil,or_false,not_or];refine⟨hc.1,hc.2.1,λe=>?_,λe=>?_⟩
  .rcases a.e1 with z|z
   .exact hc.2.2.1 (e.trans z)
   .rw[<-e]at z;exact h0 z
  .rcases a.e2 with z|z
   .exact hc.2.2.2 (e.trans z)
   .rw[<-e]at z;exact h0 z
 .rcases b.e1 with z|z
  .rw[z];exact a.e1
  .refine .inr (Classical.byContradiction λq=>a.n _ q z)
 .rcases b.e2 with z|z
  .rw[z];exact a.e2
  .refine .inr (Classical.byContradiction λq=>a.n _ q z)
theorem Nxt.old(a:Nxt O O1 C x dx p st kp st' kp' S')(h:Old O1 O2):Nxt O O2 C x dx p st kp st' kp' S':=
 ⟨a.s.old h,fun c hc h0=>by
  have q:=a.b c hc h0;rw[h c (by rw[q];exact h0),q],λc hc=>by
  have q:=a.n c hc;rw[h c q];exact q,a.e1,a.e2⟩
variable {x2 dx2 p2 st2 kp2:Addr}{S2:ST}
end
noncomputable def LsOk(S:ST):Prop:=S.last=.none\/∃c,S.last=.str c/\PyData.strOk c=true
theorem zgC:(pF S).last=S.last:=by
 unfold pF;split<;>rfl
theorem UX{c:Str}:(putS0 c S).last=.str c:=by
 rw[vL,zgC];rfl
theorem zdQ{c:Str}(h:Bds S):Bds (putS0 c S):=by
 rw[vL];exact(show Bds (L2.pE c (L2.pD c (L2.pC (L2.pB (L2.pA S)))))from{ h.pA.pB.pC with }).pF
noncomputable def itS(c:Str):Nat->ST->ST
 |0,S=>S
 |n+1,S=>putS0 c (itS c n S)
theorem zdR{c:Str}(h:S.last=.str c):∀n,(itS c n S).last=.str c
 |0=>h
 |_+1=>UX
theorem zbT{c:Str}(h:Bds S):∀n,Bds (itS c n S)
 |0=>h
 |n+1=>zdQ (zbT h n)
structure Good (n:Nat) (S:ST):Prop where
 b:Bds S
 k:KOk S
 a:AllOk S
 l:LsOk S
 s:S.stops.length<=n
noncomputable def agS(m:PyData)(S:ST):ST:=match S.last with
 |.str c=>itS c (oneD m).toNat S
 |_=>S
noncomputable def wicS(n:PyData)(S:ST):ST:=wipS (S.row*S.w+S.col) (S.row*S.w+(if(S.w:Int)<S.col+oneD n then(S.w:Int)else S.col+oneD n)) S
noncomputable def wiwS(m:PyData)(S:ST):ST:=wipS (spI (wayD m) S).1 (spI (wayD m) S).2 S
noncomputable def actS(c:Nat)(a b:PyData)(ns:List PyData)(S:ST):ST:=
 if c= 104 then leftS S else if c= 116 then stopS S else if c= 84 then cutS S else if c= 85 then clrS S else if c= 118 then keepS S else if c= 122 then backS S else if c= 90 then newS S
 else if c= 117\/c= 100\/c= 108\/c= 114 then offS (goS c (oneD a) S)else if c= 121 then tabS (oneD a).toNat S else if c= 89 then bakS (oneD a).toNat S else if c= 112 then agS a S
 else if c= 82 then rollT true a S else if c= 68 then rollT false a S else if c= 105 then lineS (-(oneD a)) S else if c= 107 then lineS (oneD a) S
 else if c= 115 then cellsS (-(oneD a)) S else if c= 120 then cellsS (oneD a) S else if c= 101 then wicS a S else if c= 119 then wiwS a S
 else if c= 103 then plS a b S else if c= 109 then rowsS a b S else if c= 77 then colsS a b S
 else if c= 99 then dyeS ns S else if c= 111 then modesS ns true S else if c= 102 then modesS ns false S else S
structure Smo (S S':ST):Prop where
 w:S'.w=S.w
 h:S'.h=S.h
 s:S'.stops=S.stops
 k:S'.kept=S.kept
 p:S'.pic=S.pic
 l:S'.last=S.last
structure Sno (S S':ST):Prop where
 w:S'.w=S.w
 h:S'.h=S.h
 s:S'.stops=S.stops
 k:S'.kept=S.kept
section
variable {S' S1:ST}{c:Nat}{a b:PyData}{ns:List PyData}{f:ST->ST}
theorem Smo.refl:Smo S S:=⟨rfl,rfl,rfl,rfl,rfl,rfl⟩
theorem Smo.trans(x:Smo S S1)(y:Smo S1 S'):Smo S S':=⟨y.w.trans x.w,y.h.trans x.h,y.s.trans x.s,y.k.trans x.k,y.p.trans x.p,y.l.trans x.l⟩
theorem Smo.toN(x:Smo S S'):Sno S S':=⟨x.w,x.h,x.s,x.k⟩
theorem Sno.refl:Sno S S:=⟨rfl,rfl,rfl,rfl⟩
theorem Sno.trans(x:Sno S S1)(y:Sno S1 S'):Sno S S':=⟨y.w.trans x.w,y.h.trans x.h,y.s.trans x.s,y.k.trans x.k⟩
theorem AllOk.sm(h:AllOk S)(e:Smo S S'):AllOk S':=by
 obtain⟨h1,h2⟩:=h;refine⟨λi j hi hj=>?_,by rw[e.l];exact h2⟩;rw[e.p];exact h1 i j (by rw[<-e.h];exact hi) (by rw[<-e.w];exact hj)
theorem Good.sn(h:Good n S)(e:Sno S S')(hb:Bds S')(ha:AllOk S')(hl:LsOk S'):Good n S':=
 ⟨hb,h.k.of ⟨e.w,e.h,e.s,e.k⟩,ha,hl,by rw[e.s];exact h.s⟩
theorem Good.sm(h:Good n S)(e:Smo S S')(hb:Bds S'):Good n S':=h.sn e.toN hb (h.a.sm e) (by unfold LsOk;rw[e.l];exact h.l)
theorem Good.up(h:Good n S):Good (n+1) S:=⟨h.b,h.k,h.a,h.l,Nat.le_succ_of_le h.s⟩
theorem VJ:Smo S (plS a b S):=by unfold plS;split<;>exact⟨rfl,rfl,rfl,rfl,rfl,rfl⟩
theorem zgD:Smo S (rowsS a b S):=by
 unfold rowsS;split
 .exact .refl
 .refine Smo.trans ?_ VJ
  exact⟨rfl,rfl,rfl,rfl,rfl,rfl⟩
theorem zgE:Smo S (colsS a b S):=by
 unfold colsS;split
 .exact .refl
 .refine Smo.trans ?_ VJ
  exact⟨rfl,rfl,rfl,rfl,rfl,rfl⟩
theorem zkw{m:Int}:Smo S (offS (goS c m S)):=by
 unfold goS
 repeat' split
 all_goals exact⟨rfl,rfl,rfl,rfl,rfl,rfl⟩
theorem zdS{on:Bool}{d:PyData}:Smo S (modeP on S d):=by
 unfold modeP
 repeat' split
 all_goals exact⟨rfl,rfl,rfl,rfl,rfl,rfl⟩
theorem zbU{on:Bool}{d:PyData}(h:Bds S):Bds (modeP on S d):=by
 unfold modeP
 repeat' split
 all_goals exact{ h with }
theorem UY{on:Bool}:∀{ns:List PyData}{S:ST},Bds S->Smo S (ns.foldl (modeP on) S)/\Bds (ns.foldl (modeP on) S)
 |[],_,h=>⟨.refl,h⟩
 |d::ns,S,h=>by
  obtain⟨q1,q2⟩:=UY (on:=on) (ns:=ns) (zbU (on:=on) (d:=d) h);exact⟨zdS.trans q1,q2⟩
theorem UZ{on:Bool}(h:Bds S):Smo S (modesS ns on S)/\Bds (modesS ns on S):=by
 obtain⟨q1,q2⟩:=UY (on:=on) (ns:=ns) h;unfold modesS;split
 .exact⟨q1.trans VJ,q2.pl⟩
 .exact⟨q1,q2⟩
theorem zgF{m:Nat}(h:Bds S):Bds (tabS m S):=by
 have e:=Zp h;have c0:=h.c0;have q:=UV (f:=fwd S.stops (eR S)) (N:=S.w) (λc hc=>zi4 hc.1 (by omega) (by omega)) m ⟨h.c0,h.c1⟩;exact{ h with c0:=q.1,c1:=q.2 }
theorem zgG{m:Nat}(h:Bds S):Bds (bakS m S):=by
 have e:=VE h;have q:=UV (f:=bwd S.stops (eL S)) (N:=S.w) (λc hc=>zi5 e.1 hc.2 e.2) m ⟨h.c0,h.c1⟩;exact{ h with c0:=q.1,c1:=q.2 }
theorem U0:Sno S (lineE S):=by
 unfold lineE;dsimp only;split
 .exact⟨rfl,rfl,rfl,rfl⟩
 .split<;>exact⟨rfl,rfl,rfl,rfl⟩
theorem zi9{z:Str}:Sno S (putS0 z S):=by
 rw[vL];have h1:Sno S (pA S):=by
  unfold pA;split
  .exact U0
  .exact .refl
 have h3:Sno (pB (pA S)) (pC (pB (pA S))):=by
  unfold pC;split
  .exact⟨rfl,rfl,rfl,rfl⟩
  .exact .refl
 have h5:∀S,Sno S (pF S):=λS=>by
  unfold pF;split<;>exact⟨rfl,rfl,rfl,rfl⟩
 exact(h1.trans (⟨rfl,rfl,rfl,rfl⟩:Sno (pA S) (pB (pA S)))).trans (h3.trans (Sno.trans (⟨rfl,rfl,rfl,rfl⟩:Sno (pC (pB (pA S))) (pE z (pD z (pC (pB (pA S)))))) (h5 _)))
theorem Good.put{z:Str}(h:Good n S)(hz:PyData.strOk z=true):Good n (putS0 z S):=h.sn zi9 h.b.put (h.a.put h.b hz) (.inr ⟨z,UX,hz⟩)
theorem Good.it{z:Str}(h:Good n S)(hz:PyData.strOk z=true):∀m,Good n (itS z m S)
 |0=>h
 |m+1=>(h.it hz m).put hz
theorem JQ(h:LsOk S)(e:S'.last=S.last):LsOk S':=by unfold LsOk;rw[e];exact h
theorem Good.lineE (h:Good n S):Good n (lineE S):=h.sn U0 h.b.lineE (h.a.lineE h.b) (JQ h.l (by
  unfold L2.lineE;dsimp only;split
  · rfl
  · split<;>rfl))
theorem Good.tab{m:Nat}(h:Good n S):Good n (tabS m S):=h.sm ⟨rfl,rfl,rfl,rfl,rfl,rfl⟩ (zgF h.b)
theorem Good.eff{l:Lt}{m:PyData}(h:Good n S):Good n (effS l m S):=h.sn ⟨rfl,rfl,rfl,rfl⟩ { h.b with } (h.a.eff h.b) h.l
theorem Yz{w:Nat}(h:w<=24):(stopsI w).length<=6:=by
 have:∀w,w<=24->(stopsI w).length<=6:=by decide
 exact this w h
theorem Good.new(h:Good n S)(hn:6<=n):Good n (newS S):=by
 have b0:Bds (st0 S.w S.h S.pic):=by
  have:=h.b.w1;have:=h.b.w2;have:=h.b.h1;have:=h.b.h2;constructor<;>simp only[st0]<;>first|decide|omega
 have a0:AllOk (st0 S.w S.h S.pic):=⟨h.a.1,rfl,rfl⟩;exact⟨{ b0 with },⟨Nat.zero_le _,λk hk=>by cases hk⟩,a0.wip,.inl rfl,Nat.le_trans (Yz h.b.w2) hn⟩
theorem yi{q:Prop}[Decidable q]{A B:ST}(h1:Good n A)(h2:Good n B):Good n (if q then A else B):=by
 split
 .exact h1
 .exact h2
theorem Good.act(h:Good n S)(hn:6<=n)(ha:NumD a):Good (n+1) (actS c a b ns S):=by
 unfold actS;refine yi ?_ ?_
 .exact(Good.sm (S':=leftS S) h ⟨rfl,rfl,rfl,rfl,rfl,rfl⟩ h.b.left).up
 refine yi ?_ ?_
 .refine⟨{ h.b with },h.k,h.a,h.l,?_⟩
  have:=h.s;show(if S.col∈S.stops then S.stops else S.stops++[S.col]).length<=n+1;split
  .omega
  .simp;exact this
 refine yi ?_ ?_
 .exact⟨{ h.b with },h.k,h.a,h.l,Nat.le_succ_of_le (Nat.le_trans (List.length_filter_le _ _) h.s)⟩
 refine yi ?_ ?_
 .exact⟨{ h.b with },h.k,h.a,h.l,Nat.zero_le _⟩
 refine yi ?_ ?_
 .exact(⟨{ h.b with },h.k.keep h.b,h.a,h.l,h.s⟩:Good n (keepS S)).up
 refine yi ?_ ?_
 .obtain⟨q1,q2⟩:=zgt h.k h.b
  refine(⟨q2,q1,?_,?_,?_⟩:Good n _).up
  .unfold backS;split;exact h.a;exact h.a
  .refine JQ h.l ?_;unfold backS;split<;>rfl
  .unfold backS;split;exact h.s;exact h.s
 refine yi ?_ ?_
 .exact(h.new hn).up
 refine yi ?_ ?_
 .have:=yZ (n:=a)
  exact(h.sm zkw (h.b.goS (c:=c) (by omega:0<=oneD a)).late').up
 refine yi ?_ ?_
 .exact h.tab.up
 refine yi ?_ ?_
 .exact(Good.sm (S':=bakS _ S) h ⟨rfl,rfl,rfl,rfl,rfl,rfl⟩ (zgG h.b)).up
 refine yi ?_ ?_
 .unfold agS
  split
  .rename_i z hz
   rcases h.l with e|⟨z',e,hz'⟩
   .rw[e]at hz;cases hz
   .rw[e]at hz;cases hz;exact(h.it hz' _).up
  .exact h.up
 refine yi ?_ ?_
 .exact(h.eff (l:=.R) (m:=a)).up
 refine yi ?_ ?_
 .exact(h.eff (l:=.D) (m:=a)).up
 refine yi ?_ ?_
 .rw[zku];exact h.eff.up
 refine yi ?_ ?_
 .rw[zkv];exact h.eff.up
 refine yi ?_ ?_
 .exact(h.eff (l:=.s) (m:=a)).up
 refine yi ?_ ?_
 .exact(h.eff (l:=.x) (m:=a)).up
 refine yi ?_ ?_
 .exact(h.eff (l:=.e) (m:=a)).up
 refine yi ?_ ?_
 .exact(h.eff (l:=.w) (m:=a)).up
 refine yi ?_ ?_
 .exact(h.sm VJ h.b.pl).up
 refine yi ?_ ?_
 .exact(h.sm zgD h.b.rows).up
 refine yi ?_ ?_
 .exact(h.sm zgE h.b.cols).up
 refine yi ?_ ?_
 .exact(Good.sm (S':=dyeS ns S) h ⟨rfl,rfl,rfl,rfl,rfl,rfl⟩ h.b.dye).up
 refine yi ?_ ?_
 .obtain⟨q1,q2⟩:=UZ (ns:=ns) (on:=true) h.b
  exact(h.sm q1 q2).up
 refine yi ?_ ?_
 .obtain⟨q1,q2⟩:=UZ (ns:=ns) (on:=false) h.b
  exact(h.sm q1 q2).up
 exact h.up
noncomputable def opt(L:List Nat)(c:Nat)(f:ST->ST)(S:ST):ST:=if c∈L then f S else S
theorem jj{L M:List Nat}{f:ST->ST}(h:c∈L->c∉M):opt M c f (opt L c f S)=opt (L++M) c f S:=by
 unfold opt;by_cases h1:c∈L
 .rw[if_pos h1,if_neg (h h1),if_pos (List.mem_append_left _ h1)]
 .rw[if_neg h1]
  by_cases h2:c∈M
  .rw[if_pos h2,if_pos (List.mem_append_right _ h2)]
  .rw[if_neg h2,if_neg (by simp[h1,h2])]
theorem zdT{L M:List Nat}{f:ST->ST}(h:c∈L↔c∈M):opt L c f S=opt M c f S:=by
 unfold opt;by_cases h1:c∈L
 .rw[if_pos h1,if_pos (h.mp h1)]
 .rw[if_neg h1,if_neg λz=>h1 (h.mpr z)]
theorem Good.opt{L:List Nat}(h:Good n S)(hn:6<=n)(ha:NumD a):Good (n+1) (opt L c (actS c a b ns) S):=by
 unfold L2.opt;split
 .exact h.act hn ha
 .exact h.up
noncomputable abbrev lsA:List Nat:=[104,116,84,85,118,122,90]
noncomputable abbrev lsB:List Nat:=[117,100,108,114,121,89,112,82,68,105,107,115,120,101,119]
noncomputable abbrev lsC:List Nat:=[103,109,77]
noncomputable abbrev lsD:List Nat:=[99,111,102]
noncomputable abbrev lsG:List Nat:=[117,100,108,114,104,103,121,89,116,84,85,109,77]
noncomputable abbrev lsE:List Nat:=[82,68,105,107,115,120,101,119,112]
noncomputable abbrev lsM:List Nat:=[99,111,102,118,122,90]
noncomputable def lsAll:List Nat:=lsA++lsB++lsC++lsD
theorem zgH:opt lsD c f (opt lsC c f (opt lsB c f (opt lsA c f S)))=opt lsAll c f S:=by
 have h1:∀c∈lsA,c∉lsB:=by decide
 have h2:∀c∈lsA++lsB,c∉lsC:=by decide
 have h3:∀c∈lsA++lsB++lsC,c∉lsD:=by decide
 rw[jj (h1 c),jj (h2 c),jj (h3 c)];rfl
theorem zgI:opt lsM c f (opt lsE c f (opt lsG c f S))=opt lsAll c f S:=by
 have h1:∀c∈lsG,c∉lsE:=by decide
 have h2:∀c∈lsG++lsE,c∉lsM:=by decide
 have h3:∀c∈lsG++lsE++lsM,c∈lsAll:=by decide
 have h4:∀c∈lsAll,c∈lsG++lsE++lsM:=by decide
 rw[jj (h1 c),jj (h2 c)];exact zdT ⟨h3 c,h4 c⟩
end
theorem zbV{c:Nat}{zs:List PyData}(ks:List Nat){R:Bool->OM->Prop}{q:Prop}[Decidable q](hz:zs=ks.map λk=>.str ⟨#[k]⟩)(hq:q↔c∈ks)(hR:R (decide q) O):∃x,vk O (.d (.tuple zs))=some x/\(∀y,y∈x->scD y=true)/\R (inV (V.str ⟨#[c]⟩) (x.map vOf)) O:=by
 refine⟨zs,rfl,λy hy=>?_,?_⟩
 .rw[hz]at hy
  obtain⟨k,_,rfl⟩:=List.mem_map.mp hy;rfl
 .have e:inV (V.str ⟨#[c]⟩) (zs.map vOf)=decide q:=by
   rw[hz,List.map_map];have:decide q=decide (c∈ks):=decide_eq_decide.mpr hq;rw[this];clear hz hq this hR
   induction ks with
   |nil=>rfl
   |cons k ks ih=>
    have h1:inV (V.str ⟨#[c]⟩) ((k::ks).map (vOf∘λk=>PyData.str ⟨#[k]⟩))=(decide (k=c)||inV (V.str ⟨#[c]⟩) (ks.map (vOf∘λk=>PyData.str ⟨#[k]⟩))):=by
     unfold inV;rw[List.map_cons,List.any_cons]
     congr 1
     show eqV (V.str ⟨#[k]⟩) (V.str ⟨#[c]⟩)=_;simp only[eqV];by_cases e:k=c
     .subst e;simp
     .simp[e]
    rw[h1,ih];simp only[List.mem_cons];by_cases e:k=c
    .subst e;simp
    .simp[e,Ne.symm e]
  rw[e];exact hR
theorem zgJ{c:Nat}(h:c<128):inS (Str.ofString "udlr") ⟨#[c]⟩=decide (c= 117\/c= 100\/c= 108\/c= 114):=by
 have:∀n:_root_.Fin 128,inS (Str.ofString "udlr") ⟨#[n.val]⟩=decide (n.val= 117\/n.val= 100\/n.val= 108\/n.val= 114):=by decide +kernel
 exact this ⟨c,h⟩
theorem zkx{c:Nat}(h:c<128):inS (Str.ofString "RD") ⟨#[c]⟩=decide (c= 82\/c= 68):=by
 have:∀n:_root_.Fin 128,inS (Str.ofString "RD") ⟨#[n.val]⟩=decide (n.val= 82\/n.val= 68):=by decide +kernel
 exact this ⟨c,h⟩
theorem zja{c:Nat}(h:c<128):inS (Str.ofString "of") ⟨#[c]⟩=decide (c= 111\/c= 102):=by
 have:∀n:_root_.Fin 128,inS (Str.ofString "of") ⟨#[n.val]⟩=decide (n.val= 111\/n.val= 102):=by decide +kernel
 exact this ⟨c,h⟩
theorem zky{a:PyData}{S':ST}(hl:LsOk S)(h1:S.last=.none->S'=S)(h2:∀c,S.last=.str c->S'=itS c (oneD a).toNat S):S'=agS a S:=by
 unfold agS;rcases hl with e|⟨c,e,_⟩
 .rw[h1 e,e]
 .rw[h2 c e,e]
inductive sDo (C:Addr) (L:List Nat) (g:PyData->PyData->List PyData->List W) (ws:List W) (O:OM) (R:WK):Prop
 |mk:∀n c a b ns x dx p st kp S,ws=.own x :: .d (.str ⟨#[c]⟩)::g a b ns->n<=90->c<128->NumD a->NumD b->(∀m∈ns,NumD m)->StAt O C x dx p st kp S->Good n S->(∀st' kp' O',Nxt O O' C x dx p st kp st' kp' (opt L c (actS c a b ns) S)->R (.d .none) O')->sDo C L g ws O R
noncomputable def ze4:V->List V->Hp->VK->Prop:=Zi
theorem JR:MtR X "list.append" ze4:=xq
theorem zjb{T:String}:RefM K T ze4 KK:=ziI
structure Dds (K:W.Frag) (mg:Str->Option Value) (cD cS cL cT cR:Addr):Prop where
 m_Deed:mg "Deed" =some (.ref cD)
 m_Sign:mg "Sign" =some (.ref cS)
 m_Line:mg "Line" =some (.ref cL)
 m_Tab:mg "Tab" =some (.ref cT)
 m_Row:mg "Row" =some (.ref cR)
 k_S:IsK K cS
 k_L:IsK K cL
 k_T:IsK K cT
 k_R:IsK K cR
 n_sign:NoAttr K cS "sign"
 n_letter:NoAttr K cR "letter"
 n_numbers:NoAttr K cR "numbers"
 i_SD:W.kitOne K (.ref cS) (.ref cD)=some true
 i_LD:W.kitOne K (.ref cL) (.ref cD)=some true
 i_TD:W.kitOne K (.ref cT) (.ref cD)=some true
 i_RD:W.kitOne K (.ref cR) (.ref cD)=some true
 i_SS:W.kitOne K (.ref cS) (.ref cS)=some true
 i_SL:W.kitOne K (.ref cS) (.ref cL)=some false
 i_ST:W.kitOne K (.ref cS) (.ref cT)=some false
 i_SR:W.kitOne K (.ref cS) (.ref cR)=some false
 i_LS:W.kitOne K (.ref cL) (.ref cS)=some false
 i_LL:W.kitOne K (.ref cL) (.ref cL)=some true
 i_LT:W.kitOne K (.ref cL) (.ref cT)=some false
 i_LR:W.kitOne K (.ref cL) (.ref cR)=some false
 i_TS:W.kitOne K (.ref cT) (.ref cS)=some false
 i_TL:W.kitOne K (.ref cT) (.ref cL)=some false
 i_TT:W.kitOne K (.ref cT) (.ref cT)=some true
 i_TR:W.kitOne K (.ref cT) (.ref cR)=some false
 i_RS:W.kitOne K (.ref cR) (.ref cS)=some false
 i_RL:W.kitOne K (.ref cR) (.ref cL)=some false
 i_RT:W.kitOne K (.ref cR) (.ref cT)=some false
 i_RR:W.kitOne K (.ref cR) (.ref cR)=some true
inductive Rea where
 |sign (c:Nat)
 |line
 |tab
 |row (c:Nat) (ns:List PyData)
noncomputable def rdD:Rea->PyData
 |.sign c=>.tuple [.str "sign",.str ⟨#[c]⟩]
 |.line=>.tuple [.str "line"]
 |.tab=>.tuple [.str "tab"]
 |.row c ns=>.tuple [.str "row",.str ⟨#[c]⟩,.tuple ns]
noncomputable def numT:PyData->Str
 |.int i=>strI i
 |_=>Str.empty
noncomputable def rowT(c:Nat)(ns:List PyData):Str:=Str.ofString "~" ++ Txt.join (Str.ofString ";") (ns.map numT)++⟨#[c]⟩
noncomputable def rdT:Rea->Str
 |.sign c=>if c= 126 then Str.ofString "~~" else⟨#[c]⟩
 |.line=>Str.ofString "\n"
 |.tab=>Str.ofString "\t"
 |.row c ns=>rowT c ns
noncomputable def nmA(ns:List PyData)(i:Nat):PyData:=ns.getD i .none
structure OkNs (ns:List PyData):Prop where
 n:∀m∈ns,NumD m
 l:ns.length<=6
 o:1<=ns.length
noncomputable def OkR:Rea->Prop
 |.sign c=>c<128/\32<=c
 |.line=>True
 |.tab=>True
 |.row c ns=>c<128/\OkNs ns
noncomputable def DAt(cS cL cT cR:Addr)(O:OM)(d:Addr):Rea->Prop
 |.sign c=>∃dx,O d=some (.ins cS dx [("sign",.d (.str ⟨#[c]⟩))])
 |.line=>∃dx,O d=some (.ins cL dx [])
 |.tab=>∃dx,O d=some (.ins cT dx [])
 |.row c ns=>∃dx,O d=some (.ins cR dx [("letter",.d (.str ⟨#[c]⟩)),("numbers",.d (.tuple ns))])
noncomputable def rdS'(r:Rea)(S:ST):ST:=match r with
 |.sign c=>putS0 ⟨#[c]⟩ S
 |.line=>lineE S
 |.tab=>tabS 1 S
 |.row c ns=>if c= 113 then S else opt lsAll c (actS c (nmA ns 0) (nmA ns 1) ns) S
noncomputable def rdA(r:Rea)(S:ST):List Str:=match r with
 |.row c ns=>if c= 113 then ansL S ns else[]
 |_=>[]
section
variable {A B:TSW}{D:EndsW}{ρ:WS}{O':OM}{x st kp st' kp' d dd E:Addr}{fs:List (Str×W)}{fn y z:Str}{v:W}{S':ST}
theorem xi{R:WK}(hv:ρ[i]? =some (some (.own d)))(hd:O d=some (.ins E dd fs))(hc:Cls K E)(hn:NoAttr K E fn)(hl:fs.lookup fn=some v)(h:R v O):xh K (z9 i) fn ρ O R:=by
 unfold xh z9;rw[hv];exact⟨E,dd,fs,hd,hc,hn,v,hl,h⟩
theorem U1{R:Bool->OM->Prop}(h:R (decide (y=z)) O):vEq (.d (.str y)) (.d (.str z)) O (λx O1=>match x with|.d (.bool k)=>R k O1|_=>False):=by
 refine⟨rfl,rfl,rfl,?_⟩;have e:decide (vOf (.str y)=vOf (.str z))=decide (y=z):=by simp[vOf]
 rw[e];exact h
theorem ze5{R:WK}(h:R (.d (.bool (decide (y=z)))) O):vEq (.d (.str y)) (.d (.str z)) O R:=by
 refine⟨rfl,rfl,rfl,?_⟩;have e:decide (vOf (.str y)=vOf (.str z))=decide (y=z):=by simp[vOf]
 rw[e];exact h
theorem zjc(hv:ρ[i]? =some (some (.own d)))(hd:O d=some (.ins E dd fs))(hc:Cls K E)(hn:NoAttr K E fn)(hl:fs.lookup fn=some (.d (.str y)))(h1:y=z->A D ρ O)(h2:y≠z->B D ρ O):vm (yY (wOp vEq (xh K (z9 i) fn) (wC (.str z)))) A B D ρ O:=by
 refine yV (y=z) (λR hR=>?_) h1 h2;unfold yY wOp;refine xi hv hd hc hn hl ?_;exact U1 hR
theorem vy{k:Int}(hv:ρ[i]? =some (some (.d (.tuple ds))))(hk:atI ds k=some (.str y))(h1:y=z->A D ρ O)(h2:y≠z->B D ρ O):vm (yY (wOp vEq (wOp yX (z9 i) (wC (.int k))) (wC (.str z)))) A B D ρ O:=by
 refine yV (y=z) (λR hR=>?_) h1 h2;unfold yY wOp z9;rw[hv];refine⟨ds,k,_,rfl,rfl,hk,?_⟩;exact U1 hR
theorem zgK{U:TSW}(hv:ρ[i]? =some (some (.own d)))(hd:O d=some (.ins E dd fs))(hc:Cls K E)(hn:NoAttr K E fn)(hl:fs.lookup fn=some (.d (.str y)))(h1:y=z->A { D with nx:=U D } ρ O)(h2:y≠z->U D ρ O):xg (vm (yY (wOp vEq (xh K (z9 i) fn) (wC (.str z)))) A uH) U D ρ O:=zjc hv hd hc hn hl h1 h2
theorem yy{U:TSW}{k:Int}(hv:ρ[i]? =some (some (.d (.tuple ds))))(hk:atI ds k=some (.str y))(h1:y=z->A { D with nx:=U D } ρ O)(h2:y≠z->U D ρ O):xg (vm (yY (wOp vEq (wOp yX (z9 i) (wC (.int k))) (wC (.str z)))) A uH) U D ρ O:=vy hv hk h1 h2
theorem zgL{R:WK}{Ta Tb:TEW}(hv:ρ[i]? =some (some (.own d)))(hd:O d=some (.ins E dd fs))(hc:Cls K E)(hn:NoAttr K E fn)(hl:fs.lookup fn=some (.d (.str y)))(h1:y=z->Ta ρ O R)(h2:y≠z->Tb ρ O R):wIf (yY (wOp vEq (xh K (z9 i) fn) (wC (.str z)))) Ta Tb ρ O R:=by
 unfold wIf yY wOp;refine xi hv hd hc hn hl ?_;refine U1 (R:=λc O1=>if c=true then Ta ρ O1 R else Tb ρ O1 R) ?_;by_cases e:y=z
 .rw[decide_eq_true e];exact h1 e
 .rw[decide_eq_false e];exact h2 e
theorem x5{R:WK}{k:Int}{e:PyData}(hv:ρ[i]? =some (some (.d (.tuple ds))))(hk:atI ds k=some e)(h:R (.d e) O):wOp yX (z9 i) (wC (.int k)) ρ O R:=by
 unfold wOp z9;rw[hv];exact⟨ds,k,_,rfl,rfl,hk,h⟩
theorem K3{c k:Nat}:((⟨#[c]⟩:Str)=⟨#[k]⟩)=(c=k):=by simp
theorem Old.up{o:OO}(h:O a=none):Old O (updO O a o):=λb hb=>ze λe=>hb (by rw[e];exact h)
theorem Nxt.nk(N:Nxt O O' C x dx p st kp st' kp' S'){q:Addr}(h:O' q=none):q≠kp':=λe=>by rw[e,N.s.kp]at h;cases h
theorem Nxt.nn(N:Nxt O O' C x dx p st kp st' kp' S'){q:Addr}(h:O' q=none):O q=none:=Classical.byContradiction λe=>N.n q e h
theorem ze6(hd:O d=some (.ins E dd fs))(hs:StAt O C x dx p st kp S)(h:fs.length≠17):d≠x:=neW hd hs.x λe=>by
 injection e with _ _ e;exact h (by rw[e];rfl)
theorem Nxt.ins(N:Nxt O O' C x dx p st kp st' kp' S')(hs:StAt O C x dx p st kp S)(hd:O d=some (.ins E dd fs))(h:d≠x):O' d=some (.ins E dd fs):=by
 refine N.b.old hd ?_;simp only[List.mem_cons,List.not_mem_nil,or_false,not_or];exact⟨h,neW hd hs.p (by intro h;cases h),neW hd hs.st (by intro h;cases h),neW hd hs.kp (by intro h;cases h)⟩
end
theorem kH{ns:List PyData}(h:∀m∈ns,NumD m):NumD (nmA ns i):=by
 unfold nmA;rw[List.getD_eq_getElem?_getD];cases e:ns[i]? with
 |none=>exact trivial
 |some m=>exact h m (List.mem_of_getElem? e)
theorem VL{c:Nat}(h:c<128):PyData.strOk ⟨#[c]⟩=true:=by
 have:∀n:_root_.Fin 128,PyData.strOk ⟨#[n.val]⟩=true:=by decide +kernel
 exact this ⟨c,h⟩
noncomputable def zdU:W->Option PyData
 |.d .none=>some (.str (Str.ofString ""))
 |.d (.int i)=>some (.str (Str.ofString i.repr))
 |_=>none
theorem kI:∀{ns:List PyData},(∀m∈ns,NumD m)->ns.filterMap (zdU∘W.d)=(ns.map numT).map PyData.str
 |[],_=>rfl
 |n::ns,h=>by
  have q:=h n (List.mem_cons_self ..);have ih:=kI (ns:=ns) λm hm=>h m (List.mem_cons_of_mem _ hm);rw[List.filterMap_cons];cases n with
  |none=>exact congrArg _ ih
  |int i=>exact congrArg _ ih
  |_=>exact q.elim
theorem zdV{n:PyData}(h:NumD n):(numT n).length<=8:=by
 cases n with
 |none=>exact Nat.zero_le _
 |int i=>
  obtain⟨h1,h2⟩:=h;have q:(toString i).length<=7+1:=int_text_length_le10 (by decide) (show i.natAbs<10 ^ 7 by omega);show(Str.ofString (toString i)).length<=8;rw[PySem.ofString_length];exact q
 |_=>exact h.elim
theorem jE:∀{ns:List PyData},(∀m∈ns,NumD m)->((ns.map numT).map (·.length)).sum<=8*ns.length
 |[],_=>Nat.le_refl _
 |n::ns,h=>by
  have q:=zdV (h n (List.mem_cons_self ..));have ih:=jE (ns:=ns) λm hm=>h m (List.mem_cons_of_mem _ hm);simp only[List.map_cons,List.sum_cons,List.length_cons]at ih ⊢;omega
theorem U2(zs:List Str):yc O (.d (.list (zs.map PyData.str)))=some (zs.map qA):=by
 simp only[yc,List.map_map];rfl
theorem U3{ns:List PyData}(h:OkNs ns):(Txt.join (Str.ofString ";") (ns.map numT)).length<=60:=by
 have q:=UE (Str.ofString ";") (ns.map numT);have s:=jE h.n;have l:=h.l;rw[Zr];have e:(Str.ofString ";").length= 1:=by decide +kernel
 rw[e,List.length_map]at q;show(Str.join (Str.ofString ";") (ns.map numT)).cps.toList.length<=60;omega
inductive sDeedDo (C:Addr) (A:OM->Addr->Rea->Prop) (ws:List W) (O:OM) (R:WK):Prop
 |mk:∀r n d x dx p st kp S,ws=[.own d,.own x]->A O d r->OkR r->n<=80->6<=n->StAt O C x dx p st kp S->Good n S->(∀q st' kp' O',O q=none->O' q=some (.lst (((rdA r S).map .str).map .d))->q≠kp'->Nxt O O' C x dx p st kp st' kp' (rdS' r S)->R (.own q) O')->sDeedDo C A ws O R
noncomputable def aS(cS:Addr)(O:OM)(d:Addr)(r:Rea):Prop:=∃c dx,r=.sign c/\O d=some (.ins cS dx [("sign",.d (.str ⟨#[c]⟩))])
noncomputable def aL(cL:Addr)(O:OM)(d:Addr)(r:Rea):Prop:=∃dx,r=.line/\O d=some (.ins cL dx [])
noncomputable def aT(cT:Addr)(O:OM)(d:Addr)(r:Rea):Prop:=∃dx,r=.tab/\O d=some (.ins cT dx [])
noncomputable def aR(cR:Addr)(O:OM)(d:Addr)(r:Rea):Prop:=∃c ns dx,r=.row c ns/\O d=some (.ins cR dx [("letter",.d (.str ⟨#[c]⟩)),("numbers",.d (.tuple ns))])
noncomputable def sNoDo:SpW:=λws O R=>∃a b,ws=[a,b]/\∀q,O q=none->R (.own q) (updO O q (.lst []))
noncomputable def sNoSigns:SpW:=λws O R=>∃a,ws=[a]/\R (.d (.str Str.empty)) O
inductive sDeedOf (cS cL cT cR:Addr) (ws:List W) (O:OM) (R:WK):Prop
 |mk:∀r,ws=[.d (rdD r)]->OkR r->(∀d O',O d=none->DAt cS cL cT cR O' d r->Old O O'->R (.own d) O')->sDeedOf cS cL cT cR ws O R
inductive sSigns (A:OM->Addr->Rea->Prop) (ws:List W) (O:OM) (R:WK):Prop
 |mk:∀r d,ws=[.own d]->A O d r->OkR r->(∀O',Old O O'->R (.d (.str (rdT r))) O')->sSigns A ws O R
section
variable {w:World}{it l:Addr}{items:Array Value}
theorem X2(ne:l≠it):∀(n i:Nat) (s:Shared) (Q:List Value->Shared->Prop),s.heap.IsListIter it l i->s.heap.IsList l items->i+n<=items.size->
  (∀h':Heap,h'.IsListIter it l (i+n)->Heap.SameBut it s.heap h'->Q (List.take n (List.drop i items.toList)) { s with heap:=h' })->wpAny (model prog w) A (draw (.ref it) n) Q E s
 |0,i,s,Q,st,hl,hn,h=>by
  rw[draw.eq_1];exact wpAny_pure (h s.heap st ⟨rfl,λ_ _=>rfl⟩)
 |n+1,i,s,Q,st,hl,hn,h=>by
  rw[draw.eq_2];have hi:i<items.size:=by omega
  have hx:items[i]? =some items[i]:=Array.getElem?_eq_getElem hi;refine wpAny_bind (wpAny_pyNext_list_item st hl hx λh1 st1 sb1=>?_);have hl1:h1.IsList l items:=hl.at λo e=>(sb1.2 l ne).trans e;refine wpAny_bind (wpAny_holding (X2 ne n (i+1) { s with heap:=h1 } _ st1 hl1 (by omega) λh2 st2 sb2=>wpAny_pure ?_));have e:List.take (n+1) (List.drop i items.toList)=items[i]::List.take n (List.drop (i+1) items.toList):=by
   rw[List.drop_eq_getElem_cons (by simpa using hi),List.take_succ_cons];simp
  rw[<-e];exact h h2 (by rw[show i+(n+1)=i+1+n by omega];exact st2) ⟨sb2.1.trans sb1.1,λb hb=>(sb2.2 b hb).trans (sb1.2 b hb)⟩
theorem ZT{Q:List Value->Shared->Prop}(hh:A.handled=none)(hl:s.heap.IsList l items)(hQ:∀h':Heap,Heap.ExtBut s.heap.objs.size s.heap h'->Q items.toList { s with heap:=h' }) :
  wpAny (model prog w) A (unpackItems (.ref l) items.size none) Q E s:=by
 have hlt:l≠s.heap.objs.size:=by
  obtain⟨o,ho,_⟩:=id hl;exact Nat.ne_of_lt (Heap.lt_size ho)
 unfold unpackItems;refine wpAny_bind ?_;unfold notIterableAtAll;refine wpAny_bind (wpAny_specialOf hl.typeIs F.slot_list_iter.lookup ?_);refine wpAny_pure ?_;simp only[Bool.false_eq_true,if_false];refine wpAny_bind (wpAny_holding (wpAny_pyIter_list hl ?_));refine wpAny_bind (wpAny_holding (X2 hlt items.size 0 _ _ ⟨_,Heap.get?_push_size _ rfl,rfl,rfl⟩ (hl.push _) (by omega) λh1 st1 sb1=>?_));have hall:List.take items.size (List.drop 0 items.toList)=items.toList:=by rw[List.drop_zero,List.take_of_length_le (by simp)]
 rw[hall,if_neg (by simp)];have hl1:h1.IsList l items:=(hl.push _).at λo e=>(sb1.2 l hlt).trans e;refine wpAny_bind (wpAny_holding (wpAny_pyNext_list_end hh st1 hl1 (by simp) λh2 eb2=>?_));rw[if_neg (by simp)];exact wpAny_pure (hQ h2 λb o hb e=>eb2 b o hb ((sb1.2 b hb).trans (Heap.get?_push_of_some _ e)))
end
section
variable {w:World}
theorem QZ{env:Env}{elts:List Expr}{t:Addr}{items:Array Value}{Q:Unit->Shared->Prop}(hh:A.handled=none)(ht:s.heap.IsList t items)
  (hn:(assignEach elts env).length=items.size)(hstar:(assignEach elts env).findIdx? (·.1)=none)
  (h:∀h',Heap.ExtBut s.heap.objs.size s.heap h'->wpAny (model prog w) A (assignInOrder ((assignEach elts env).map (·.2)) items.toList) Q E { s with heap:=h' }) :
  wpAny (model prog w) A (unpack (.ref t) (assignEach elts env)) Q E s:=by
 unfold unpack;rw[hn,hstar];exact wpAny_bind (wpAny_holding (ZT hh ht h))
theorem Zw{env:Env}{elts:List Expr}{x1:Nat}{t:Addr}{items:Array Value}{Q:Unit->Shared->Prop}(hh:A.handled=none)(ht:s.heap.IsList t items)
  (hn:(assignEach elts env).length=items.size)(hstar:(assignEach elts env).findIdx? (·.1)=none)
  (h:∀h',Heap.ExtBut s.heap.objs.size s.heap h'->wpAny (model prog w) A (assignInOrder ((assignEach elts env).map (·.2)) items.toList) Q E { s with heap:=h' }) :
  wpAny (model prog w) A (assign (.Tuple elts x1 pos) env (.ref t)) Q E s:=by
 rw[assign_Tuple];exact wpAny_bind (wpAny_standAt (QZ hh ht hn hstar h))
end
noncomputable def ze7(K:W.Frag)(n:Nat)(t:TGs):TG:=λv σ H Q=>∃a xs,v=.ref a/\SqL K H a xs/\xs.length=n/\t xs σ H Q
theorem zgM{k:Nat}{t:TGs}(hK:X.K=K)(hc:X.calm=true)(h:PGs X es t)
  (hn:(assignEach es X.env).length=n:=by rfl)(hst:(assignEach es X.env).findIdx? (·.1)=none:=by rfl):PG X (.Tuple es k pos) (ze7 K n t):=by
 subst hK;intro pins s σ H v u Q I r hw;obtain⟨a,xs,e1,hq,hl,hw⟩:=hw;subst e1;cases r;obtain⟨its,rv,p,hz⟩:=I.list hq;refine Zw (I.ok.hd hc) p.isList (by simp[hn,<-hl,rv.length]) hst λh' hx=>?_;have I1:Inv X pins σ H { s with heap:=h' }:=I.kept (t':=s.toks) λb o e=>hx b o (Nat.ne_of_lt (Heap.lt_size e)) e;exact h pins _ σ H xs _ Q I1 (by simpa using rv) hw
noncomputable def ze8(n:Nat)(U:TGsW):TGW:=λw ρ O R=>∃ds,w=.d (.list ds)/\ds.length=n/\U ds ρ O R
theorem zbW{t:TGs}{U:TGsW}(h:RefGs K t U):RefG K (ze7 K n t) (ze8 n U):=by
 rintro Γ O H ρ σ w v S r rx Q R ⟨ds,rfl,hl,hh⟩ k;obtain⟨a,vs,e1,h1,h2⟩:=yC S rx (show yc O (.d (.list ds))=some (ds.map .d)from rfl);exact⟨a,vs,e1,h1,by rw[<-Paired.length h2,List.length_map];exact hl,h _ _ _ _ _ _ _ S r (ya h2) _ _ hh k⟩
section
variable {A B:TSW}{D:EndsW}{ρ:WS}{O':OM}{x st kp st' kp' d dd E:Addr}{fs:List (Str×W)}{fn y z:Str}{v:W}{S':ST}
theorem Xj{α:Type}{e:α}{tl:List α}:atI (e::tl) (0:Int)=some e:=uM (show(e::tl)[0]? =some e from rfl)
theorem zjd{T U:TSW}(h:T { D with nx:=U D } ρ O):xg T U D ρ O:=h
theorem YA{T:TEW}(h:T ρ O D.rt):Uk T D ρ O:=h
theorem JS{T:TAW}(h:T ρ O λws O1=>∃ds,yH ws=some ds/\ds.length<=1000/\D.nx (ρ.set i (some (.d (.list ds)))) O1):Ul (Y5 T) (vn i) D ρ O:=h
theorem zkz{T:TEW}(h:T ρ O λv O1=>D.nx (ρ.set i (some v)) O1):Ul T (vn i) D ρ O:=h
theorem yA{T:TAW}{R:List W->OM->Prop}(hv:ρ[i]? =some (some (.own d)))(hd:O d=some (.ins E dd fs))(hc:Cls K E)(hn:NoAttr K E fn)(hl:fs.lookup fn=some v)(h:T ρ O λws O1=>R (v::ws) O1):yQ (xh K (z9 i) fn) T ρ O R:=xi hv hd hc hn hl h
theorem JT{T:TAW}{R:WK}(hv:ρ[i]? =some (some (.d (.list ds))))(h:T ρ O λws O1=>∃es,yH ws=some es/\es.length<=1000/\Up (.d (.list ds)) (.d (.list es)) O1 R):wOp Up (z9 i) (Y5 T) ρ O R:=by
 unfold wOp z9;rw[hv];exact h
theorem ze9{R:WK}{es:List PyData}(hl:ds.length<=1000)(hm:es.length<=1000)(h:R (.d (.list (ds++es))) O):Up (.d (.list ds)) (.d (.list es)) O R:=⟨ds.map .d,es.map .d,ds,es,rfl,rfl,yz ds,yz es,by omega,h⟩
theorem zdW{T:TAW}{R:List W->OM->Prop}{ns:List Int}(hv:ρ[i]? =some (some (.own d)))(hd:O d=some (.ins E dd fs))(hc:Cls K E)(hn:NoAttr K E fn)(hl:fs.lookup fn=some (.own st))(hs:O st=some (.dK (stK ns)))(hb:ns.length<64)(h:T ρ O λws O1=>R (.d (.list ((srt ns).map .int))::ws) O1):yQ (wCB KY (yQ (xh K (z9 i) fn) qz)) T ρ O R:=
 xi hv hd hc hn hl ⟨st,_,ns,rfl,hs,by unfold stK;rw[List.map_map];rfl,hb,h⟩
theorem zdX{T:TAW}{R:List W->OM->Prop}{ws:List W}(hv:ρ[i]? =some (some (.own d)))(hd:O d=some (.ins E dd fs))(hc:Cls K E)(hn:NoAttr K E fn)(hl:fs.lookup fn=some (.own kp))(hs:O kp=some (.lst ws))(h:T ρ O λus O1=>R (.d (.int ws.length)::us) O1):yQ (wCB Ks (yQ (xh K (z9 i) fn) qz)) T ρ O R:=
 xi hv hd hc hn hl ⟨.own kp,ws.length,rfl,by simp[ZP,yS,yc,hs],h⟩
noncomputable def Xk(rows:List (List PyData)):W->Option PyData
 |.row _ i=>(rows[i]?).map .list
 |_=>none
theorem zdY(p:Addr)(rows:List (List PyData)):((List.range rows.length).map (W.row p)).filterMap (Xk rows)=rows.map PyData.list:=by
 rw[List.filterMap_map];have key:∀n,n<=rows.length->(List.range n).filterMap (Xk rows∘W.row p)=(rows.take n).map PyData.list:=by
  intro n
  induction n with
  |zero=>intro _;rfl
  |succ n ih=>
   intro hn;have hlt:n<rows.length:=by omega
   rw[List.range_succ,List.filterMap_append,ih (by omega),List.take_add_one,List.map_append,List.getElem?_eq_getElem hlt]
   congr 1
   simp[Xk,hlt]
 rw[key _ (Nat.le_refl _),List.take_length]
theorem zdZ{T:TAW}{R:List W->OM->Prop}{rows:List (List PyData)}(hv:ρ[i]? =some (some (.own d)))(hd:O d=some (.ins E dd fs))(hc:Cls K E)(hn:NoAttr K E fn)(hl:fs.lookup fn=some (.own p))(hp:O p=some (.grid rows))(hb:rows.length<=1000)(h:T ρ O λus O1=>R (.d (.list (rows.map .list))::us) O1) :
  yQ (wLc (Yn (xh K (z9 i) fn)) 1 [] (vn 0) (λ_ O R=>R true O) (wCB Ym (yQ (z9 0) qz))) T ρ O R:=by
 have hq:yc O (.own p)=some ((List.range rows.length).map (.row p)):=by simp[yc,hp]
 unfold yQ wLc Yn;refine xi hv hd hc hn hl ?_;refine⟨_,hq,hq,by simpa using hb,Xk rows,λw hw us hu=>?_,?_⟩
 .obtain⟨u,rfl⟩:=List.length_eq_one_iff.1 hu
  obtain⟨k,hk,rfl⟩:=List.mem_map.mp hw;have hk':k<rows.length:=by simpa using hk
  refine⟨⟨rfl,rfl⟩,?_⟩;show ∃w ds,[W.row p k]=[w]/\vk O w=some ds/\(O=O/\some (W.d (.list ds))=(Xk rows (.row p k)).map W.d);refine⟨_,rows[k],rfl,?_,rfl,?_⟩
  .have:yc O (.row p k)=some (rows[k].map .d):=by simp[yc,hp,List.getElem?_eq_getElem hk']
   unfold vk;simp only[yS];rw[this];exact yz _
  .simp[Xk,List.getElem?_eq_getElem hk']
 .rw[zdY]
  exact h
theorem zfa{R:WK}{Dc:Addr}{b:Bool}(hv:ρ[i]? =some (some (.own d)))(hd:O d=some (.ins E dd fs))(hk:IsK K E)(hi:W.kitOne K (.ref E) (.ref Dc)=some b)(h:R (.d (.bool b)) O):Xi (K:=K) Dc (z9 i) ρ O R:=by
 unfold Xi z9;rw[hv];exact⟨d,E,dd,fs,b,rfl,hd,hk,hi,h⟩
theorem jF{T:TAW}{R:List W->OM->Prop}{Dc:Addr}{b:Bool}(hv:ρ[i]? =some (some (.own d)))(hd:O d=some (.ins E dd fs))(hk:IsK K E)(hi:W.kitOne K (.ref E) (.ref Dc)=some b)(h:T ρ O λws O1=>R (.d (.bool b)::ws) O1):yQ (Xi (K:=K) Dc (z9 i)) T ρ O R:=zfa hv hd hk hi h
theorem zje{U:TSW}{Dc:Addr}(hv:ρ[i]? =some (some (.own d)))(hd:O d=some (.ins E dd fs))(hk:IsK K E)(hi:W.kitOne K (.ref E) (.ref Dc)=some true)(h:U D ρ O):xg (vm (Ug (yY (Xi (K:=K) Dc (z9 i)))) A uH) U D ρ O:=by
 unfold xg vm Ug yY;exact zfa hv hd hk hi h
theorem zfb{R:WK}(h:R (.d (.bool (!decide (y=z)))) O):vNe (.d (.str y)) (.d (.str z)) O R:=by
 refine⟨rfl,rfl,rfl,?_⟩;have e:decide (vOf (.str y)=vOf (.str z))=decide (y=z):=by simp[vOf]
 rw[e];exact h
noncomputable def YB(y:Str):W->Option PyData
 |.d (.str z)=>some (.bool (decide (y=z)))
 |_=>none
theorem zd0{U:TSW}{z1 z2 z3 z4:Str}{b1 b2 b3 b4:Bool}{tl:List PyData}(hv:ρ[1]? =some (some (.d (.tuple (.str y::tl)))))(h2:ρ[2]? =some (some (.d (.list [.bool b1,.bool b2,.bool b3,.bool b4]))))(hb:[b1,b2,b3,b4]=[decide (y=z1),decide (y=z2),decide (y=z3),decide (y=z4)])(h:U D ρ O) :
  xg (vm (yY (wOp zcX (z9 2) (wLc (Yn (Y5 (yQ (wC (.str z1)) (yQ (wC (.str z2)) (yQ (wC (.str z3)) (yQ (wC (.str z4)) qz)))))) 1 [1] (vn 0) (λ_ O R=>R true O) (wOp vEq (wOp yX (z9 1) (wC (.int 0))) (z9 0))))) A uH) U D ρ O:=by
 unfold xg vm yY wOp;show z9 2 ρ O _;unfold z9;rw[h2];have hp:yn [1] ρ=[some (.d (.tuple (.str y::tl)))]:=by
  simp[yn,hv]
 have hF:∀w∈[W.d (.str z1),.d (.str z2),.d (.str z3),.d (.str z4)],∀us:WS,us.length= 1->Zo (vn 0) (λ_ O R=>R true O) (wOp vEq (wOp yX (z9 1) (wC (.int 0))) (z9 0)) 1 (yn [1] ρ) w (us++yn [1] ρ) O λy' O2=>O2=O/\y'=(YB y w).map .d:=by
  intro w hw us hu;obtain⟨u,rfl⟩:=List.length_eq_one_iff.1 hu;rw[hp];obtain⟨z,rfl⟩:∃z,w=.d (.str z):=by
   simp only[List.mem_cons,List.not_mem_nil,or_false]at hw;rcases hw with rfl|rfl|rfl|rfl<;>exact⟨_,rfl⟩
  refine⟨⟨rfl,rfl⟩,?_⟩;refine⟨.str y::tl,0,.str y,rfl,rfl,Xj,?_⟩;exact ze5 (R:=λy' O2=>O2=O/\some y'=(YB y (.d (.str z))).map .d) ⟨rfl,rfl⟩
 refine⟨[.str z1,.str z2,.str z3,.str z4],rfl,(by decide:4<=1000),[W.d (.str z1),.d (.str z2),.d (.str z3),.d (.str z4)],rfl,rfl,(by decide:4<=1000),YB y,hF,?_⟩;have e:(PyData.list [.bool b1,.bool b2,.bool b3,.bool b4])=.list ([W.d (.str z1),.d (.str z2),.d (.str z3),.d (.str z4)].filterMap (YB y)):=by
  have e1:[PyData.bool b1,.bool b2,.bool b3,.bool b4]=[b1,b2,b3,b4].map PyData.bool:=rfl;rw[e1,hb];rfl
 refine⟨_,_,rfl,rfl,?_,?_,?_⟩
 .cases b1<;>cases b2<;>cases b3<;>cases b4<;>rfl
 .rw[<-e]
  cases b1<;>cases b2<;>cases b3<;>cases b4<;>rfl
 .show(λx O1=>match x with|W.d (.bool k)=>(λb O1=>if b=true then A { D with nx:=U D } ρ O1 else uH { D with nx:=U D } ρ O1) k O1|_=>False) (W.d (.bool !(PyData.list [.bool b1,.bool b2,.bool b3,.bool b4]).eqv (.list ([W.d (.str z1),.d (.str z2),.d (.str z3),.d (.str z4)].filterMap (YB y))))) O
  rw[<-e];have e3:PyData.eqv (.list [.bool b1,.bool b2,.bool b3,.bool b4]) (.list [.bool b1,.bool b2,.bool b3,.bool b4])=true:=by cases b1<;>cases b2<;>cases b3<;>cases b4<;>rfl
  rw[e3];exact h
theorem zbX{R:WK}{Tb:TEW}{tl:List PyData}(hy:y≠z)(hv:ρ[1]? =some (some (.d (.tuple (.str y::tl)))))(h:R (.d (.bool true)) O):Y3 (wOp vNe (wOp yX (z9 1) (wC (.int 0))) (wC (.str z))) Tb ρ O R:=by
 unfold Y3;show wOp yX (z9 1) (wC (.int 0)) ρ O _;refine x5 (e:=.str y) hv Xj ?_;refine zfb (R:=λx O1=>∃c,x=W.d (.bool c)/\if c=true then R (.d (.bool true)) O1 else Tb ρ O1 R) ?_;refine⟨_,rfl,?_⟩;rw[decide_eq_false hy];exact h
theorem zgN{R:WK}{Tb:TEW}{tl:List PyData}(hy:y=z)(hv:ρ[1]? =some (some (.d (.tuple (.str y::tl)))))(h:Tb ρ O R):Y3 (wOp vNe (wOp yX (z9 1) (wC (.int 0))) (wC (.str z))) Tb ρ O R:=by
 unfold Y3;show wOp yX (z9 1) (wC (.int 0)) ρ O _;refine x5 (e:=.str y) hv Xj ?_;refine zfb (R:=λx O1=>∃c,x=W.d (.bool c)/\if c=true then R (.d (.bool true)) O1 else Tb ρ O1 R) ?_;refine⟨_,rfl,?_⟩;rw[decide_eq_true hy];exact h
theorem zgO{sp:SpW}{k:Int}{e:PyData}(hx:ρ[0]? =some (some v))(hv:ρ[1]? =some (some (.d (.tuple ds))))(hk:atI ds k=some e)(h:sp [v,.d e] O (λ_ O1=>D.nx ρ O1)):Zn (jy sp [] (yQ (z9 0) (yQ (wOp yX (z9 1) (wC (.int k))) qz))) D ρ O:=by
 unfold Zn jy;show yQ (z9 0) _ ρ O _;unfold yQ;show z9 0 ρ O _;unfold z9;rw[hx];exact x5 hv hk h
end
noncomputable def Xl:Rea->Str
 |.sign _=>"sign"
 |.line=>"line"
 |.tab=>"tab"
 |.row _ _=>"row"
noncomputable def tlD:Rea->List PyData
 |.sign c=>[.str ⟨#[c]⟩]
 |.line=>[]
 |.tab=>[]
 |.row c ns=>[.str ⟨#[c]⟩,.tuple ns]
theorem zjf(r:Rea):rdD r=.tuple (.str (Xl r)::tlD r):=by cases r<;>rfl
theorem zjg:[true,false,false,false]=[decide (Str.ofString "sign" =Str.ofString "sign"),decide (Str.ofString "sign" =Str.ofString "line"),decide (Str.ofString "sign" =Str.ofString "tab"),decide (Str.ofString "sign" =Str.ofString "row")]:=by decide +kernel
theorem zkA:[false,false,false,true]=[decide (Str.ofString "row" =Str.ofString "sign"),decide (Str.ofString "row" =Str.ofString "line"),decide (Str.ofString "row" =Str.ofString "tab"),decide (Str.ofString "row" =Str.ofString "row")]:=by decide +kernel
theorem zjh{cD cS cL cT cR:Addr}(D:Dds K mg cD cS cL cT cR){d:Addr}{r:Rea}(h:DAt cS cL cT cR O d r):∃E dd fs b1 b2 b3 b4,O d=some (.ins E dd fs)/\IsK K E/\W.kitOne K (.ref E) (.ref cD)=some true/\W.kitOne K (.ref E) (.ref cS)=some b1/\W.kitOne K (.ref E) (.ref cL)=some b2/\W.kitOne K (.ref E) (.ref cT)=some b3/\W.kitOne K (.ref E) (.ref cR)=some b4/\
  [b1,b2,b3,b4]=[decide (Xl r=Str.ofString "sign"),decide (Xl r=Str.ofString "line"),decide (Xl r=Str.ofString "tab"),decide (Xl r=Str.ofString "row")]:=by
 cases r with
 |sign c=>obtain⟨dx,h⟩:=h;exact⟨_,_,_,_,_,_,_,h,D.k_S,D.i_SD,D.i_SS,D.i_SL,D.i_ST,D.i_SR,zjg⟩
 |line=>obtain⟨dx,h⟩:=h;exact⟨_,_,_,_,_,_,_,h,D.k_L,D.i_LD,D.i_LS,D.i_LL,D.i_LT,D.i_LR,by decide +kernel⟩
 |tab=>obtain⟨dx,h⟩:=h;exact⟨_,_,_,_,_,_,_,h,D.k_T,D.i_TD,D.i_TS,D.i_TL,D.i_TT,D.i_TR,by decide +kernel⟩
 |row c ns=>obtain⟨dx,h⟩:=h;exact⟨_,_,_,_,_,_,_,h,D.k_R,D.i_RD,D.i_RS,D.i_RL,D.i_RT,D.i_RR,zkA⟩
theorem U4{q:Addr}{zs:List Str}(h:O q=some (.lst ((zs.map PyData.str).map .d))):datW O (.own q)=some (.list (zs.map .str)):=by
 simp only[datW,h];rw[yz];rfl
theorem U5:∀{ns:List PyData},(∀m∈ns,NumD m)->PyData.canLayAll0 ns=true/\PyData.depthAll ns= 0/\PyData.eqvAll ns ns=true
 |[],_=>⟨rfl,rfl,rfl⟩
 |n::ns,h=>by
  have q:=h n (List.mem_cons_self ..);obtain⟨h1,h2,h3⟩:=U5 (ns:=ns) λm hm=>h m (List.mem_cons_of_mem _ hm);cases n with
  |none=>exact⟨by simp[PyData.canLayAll0,PyData.canLay0,h1],by simp[PyData.depthAll,PyData.depth,h2],by simp[PyData.eqvAll,PyData.eqv,h3]⟩
  |int i=>exact⟨by simp[PyData.canLayAll0,PyData.canLay0,h1],by simp[PyData.depthAll,PyData.depth,h2],by simp[PyData.eqvAll,PyData.eqv,h3]⟩
  |_=>exact q.elim
theorem zbY{c:Nat}{ns:List PyData}(hc:c<128)(h:OkNs ns):SeqAt.shaped (.tuple [.str ⟨#[c]⟩,.tuple ns])=true/\PyData.eqv (.tuple [.str ⟨#[c]⟩,.tuple ns]) (.tuple [.str ⟨#[c]⟩,.tuple ns])=true:=by
 obtain⟨h1,h2,h3⟩:=U5 h.n;have h4:=VL hc;exact⟨by simp[SeqAt.shaped,PyData.canLay0,PyData.canLayAll0,PyData.depth,PyData.depthAll,h1,h2,h4],by simp[PyData.eqv,PyData.eqvAll,h3]⟩
theorem zji{ns:List PyData}(h:1<=ns.length):x4 (ns++[PyData.none]) none (some 2)=[nmA ns 0,nmA ns 1]:=by
 match ns,h with
 |[a],_=>rfl
 |a::b::t,_=>
  have e:HT.sIx ((a::b::t)++[PyData.none]).length ((a::b::t)++[PyData.none]).length (some 2)= 2:=by
   simp[HT.sIx]
  unfold x4;rw[e];rfl
theorem X3{w:Nat}{g:Nat->Cel}:∀{l:List Nat},(∀j∈l,okC (g j))->PyData.canLayAll0 (l.map λj=>celD (g j))=true/\PyData.depthAll (l.map λj=>celD (g j))<=1
 |[],_=>⟨rfl,Nat.zero_le _⟩
 |j::l,h=>by
  obtain⟨h1,h2⟩:=X3 (w:=w) (l:=l) λk hk=>h k (List.mem_cons_of_mem _ hk);have h0:PyData.strOk (g j).1 =true:=h j List.mem_cons_self;refine⟨?_,?_⟩
  .simp[PyData.canLayAll0,celD,PyData.canLay0,h0] ;exact h1
  .simp only[List.map_cons,PyData.depthAll,celD,PyData.depth]
   simp only[celD]at h2;omega
theorem U6{w:Nat}{f:PF}:∀{l:List Nat},(∀i∈l,∀j,j<w->okC (f i j))->PyData.canLayAll0 ((l.map λi=>(List.range w).map λj=>celD (f i j)).map PyData.list)=true/\PyData.depthAll ((l.map λi=>(List.range w).map λj=>celD (f i j)).map PyData.list)<=2
 |[],_=>⟨rfl,Nat.zero_le _⟩
 |i::l,h=>by
  obtain⟨h1,h2⟩:=U6 (l:=l) λk hk=>h k (List.mem_cons_of_mem _ hk);obtain⟨g1,g2⟩:=X3 (w:=w) (g:=f i) (l:=List.range w) λj hj=>h i List.mem_cons_self j (by simpa using hj);refine⟨?_,?_⟩
  .simp only[List.map_cons,PyData.canLayAll0,PyData.canLay0,g1,h1,Bool.and_self]
  .simp only[List.map_cons,PyData.depthAll,PyData.depth]
   omega
theorem kJ{g:Nat->Cel}:∀l:List Nat,PyData.eqvAll (l.map λj=>celD (g j)) (l.map λj=>celD (g j))=true
 |[]=>rfl
 |j::l=>by simp only[List.map_cons,PyData.eqvAll,zfw,decide_true,Bool.true_and];exact kJ l
theorem zd1{h w:Nat}{f:PF}:PyData.eqv (.list ((genG h w f).map PyData.list)) (.list ((genG h w f).map PyData.list))=true:=by
 unfold genG;simp only[PyData.eqv]
 generalize List.range h=l
 induction l with
 |nil=>rfl
 |cons i l ih=>simp only[List.map_cons,PyData.eqvAll,PyData.eqv,kJ,Bool.true_and];exact ih
noncomputable def Num3:PyData->Prop
 |.none=>True
 |.int i=>0<=i/\i<=999
 |_=>False
theorem Num3.d{n:PyData}(h:Num3 n):NumD n:=by
 cases n with
 |none=>trivial
 |int i=>exact⟨h.1,by have:=h.2;omega⟩
 |_=>exact h.elim
structure Ok3 (ns:List PyData):Prop where
 n:∀m∈ns,Num3 m
 l:ns.length<=6
 o:1<=ns.length
theorem Ok3.ns{ns:List PyData}(h:Ok3 ns):OkNs ns:=⟨λm hm=>(h.n m hm).d,h.l,h.o⟩
theorem U7{c:Nat}(h:isLet c):c<128:=by unfold isLet at h;omega
noncomputable def OkQ:Rea->Prop
 |.sign c=>c<128/\32<=c
 |.line=>True
 |.tab=>True
 |.row c ns=>isLet c/\Ok3 ns
theorem OkQ.r{r:Rea}(h:OkQ r):OkR r:=by
 cases r with
 |sign c=>exact h
 |line=>trivial
 |tab=>trivial
 |row c ns=>exact⟨U7 h.1,h.2.ns⟩
theorem zk5:∀n,n<1000->(Nat.toDigits 10 n).length<=3:=by decide +kernel
theorem qu{n:PyData}(h:Num3 n):(∀c∈(numT n).cps.toList,48<=c/\c<=57)/\(numT n).cps.toList.length<=3/\ul (numT n).cps.toList=n:=by
 cases n with
 |none=>exact⟨λc hc=>(by cases hc),Nat.zero_le _,rfl⟩
 |int i=>
  obtain⟨h0,h1⟩:=h;obtain⟨m,rfl⟩:=Int.eq_ofNat_of_zero_le h0;have e:(numT (.int (m:Int))).cps.toList=(Nat.toDigits 10 m).map Char.toNat:=PySem.W.KIN.signs_num m;rw[e];refine⟨λc hc=>?_,by rw[List.length_map];exact zk5 m (by omega),?_⟩
  .obtain⟨ch,hch,rfl⟩:=List.mem_map.mp hc
   exact PyProof.Rows.digit_range (Nat.isDigit_of_mem_toDigits (by decide) (by decide) hch)
  .unfold ul
   rw[if_neg,PySem.W.KIN.val_back];intro z;have q:m= 0:=by
    have:=PySem.W.KIN.val_back m;rw[z]at this;exact this.symm
   subst q;exact absurd z (by decide)
 |_=>exact h.elim
theorem JU{c:Nat}:∀{A:List (List Nat)},c∈jnL A->c= 59\/∃a∈A,c∈a
 |[],h=>by cases h
 |[a],h=>.inr ⟨a,List.mem_singleton.mpr rfl,h⟩
 |a::b::r,h=>by
  have h':c∈a++59::jnL (b::r):=h;rcases List.mem_append.mp h' with z|z
  .exact .inr ⟨a,List.mem_cons_self,z⟩
  .rcases List.mem_cons.mp z with z|z
   .exact .inl z
   .rcases JU z with y|⟨q,hq,y⟩
    .exact .inl y
    .exact .inr ⟨q,List.mem_cons_of_mem _ hq,y⟩
noncomputable def yK(ns:List PyData):List Nat:=jnL ((ns.map numT).map (·.cps.toList))
theorem YC{ns:List PyData}(h:Ok3 ns):∀c∈yK ns,c= 59\/(48<=c/\c<=57):=λc hc=>by
 rcases JU hc with z|⟨a,ha,z⟩
 .exact .inl z
 .obtain⟨t,ht,rfl⟩:=List.mem_map.mp ha
  obtain⟨n,hn,rfl⟩:=List.mem_map.mp ht;exact .inr ((qu (h.n n hn)).1 c z)
theorem U8:∀{ns:List PyData},(∀m∈ns,Num3 m)->(((ns.map numT).map (·.cps.toList)).map ul)=ns
 |[],_=>rfl
 |n::ns,h=>by
  rw[List.map_cons,List.map_cons,List.map_cons,U8 λm hm=>h m (List.mem_cons_of_mem _ hm),(qu (h n List.mem_cons_self)).2.2]
theorem zbZ{ns:List PyData}(h:Ok3 ns):vv ⟨(yK ns).toArray⟩=.tuple ns:=by
 have hw:(spF (yK ns)).1++[(spF (yK ns)).2]=(ns.map numT).map (·.cps.toList):=by
  obtain⟨h1,h2⟩:=zbs (yK ns);refine Xa (by simp) ?_ h2 ?_ h1
  .intro e
   have l:ns.length= 0:=by simpa using congrArg List.length e
   have:=h.o;omega
  .intro a ha
   obtain⟨t,ht,rfl⟩:=List.mem_map.mp ha;obtain⟨n,hn,rfl⟩:=List.mem_map.mp ht;intro z;have:=(qu (h.n n hn)).1 59 z;omega
 unfold vv;show qr ((spF (yK ns)).1++[(spF (yK ns)).2])=_;rw[hw];unfold qr;rw[if_neg,U8 h.n];rintro(z|z)
 .rw[List.length_map,List.length_map]at z
  have:=h.l;omega
 .obtain⟨a,ha,q⟩:=List.any_eq_true.mp z
  obtain⟨t,ht,rfl⟩:=List.mem_map.mp ha;obtain⟨n,hn,rfl⟩:=List.mem_map.mp ht;have:=(qu (h.n n hn)).2.1;have q':=of_decide_eq_true q;omega
theorem X4(c:Nat)(ns:List PyData):(rowT c ns).cps.toList= 126::(yK ns++[c]):=by
 unfold rowT yK;rw[xn,xn,Zr,show Str.ofString ";" =xU by decide +kernel,qq,show(Str.ofString "~").cps.toList=[126]by decide +kernel];rfl
theorem zjj{c:Nat}{ns:List PyData}(hc:isLet c)(h:Ok3 ns):rdF [] (rowT c ns).cps.toList=([],[rdD (.row c ns)]):=by
 rw[X4,show 126::(yK ns++[c])=(126::yK ns)++[c]from rfl,UG];have e1:rdF [] (126::yK ns)=(126::yK ns,[]):=by
  have q:=UL (t:=yK ns) (b:=[126]) (by simp) (YC h);show((rdF [126] (yK ns)).1,[]++(rdF [126] (yK ns)).2)=_;rw[q];rfl
 rw[e1];have e2:rdS (126::yK ns) c=([],rwD (126::yK ns) c):=if_pos ⟨by simp,hc⟩;rw[e2];have e3:rwD (126::yK ns) c=[rdD (.row c ns)]:=by
  unfold rwD;rw[show(126::yK ns).drop 1 =yK ns from rfl,zbZ h];rfl
 rw[e3];rfl
theorem zgP{r:Rea}(h:OkQ r):rdF [] (rdT r).cps.toList=([],[rdD r]):=by
 cases r with
 |sign c=>
  obtain⟨h1,h2⟩:=h;have e:ue c=rdD (.sign c):=by
   unfold ue;rw[if_neg (by omega),if_neg (by omega)];rfl
  by_cases hc:c= 126
  .subst hc
   rw[show rdT (.sign 126)=Str.ofString "~~" from rfl,show(Str.ofString "~~").cps.toList=[126,126]by decide +kernel];rfl
  .rw[show rdT (.sign c)=⟨#[c]⟩from if_neg hc]
   show rdF [] [c]=_;have e2:rdS [] c=([],[ue c]):=by
    unfold rdS;rw[if_neg (by simp),if_neg (by simp),if_pos (.inl hc)]
   show((rdS [] c).1,(rdS [] c).2++[])=_;rw[e2,e];rfl
 |line=>
  rw[show(rdT .line).cps.toList=[10]by decide +kernel];rfl
 |tab=>
  rw[show(rdT .tab).cps.toList=[9]by decide +kernel];rfl
 |row c ns=>exact zjj h.1 h.2
theorem U9{r:Rea}(h:OkQ r):(rdT r).cps.all (· < 128)=true/\(rdT r).length<=100:=by
 have key:∀z:Str,(∀c∈z.cps.toList,c<128)->z.cps.all (· < 128)=true:=λz hz=>by
  rw[Array.all_eq_true_iff_forall_mem];intro c hc;exact decide_eq_true (hz c (Array.mem_toList_iff.mpr hc))
 cases r with
 |sign c=>
  by_cases e:c= 126
  .rw[show rdT (.sign c)=Str.ofString "~~" from if_pos e]
   exact⟨by decide +kernel,by decide +kernel⟩
  .rw[show rdT (.sign c)=⟨#[c]⟩from if_neg e]
   refine⟨key _ λd hd=>?_,(by decide:1<=100)⟩;have hd':d∈[c]:=hd;rw[List.mem_singleton.mp hd'];exact h.1
 |line=>exact⟨by decide +kernel,by decide +kernel⟩
 |tab=>exact⟨by decide +kernel,by decide +kernel⟩
 |row c ns=>
  have e:=X4 c ns;have jl:=U3 h.2.ns;refine⟨key _ λd hd=>?_,?_⟩
  .rw[show rdT (.row c ns)=rowT c ns from rfl,e]at hd
   rcases List.mem_cons.mp hd with rfl|hd
   .decide
   .rcases List.mem_append.mp hd with hd|hd
    .have:=YC h.2 d hd;omega
    .cases List.mem_singleton.mp hd;exact U7 h.1
  .have el:(Txt.join (Str.ofString ";") (ns.map numT)).length=(yK ns).length:=by
    rw[xo,Zr,show Str.ofString ";" =xU by decide +kernel,qq];rfl
   rw[show rdT (.row c ns)=rowT c ns from rfl,xo,e,List.length_cons,List.length_append,List.length_singleton];omega
theorem zb0{z:Str}(h:z.cps.all (· < 128)=true):PyData.strOk z=true:=by
 unfold PyData.strOk;rw[Array.all_eq_true_iff_forall_mem]at h ⊢;intro c hc;have:=of_decide_eq_true (h c hc);exact decide_eq_true (by omega)
structure Lv (k:Nat) (d:PyData):Prop where
 lay:d.canLay0=true
 dep:d.depth<=k
 eq:PyData.eqv d d=true
structure Lvs (k:Nat) (ds:List PyData):Prop where
 lay:PyData.canLayAll0 ds=true
 dep:PyData.depthAll ds<=k
 eq:PyData.eqvAll ds ds=true
section
variable {k:Nat}{d:PyData}{es:List PyData}
theorem Lvs.nil:Lvs k []:=⟨rfl,Nat.zero_le _,rfl⟩
theorem Lvs.cons(h:Lv k d)(t:Lvs k ds):Lvs k (d::ds):=⟨by simp only[PyData.canLayAll0,h.lay,t.lay,Bool.and_self],by have a:=h.dep;have b:=t.dep;simp only[PyData.depthAll];omega,by simp only[PyData.eqvAll,h.eq,t.eq,Bool.and_self]⟩
theorem Lvs.of:∀{ds:List PyData},(∀d∈ds,Lv k d)->Lvs k ds
 |[],_=>.nil
 |d::ds,h=>.cons (h d List.mem_cons_self) (.of λx hx=>h x (List.mem_cons_of_mem _ hx))
theorem Lv.list(h:Lvs k ds):Lv (k+1) (.list ds):=⟨by simp only[PyData.canLay0,h.lay],by have:=h.dep;simp only[PyData.depth];omega,by simp only[PyData.eqv,h.eq]⟩
theorem Lv.int{i:Int}:Lv k (.int i):=⟨by simp only[PyData.canLay0],by simp only[PyData.depth];omega,by simp[PyData.eqv]⟩
theorem Lv.bool{i:Bool}:Lv k (.bool i):=⟨by simp only[PyData.canLay0],by simp only[PyData.depth];omega,by simp[PyData.eqv]⟩
theorem Lv.none:Lv k .none:=⟨by simp only[PyData.canLay0],by simp only[PyData.depth];omega,by simp[PyData.eqv]⟩
theorem Lv.str{z:Str}(h:PyData.strOk z=true):Lv k (.str z):=⟨by simp only[PyData.canLay0,h],by simp only[PyData.depth];omega,by simp[PyData.eqv]⟩
theorem Lv.sh(h:Lv k d)(hk:k<=64):SeqAt.shaped d=true:=by
 unfold SeqAt.shaped;rw[h.lay,decide_eq_true (Nat.le_trans h.dep hk)];rfl
theorem Lv.grid{h w:Nat}{f:PF}(hf:∀i j,i<h->j<w->okC (f i j)):Lv 3 (.list ((genG h w f).map .list)):=by
 obtain⟨h1,h2⟩:=U6 (w:=w) (f:=f) (l:=List.range h) λi hi j hj=>hf i j (by simpa using hi) hj;exact⟨by simp only[PyData.canLay0];exact h1,by simp only[PyData.depth];exact Nat.succ_le_succ h2,zd1⟩
theorem Lv.strs {l:List Str}(h:∀ z∈l,PyData.strOk z=true):Lv 1 (.list (l.map .str)):=.list (.of fun d hd=>by
  obtain⟨z,hz,rfl⟩:=List.mem_map.mp hd;exact .str (h z hz))
theorem Lv.ints {l:List Int}:Lv 1 (.list (l.map .int)):=.list (.of fun d hd=>by
  obtain⟨z,hz,rfl⟩:=List.mem_map.mp hd;exact .int)
end
structure Sv (k m:Nat) (d:PyData):Prop where
 sho:d.showable=true
 hd:d.hasDict=false
 sht:d.intsShort 13 =true
 lay:d.canLay0=true
 dep:d.depth<=k
 w:d.weight<=m
structure Svs (k m:Nat) (ds:List PyData):Prop where
 sho:PyData.showableAll ds=true
 hd:PyData.hasDictAll ds=false
 sht:PyData.intsShortAll 13 ds=true
 lay:PyData.canLayAll0 ds=true
 dep:PyData.depthAll ds<=k
 w:PyData.weightAll ds<=m
section
variable {k m:Nat}{d:PyData}
theorem Svs.nil:Svs k 0 []:=⟨rfl,rfl,rfl,rfl,Nat.zero_le _,Nat.zero_le _⟩
theorem Svs.cons(h:Sv k m d)(t:Svs k n ds):Svs k (m+n+1) (d::ds):=
  ⟨by simp only [PyData.showableAll,h.sho,t.sho,Bool.and_self],by simp only [PyData.hasDictAll,h.hd,t.hd,Bool.or_self],by simp only [PyData.intsShortAll,h.sht,t.sht,Bool.and_self],by simp only [PyData.canLayAll0,h.lay,t.lay,Bool.and_self],
   by have a:=h.dep;have b:=t.dep;simp only[PyData.depthAll];omega,by have a:=h.w;have b:=t.w;simp only[PyData.weightAll];omega⟩
theorem Svs.of:∀{ds:List PyData},(∀d∈ds,Sv k m d)->Svs k ((m+1)*ds.length) ds
 |[],_=>.nil
 |d::ds,h=>by
  have q:=Svs.cons (h d List.mem_cons_self) (.of λx hx=>h x (List.mem_cons_of_mem _ hx));refine⟨q.sho,q.hd,q.sht,q.lay,q.dep,Nat.le_trans q.w ?_⟩;rw[List.length_cons,Nat.mul_add];omega
theorem Sv.list(h:Svs k m ds):Sv (k+1) m (.list ds):=⟨by simp only[PyData.showable,h.sho],by simp only[PyData.hasDict,h.hd],by simp only[PyData.intsShort,h.sht],by simp only[PyData.canLay0,h.lay],by have:=h.dep;simp only[PyData.depth];omega,by simp only[PyData.weight];exact h.w⟩
theorem Sv.tup(h:Svs k m ds):Sv (k+1) m (.tuple ds):=⟨by simp only[PyData.showable,h.sho],by simp only[PyData.hasDict,h.hd],by simp only[PyData.intsShort,h.sht],by simp only[PyData.canLay0,h.lay],by have:=h.dep;simp only[PyData.depth];omega,by simp only[PyData.weight];exact h.w⟩
theorem Sv.str{z:Str}(h:PyData.strOk z=true)(hl:z.length<=m):Sv k m (.str z):=⟨by simp only[PyData.showable],by simp only[PyData.hasDict],by simp only[PyData.intsShort],by simp only[PyData.canLay0,h],by simp only[PyData.depth];omega,by simp only[PyData.weight];exact hl⟩
theorem Sv.none:Sv k m .none:=⟨by simp only[PyData.showable],by simp only[PyData.hasDict],by simp only[PyData.intsShort],by simp only[PyData.canLay0],by simp only[PyData.depth];omega,by simp only[PyData.weight];omega⟩
theorem Sv.int{i:Int}(h:Sh i):Sv k 21 (.int i):=⟨h.sho,by simp only[PyData.hasDict],h.short,by simp only[PyData.canLay0],by simp only[PyData.depth];omega,h.w⟩
theorem Sv.num{n:PyData}(h:Num3 n):Sv k 21 n:=by
 cases n with
 |none=>exact .none
 |int i=>exact .int ⟨by have:=h.1;omega,by have:=h.2;omega⟩
 |_=>exact h.elim
theorem Sv.rep(h:Sv k m (.list ds))(hk:k<=60)(hm:m<=1048576):(isDisplay (.list ds) && !PyData.hasDict (.list ds))=true/\PyData.showable (.list ds)=true/\PyData.depth (.list ds)<=60/\(PyData.shown (.list ds)).length<=sizeLine:=by
 refine⟨by rw[h.hd];rfl,h.sho,Nat.le_trans h.dep hk,?_⟩;have e4:PyData.layable0 (.list ds)=true:=by
  show(PyData.canLay0 (.list ds)&&decide (PyData.depth (.list ds)<=64)&&decide (PyData.weight (.list ds)<=2 ^ 20))=true;have e:(2:Nat) ^ 20=1048576:=by decide
  have w:=h.w;rw[h.lay,decide_eq_true (show PyData.depth (.list ds)<=64 by have:=h.dep;omega),decide_eq_true (show PyData.weight (.list ds)<=2 ^ 20 by rw[e];omega)];rfl
 exact Nat.le_trans (shown_le13 e4 h.sht) (by rw[sizeLine_eq];decide)
theorem zfc{r:Rea}(h:OkQ r):Sv 3 1000 (.list [rdD r]):=by
 have up:∀{m:Nat}{d:PyData},Sv 2 m d->m<=900->Sv 3 1000 (.list [d]):=λ{m d} q hm=>by
  have:=Sv.list (Svs.cons q .nil);exact⟨this.sho,this.hd,this.sht,this.lay,this.dep,Nat.le_trans this.w (by omega)⟩
 cases r with
 |sign c=>exact up (Sv.tup (Svs.cons (m:=4) (.str (by decide +kernel) (by decide +kernel)) (Svs.cons (m:=1) (.str (VL h.1) (Nat.le_refl _)) .nil))) (by decide)
 |line=>exact up (Sv.tup (Svs.cons (m:=4) (.str (by decide +kernel) (by decide +kernel)) .nil)) (by decide)
 |tab=>exact up (Sv.tup (Svs.cons (m:=4) (.str (by decide +kernel) (by decide +kernel)) .nil)) (by decide)
 |row c ns=>
  have hl:=h.2.l;exact up (Sv.tup (Svs.cons (m:=4) (.str (by decide +kernel) (by decide +kernel)) (Svs.cons (m:=1) (.str (VL (U7 h.1)) (Nat.le_refl _)) (Svs.cons (.tup (Svs.of λd hd=>Sv.num (h.2.n d hd))) .nil)))) (by omega)
end
theorem Good.rd{r:Rea}(h:Good n S)(hn:6<=n)(hr:OkR r):Good (n+1) (rdS' r S):=by
 cases r with
 |sign c=>exact(h.put (VL hr.1)).up
 |line=>exact h.lineE.up
 |tab=>exact h.tab.up
 |row c ns=>
  show Good (n+1) (if c= 113 then S else L2.opt lsAll c (actS c (nmA ns 0) (nmA ns 1) ns) S);split
  .exact h.up
  .exact h.opt hn (kH hr.2.n)
theorem Old.trans{O1 O2:OM}(a:Old O O1)(b:Old O1 O2):Old O O2:=λx hx=>by rw[b x (by rw[a x hx];exact hx),a x hx]
structure Sd where
 x:Addr
 dx:Addr
 p:Addr
 st:Addr
 kp:Addr
noncomputable def Sd.l(A:Sd):List Addr:=[A.x,A.p,A.st,A.kp]
noncomputable abbrev At(O:OM)(C:Addr)(A:Sd)(S:ST):Prop:=StAt O C A.x A.dx A.p A.st A.kp S
noncomputable def Dj(l m:List Addr):Prop:=∀a∈l,a∉m
theorem Dj.symm{l m:List Addr}(h:Dj l m):Dj m l:=λa ha hb=>h a hb ha
noncomputable def Fr(O O':OM)(l l':List Addr):Prop:=∀a o,O a=some o->a∉l->O' a=some o/\a∉l'
section
variable {O1 O2 O':OM}{A A' B U:Sd}{S' T:ST}{l l' m l1:List Addr}{q:Addr}{o:OO}
theorem At.nn(h:At O C A S):∀a∈A.l,∃o,O a=some o:=λa ha=>by
 have ha':a∈[A.x,A.p,A.st,A.kp]:=ha;simp only[List.mem_cons,List.not_mem_nil,or_false]at ha';rcases ha' with rfl|rfl|rfl|rfl
 .exact⟨_,h.x⟩
 .exact⟨_,h.p⟩
 .exact⟨_,h.st⟩
 .exact⟨_,h.kp⟩
theorem At.of(h:At O C A S)(k:∀a∈A.l,∀o,O a=some o->O' a=some o):At O' C A S:=
 ⟨k _ (by simp[Sd.l]) _ h.x,k _ (by simp[Sd.l]) _ h.p,k _ (by simp[Sd.l]) _ h.st,k _ (by simp[Sd.l]) _ h.kp⟩
theorem At.old(h:At O C A S)(k:Old O O'):At O' C A S:=h.of λa _ o e=>by rw[k a (by rw[e];simp)];exact e
theorem Fr.at (f:Fr O O' l l') (h:At O C U T) (d:Dj U.l l):At O' C U T/\Dj U.l l':=⟨h.of fun a ha o e=>(f a o e (d a ha)).1,fun a ha=>by
 obtain⟨o,e⟩:=h.nn a ha;exact(f a o e (d a ha)).2⟩
theorem Fr.trans(f:Fr O O1 l l1)(g:Fr O1 O2 l1 l'):Fr O O2 l l':=λa o e h=>by
 obtain⟨h1,h2⟩:=f a o e h;exact g a o h1 h2
theorem Fr.app(f:Fr O O' l l')(h:∀a∈m,∃o,O a=some o)(d:Dj m l):Fr O O' (l++m) (l'++m):=λa o e ha=>by
 rw[List.mem_append,not_or]at ha;obtain⟨h1,h2⟩:=f a o e ha.1;exact⟨h1,by rw[List.mem_append,not_or];exact⟨h2,ha.2⟩⟩
theorem Fr.sw(f:Fr O O' (l++m) (l'++l1)):Fr O O' (m++l) (l1++l'):=λa o e ha=>by
 rw[List.mem_append,not_or]at ha;obtain⟨h1,h2⟩:=f a o e (by rw[List.mem_append,not_or];exact⟨ha.2,ha.1⟩);rw[List.mem_append,not_or]at h2;exact⟨h1,by rw[List.mem_append,not_or];exact⟨h2.2,h2.1⟩⟩
theorem Nxt.fr{x st kp st' kp':Addr}(N:Nxt O O' C x dx p st kp st' kp' S'):Fr O O' (Sd.l ⟨x,dx,p,st,kp⟩) (Sd.l ⟨x,dx,p,st',kp'⟩):=λa o e ha=>by
 have ha':a∉[x,p,st,kp]:=ha;refine⟨N.b.old e ha',λz=>?_⟩;have z':a∈[x,p,st',kp']:=z;simp only[List.mem_cons,List.not_mem_nil,or_false,not_or]at ha' z';rcases z' with z|z|z|z
 .exact ha'.1 z
 .exact ha'.2.1 z
 .rcases N.e1 with y|y
  .exact ha'.2.2.1 (z.trans y)
  .rw[<-z,e]at y;cases y
 .rcases N.e2 with y|y
  .exact ha'.2.2.2 (z.trans y)
  .rw[<-z,e]at y;cases y
theorem Fr.upd(f:Fr O O1 l l')(hq:O q=none):Fr O (updO O1 q o) l l':=λa u e h=>by
 obtain⟨h1,h2⟩:=f a u e h;exact⟨by rw[ze (λz=>by rw[z,hq]at e;cases e)];exact h1,h2⟩
theorem At.upd(h:At O C A S)(hq:q∉A.l):At (updO O q o) C A S:=h.of λa ha u e=>by
 rw[ze (λz=>hq (by rw[<-z];exact ha))];exact e
theorem ZU{x st kp:Addr}{u:OO}(hx:O x=none)(hp:updO O x u p=none)(hs:updO O x u st=none)(hk:updO O x u kp=none)(h:∀b,b≠x->b≠p->b≠st->b≠kp->O' b=updO O x u b) :
  Old O O'/\∀a∈Sd.l ⟨x,dx,p,st,kp⟩,O a=none:=by
 have back:∀b,updO O x u b=none->O b=none:=λb hb=>by
  by_cases e:b=x
  .rw[e];exact hx
  .rw[ze e]at hb;exact hb
 refine⟨λb hb=>?_,λa ha=>?_⟩
 .have n1:b≠x:=λe=>hb (by rw[e];exact hx)
  rw[h b n1 (λe=>hb (by rw[e];exact back _ hp)) (λe=>hb (by rw[e];exact back _ hs)) (λe=>hb (by rw[e];exact back _ hk)),ze n1]
 .have ha':a∈[x,p,st,kp]:=ha
  simp only[List.mem_cons,List.not_mem_nil,or_false]at ha';rcases ha' with rfl|rfl|rfl|rfl
  .exact hx
  .exact back _ hp
  .exact back _ hs
  .exact back _ hk
theorem Dj.new(h:∀a∈l,O a=none)(k:∀a∈m,∃o,O a=some o):Dj l m:=λa ha hb=>by
 obtain⟨o,e⟩:=k a hb;rw[h a ha]at e;cases e
end
section
variable {O':OM}{cS cL cT cR d:Addr}{A:Sd}{r:Rea}
theorem DAt.ex(h:DAt cS cL cT cR O d r):∃E dd fs,O d=some (.ins E dd fs)/\fs.length<=2:=by
 cases r with
 |sign c=>obtain⟨dx,h⟩:=h;exact⟨_,_,_,h,(by decide:1<=2)⟩
 |line=>obtain⟨dx,h⟩:=h;exact⟨_,_,_,h,(by decide:0<=2)⟩
 |tab=>obtain⟨dx,h⟩:=h;exact⟨_,_,_,h,(by decide:0<=2)⟩
 |row c ns=>obtain⟨dx,h⟩:=h;exact⟨_,_,_,h,(by decide:2<=2)⟩
theorem DAt.to(h:DAt cS cL cT cR O d r)(k:∀o,O d=some o->O' d=some o):DAt cS cL cT cR O' d r:=by
 cases r with
 |sign c=>obtain⟨dx,h⟩:=h;exact⟨dx,k _ h⟩
 |line=>obtain⟨dx,h⟩:=h;exact⟨dx,k _ h⟩
 |tab=>obtain⟨dx,h⟩:=h;exact⟨dx,k _ h⟩
 |row c ns=>obtain⟨dx,h⟩:=h;exact⟨dx,k _ h⟩
theorem DAt.old(h:DAt cS cL cT cR O d r)(k:Old O O'):DAt cS cL cT cR O' d r:=h.to λo e=>by rw[k d (by rw[e];simp)];exact e
theorem DAt.nin(h:DAt cS cL cT cR O d r)(hA:At O C A S):d∉A.l:=by
 obtain⟨E,dd,fs,hd,hl⟩:=h.ex;show d∉[A.x,A.p,A.st,A.kp];simp only[List.mem_cons,List.not_mem_nil,or_false,not_or];exact⟨ze6 hd hA (by omega),neW hd hA.p (by intro h;cases h),neW hd hA.st (by intro h;cases h),neW hd hA.kp (by intro h;cases h)⟩
theorem DAt.fr{l l':List Addr}(h:DAt cS cL cT cR O d r)(f:Fr O O' l l')(hd:d∉l):DAt cS cL cT cR O' d r:=h.to λo e=>(f d o e hd).1
end
structure Q4 (O:OM) (C:Addr) (A B U V:Sd) (sl:Addr) (S T:ST):Prop where
 a:At O C A S
 b:At O C B S
 c:At O C U T
 d:At O C V T
 ls:O sl=some (.lst [.own U.x,.own V.x])
 ab:Dj A.l B.l
 uv:Dj U.l V.l
 au:Dj (U.l++V.l) (A.l++B.l)
 s1:sl∉A.l++B.l
 s2:sl∉U.l++V.l
section
variable {O':OM}{sl:Addr}{A B U V A' B' U' V':Sd}{T S' T':ST}
theorem Q4.old(h:Q4 O C A B U V sl S T)(k:Old O O'):Q4 O' C A B U V sl S T:=⟨h.a.old k,h.b.old k,h.c.old k,h.d.old k,by rw[k sl (by rw[h.ls];simp)];exact h.ls,h.ab,h.uv,h.au,h.s1,h.s2⟩
theorem zb1{l m n:List Addr}(h:Dj (l++m) n):Dj l n/\Dj m n:=⟨λa ha=>h a (List.mem_append_left _ ha),λa ha=>h a (List.mem_append_right _ ha)⟩
theorem kK{l m n:List Addr}(h:Dj l n)(k:Dj m n):Dj (l++m) n:=λa ha=>by
 rcases List.mem_append.mp ha with z|z
 .exact h a z
 .exact k a z
theorem Q4.one(h:Q4 O C A B U V sl S T)(ha:At O' C A' S')(hb:At O' C B' S')(d:Dj A'.l B'.l)(f:Fr O O' (A.l++B.l) (A'.l++B'.l)):Q4 O' C A' B' U V sl S' T:=by
 obtain⟨d1,d2⟩:=zb1 h.au;obtain⟨c1,c2⟩:=f.at h.c d1;obtain⟨e1,e2⟩:=f.at h.d d2;obtain⟨g1,g2⟩:=f sl _ h.ls h.s1;exact⟨ha,hb,c1,e1,g1,d,h.uv,kK c2 e2,g2,h.s2⟩
theorem Q4.two(h:Q4 O C A B U V sl S T)(hu:At O' C U' T')(hv:At O' C V' T')(d:Dj U'.l V'.l)(f:Fr O O' (U.l++V.l) (U'.l++V'.l))(ex:U'.x=U.x)(ey:V'.x=V.x):Q4 O' C A B U' V' sl S T':=by
 obtain⟨d1,d2⟩:=zb1 h.au.symm;obtain⟨c1,c2⟩:=f.at h.a d1;obtain⟨e1,e2⟩:=f.at h.b d2;obtain⟨g1,g2⟩:=f sl _ h.ls h.s2;exact⟨c1,e1,hu,hv,by rw[ex,ey];exact g1,h.ab,d,(kK c2 e2).symm,h.s1,g2⟩
end
end L2
namespace Att
open PySem PySem.W PySem.Calls PyProof.Rows
theorem zd2{i:Int}(x:(WData.int i).layable=true):L2.Bt 1048576 i:=by
  have h:=(layableW_iff.mp x).2.2;simp only[WData.weight]at h;unfold L2.Bt;by_cases hi:i= 0
  · subst hi
    exact Nat.two_pow_pos _
  · have hn:i.natAbs≠0:=by omega
    simp only[beq_iff_eq,hi,if_false]at h;exact (Nat.log2_lt hn).mp (by
      have e:(2:Nat) ^ 20=1048576:=by decide
      omega)
theorem attB{l:OpenLaw}{q:Program}{loose:List Str}{XP:(Str->Option Value)->Heap->Prop}{YP:World->Heap->Prop}{d:DefRec}
    (hn:l.most=some n)(hdf:d.params.defaults=[])
    (call:∀ (w:World) (s₀ s₁:Shared) (mg mb:Str->Option Value) (fa a:Addr) (vs:List Value) (ns:List Int),Ground q loose [] XP w s₀ mg mb s₁.heap->YP w s₁.heap->mg d.name=some (.ref fa)->
      s₁.heap.get? a=some { cls:=.type "list",data:=.seq vs.toArray }->IntsAre vs ns->ns.length<=n->(∀i∈ns,L2.Bt 1048576 i)->s₁.gens= #[]->
      codeAny (model l.prog w) callerA (.call (.ref fa) ⟨[.ref a],[]⟩) (λr s'=>r=.ok (.ret (.bool true))/\OldK s₁.heap s'.heap/\s'.os=s₁.os/\AllBare s'.gens) s₁) :
    WalkO q loose XP YP l.row.toRowW d [] (λf vs=>PySem.call f vs):=by
  intro w s₀ s₁ mg mb G Y fa o pm cd doc dV kV ho hd hcd hD hm hg args vals as hp hy hr hw hl;cases Dflts.none hD hdf;cases Dflts.noKw hD;obtain⟨a,vs,ns,e1,e2,hb,hi,hk⟩:=zaQ hn hp hw;subst e1;subst e2;have bits:∀i∈ns,L2.Bt 1048576 i:=λi h=>zd2 (layableW_item (layableW_arg hy _ List.mem_cons_self) _ (List.mem_map.2 ⟨i,h,rfl⟩));refine enter_call (codeAny_mono (call w s₀ s₁ mg mb fa a vs ns G Y hm hb hi hk bits hg) ?_);rintro r s' ⟨rfl,c2,c3,c4⟩;refine⟨.inl ⟨.bool true,.bool true,[],rfl,λ_=>rfl,.bool true,zaR l _,λ_=>⟨List.Pairwise.nil,λ_ z=>?_⟩⟩,c2,c3,c4⟩;cases z
end Att
namespace L2
open PySem PySem.Spec PyProof.Rows
theorem walkW{l:PySem.W.OpenLaw}{k:Nat}{q:Program}{loose:List Str}{XP:(Str->Option Value)->Heap->Prop}{YP:World->Heap->Prop}{d:DefRec}{K:Params->W.Frag}{s:SpW}(hn:l.most=some n)(hn2:n<=1000)(hdf:d.params.defaults=[])(hr:Room k callerA)
    (hY:∀(w:World) (h:Heap),YP w h->(K w.params).In h)
    (F:∀ (w:World) (mg:Str->Option Value) (fa:Addr) (h:Heap),(K w.params).In h->h.Ns mainGlobals mg->mg d.name=some (.ref fa)->
      ∃fd:FuncData,(∀(s:Shared) (u:Value),BindsTo s fd ⟨[u],[]⟩ [(x,u)])/\∀base:Heap,(K w.params).In base->base.Ns mainGlobals mg->FnOk l.prog w (K w.params) mg base CX0 k fa fd [x] (zb (K w.params) s))
    (hs:∀(ns:List Int) (O:OM) (R:WK),ns.length<=n->(∀i∈ns,Bt 1048576 i)->(∀O',R (.d (.bool true)) O')->s [.d (.list (ns.map .int))] O R) :
    PySem.W.WalkO q loose XP YP l.row.toRowW d [] (λf vs=>PySem.call f vs):=by
  refine Att.attB hn hdf λw s₀ s₁ mg mb fa a vs ns G Y hm hb hi hk bits hg=>?_;obtain⟨fd,e1,e2⟩:=F w mg fa _ (hY w _ Y) G.T.g hm;refine zcJ (hY w _ Y) G.T.g G.T.b G.T.builtins G.T.nolimit hg hb hi (Nat.le_trans hk (Nat.le_trans hn2 (by decide))) hr e2 e1 (λH hO hS=>?_) λ_ _ _ z=>z;refine⟨⟨H,λ_=>none,λ_=>none⟩,λ_=>none,[.d (.list (ns.map .int))],λw _=>w=.d (.bool true),?_,.cons ⟨a,_,rfl,hS,XS ns⟩ .nil,hs ns _ _ hk bits λ_=>rfl,?_⟩
  · exact⟨Same.refl _,λ_ _ e=>(by cases e),λ_ _ e=>(by cases e),λ_ _ e=>(by cases e),λ_ _ e=>(by cases e),λ_ _ e=>(by cases e),λ_ _ e=>(by cases e),λ_ _ _ _ _ _ _ e=>(by cases e)⟩
  · rintro Γ' O' H' w v _ _ r rfl
    exact r
end L2
namespace K21
open PySem L2
set_option hygiene false
local macro_rules | `(tactic| walk_at "ref") => do
  let f (s : String) : Lean.MacroM (Lean.TSyntax `tactic) := do
    let a ← (s.splitOn " ").toArray.mapM fun n => `(tactic| apply $(Lean.mkIdent n.toName))
    `(tactic| with_reducible first $[| $a:tactic]*)
  `(tactic| repeat' (first | $(← f "zis zfH zfI zhS zfJ zhT zkh zki zjW zjX zit zgc zj0 ziu zj2 zj3 zj6 zkR zko ziA zkm zif zhU"):tactic | exact zk3 (fun _=>rfl) | exact zkg (fun _ _=>rfl) | exact zk2 (fun _ _=>rfl) | $(← f "zdv zcZ zfN zc0 zh0 JH zkj zfL zhZ zfM zdn zf8 zfP zgA zbS zgB zgp zf2 zc3"):tactic | with_reducible exact zic rfl | $(← f "zio zgq zfR zfS zdi zbh zbi zc6 zc5 zh1 zkl ziB zil zh2 zkQ zim zkk zh3 ziS ziT ziR zgb zgi zf3 zf9 Kw zdk zgm zh9 zf4 zf5 ziv zbd zdg RefPs.nil RefPs.cons zia zf0 zkq zgr ziz zjb zdA zgg zdh zdN zbP zgx zi2 zi3 zdo zfV zc7 za4 zc8 zfW zfX zfY zc9 zdd zbW zdb za5 zde zgd zdw zfZ zgw zdM KO za6 zdz zdf za7 za8 za9 zba"):tactic))
local macro_rules | `(tactic| walk_at "wd") => do
  let f (s : String) : Lean.MacroM (Array (Lean.TSyntax ``Lean.Parser.Tactic.simpLemma)) := (s.splitOn " ").toArray.mapM fun n => `(Lean.Parser.Tactic.simpLemma| $(Lean.mkIdent n.toName):ident)
  let a ← f "z9 List.getElem?_cons_zero List.getElem?_cons_succ wC wOp vI0 vI wUn vU vEq vNe KG VF yY UA zcY wOr Ug wIf qz yQ wCs jy wCB vI2 xh VG zbn UB xg uH Zn Uk zj5 vm Ul vn ofV kj List.set List.map xX List.append List.nil_append List.cons_append"
  let b ← f "ze8 zi8 zbR Xi zeV ziE JI ziG zbr zeW zeX ziC KK ziZ zi0 zbO JO zi1 wDf UC ziK zeU zdK KQ ze2 zbB ziQ zbF ze3 KY z9 wC wOp vI0 vI wUn vU vEq vNe zhV zcX KG VF zhX zdu yX zhY Up wIn ziM zeL UA zew Y3 zex wIf yY zcY wOr Ug zc2 qz yQ wCs zc4 Y5 zeJ jy zez zey zbm wCB Ks zeA Ym Uj vI2 zeB zid JB zeK xh zbn zbc zeG Yo wBM zib Y8 xg uH Zn Uk vm Ul vn zdc zda Kt zh5 VG UB zh8 Yn zh7 zeC zeD zeE zeF wLc zij zik zdj zeP Zo yn xX ofV vOf scD ZK vW Kr yS kj Y4 Uh tyD isI yH and_assoc wCR ziq zdj vq sI1 sI2 sI3 ZR Y9 Uv VD jf Ky zJ zf yR zW zdq"
  `(tactic| ((try dsimp only [$a,*]);try simp [$b,*]))
set_option hygiene true
noncomputable def top(i:Nat):Stmt:=PySem.Challenge.pw_signscreen_k21_deeds_and_their_signs.main.body.getD i (.Pass ⟨0,0,0,0⟩)
local macro_rules | `(tactic| walk_at "sc")=>`(tactic| exact⟨rfl,rfl,rfl,by decide +kernel,rfl,by decide +kernel,by decide +kernel⟩)
theorem Q0:FnScope ["thing","least","most"] ["thing","least","most"] (defScope (top 7)):=by walk_at "sc"
theorem K4:FnScope ["ink"] ["ink"] (defScope (top 8)):=by walk_at "sc"
theorem K5:FnScope ["ink"] ["ink"] (defScope (top 9)):=by walk_at "sc"
theorem Q2:FnScope ["ink"] ["ink"] (defScope (top 10)):=by walk_at "sc"
theorem zb2:FnScope ["fore","back","marks"] ["fore","back","marks"] (defScope (top 11)):=by walk_at "sc"
theorem Qa:FnScope ["ink","hue"] ["ink","hue"] (defScope (top 12)):=by walk_at "sc"
theorem Qb:FnScope ["ink","hue"] ["ink","hue"] (defScope (top 13)):=by walk_at "sc"
theorem Qc:FnScope ["ink","mark"] ["ink","mark"] (defScope (top 14)):=by walk_at "sc"
theorem YD:FnScope ["ink","mark"] ["ink","mark"] (defScope (top 15)):=by walk_at "sc"
theorem YE:FnScope ["ink"] ["ink"] (defScope (top 16)):=by walk_at "sc"
theorem ZF:FnScope ["ink","words","word","hue"] ["ink"] (defScope (top 17)):=by walk_at "sc"
theorem K6:FnScope ["wide","high"] ["wide","high"] (defScope (top 21)):=by walk_at "sc"
theorem Qd:FnScope ["wide","ink"] ["wide","ink"] (defScope (top 22)):=by walk_at "sc"
theorem ZV:FnScope ["wide","high","ink"] ["wide","high","ink"] (defScope (top 23)):=by walk_at "sc"
theorem zb3:FnScope ["picture"] ["picture"] (defScope (top 24)):=by walk_at "sc"
noncomputable abbrev x6:Stmt:=yx (top 27) 0
theorem Zx:FnScope ["self","wide","high"] ["self","wide","high"] (defScope x6):=by walk_at "sc"
noncomputable abbrev um:Stmt:=yx (top 27) 1
theorem Xm:FnScope ["self"] ["self"] (defScope um):=by walk_at "sc"
theorem Xn:FnScope ["wide"] ["wide"] (defScope (top 28)):=by walk_at "sc"
theorem Qe:FnScope ["state","top","bottom","left","right"] ["state"] (defScope (top 29)):=by walk_at "sc"
theorem YF:FnScope ["many"] ["many"] (defScope (top 30)):=by walk_at "sc"
theorem Q3:FnScope ["state"] ["state"] (defScope (top 31)):=by walk_at "sc"
theorem zfd:FnScope ["state","letter","many","times","edge"] ["state","letter","many"] (defScope (top 33)):=by walk_at "sc"
theorem YG:FnScope ["state"] ["state"] (defScope (top 34)):=by walk_at "sc"
theorem K7:FnScope ["number","first","last"] ["number","first","last"] (defScope (top 35)):=by walk_at "sc"
theorem Q5:FnScope ["state","row","column"] ["state","row","column"] (defScope (top 36)):=by walk_at "sc"
theorem K8:FnScope ["state"] ["state"] (defScope (top 37)):=by walk_at "sc"
theorem X5:FnScope ["state","many","right","step","ahead"] ["state","many"] (defScope (top 38)):=by walk_at "sc"
theorem ZG:FnScope ["state","many","left","step","behind"] ["state","many"] (defScope (top 39)):=by walk_at "sc"
theorem Q6:FnScope ["state"] ["state"] (defScope (top 40)):=by walk_at "sc"
theorem Qf:FnScope ["state"] ["state"] (defScope (top 41)):=by walk_at "sc"
theorem Ve:FnScope ["state"] ["state"] (defScope (top 42)):=by walk_at "sc"
theorem jT:FnScope ["state","step","right","line","old","column","source","inside"] ["state","step"] (defScope (top 44)):=by walk_at "sc"
theorem Qg:FnScope ["state","many"] ["state","many"] (defScope (top 45)):=by walk_at "sc"
theorem Qh:FnScope ["state","many"] ["state","many"] (defScope (top 46)):=by walk_at "sc"
theorem jk:FnScope ["state","first","behind","place"] ["state","first","behind"] (defScope (top 47)):=by walk_at "sc"
theorem jU:FnScope ["state","many","row_begin","behind"] ["state","many"] (defScope (top 48)):=by walk_at "sc"
theorem JV:FnScope ["state","way","row_begin","row_end","cursor","picture_end","spans","span"] ["state","way"] (defScope (top 49)):=by walk_at "sc"
theorem zgQ:FnScope ["state"] ["state"] (defScope (top 52)):=by walk_at "sc"
theorem kQ:FnScope ["state","then"] ["state"] (defScope (top 53)):=by walk_at "sc"
theorem Vf:FnScope ["state"] ["state"] (defScope (top 54)):=by walk_at "sc"
theorem jV:FnScope ["state","row","column"] ["state"] (defScope (top 55)):=by walk_at "sc"
theorem kR:FnScope ["state","wide","high"] ["state"] (defScope (top 56)):=by walk_at "sc"
theorem Qk:FnScope ["state","numbers","answers","number"] ["state","numbers"] (defScope (top 57)):=by walk_at "sc"
theorem kS:FnScope ["state","first","step","old","row","source","inside","column"] ["state","first","step"] (defScope (top 59)):=by walk_at "sc"
theorem K9:FnScope ["state","first","times"] ["state","first","times"] (defScope (top 60)):=by walk_at "sc"
theorem Ql:FnScope ["state","first","times"] ["state","first","times"] (defScope (top 61)):=by walk_at "sc"
theorem zgR:FnScope ["state","letter","many"] ["state","letter","many"] (defScope (top 62)):=by walk_at "sc"
theorem Qn:FnScope ["state","many"] ["state","many"] (defScope (top 63)):=by walk_at "sc"
theorem Qo:FnScope ["state","many"] ["state","many"] (defScope (top 64)):=by walk_at "sc"
theorem JW:FnScope ["first","last","size","begin","end"] ["first","last","size"] (defScope (top 66)):=by walk_at "sc"
theorem ZH:FnScope ["state","first","last","rows"] ["state","first","last"] (defScope (top 67)):=by walk_at "sc"
theorem jm:FnScope ["state","first","last","columns"] ["state","first","last"] (defScope (top 68)):=by walk_at "sc"
theorem zgS:FnScope ["ink","number"] ["ink","number"] (defScope (top 69)):=by walk_at "sc"
theorem zb4:FnScope ["state","numbers","number"] ["state","numbers"] (defScope (top 70)):=by walk_at "sc"
theorem jW:FnScope ["state","numbers","on","turned_on","number"] ["state","numbers","on"] (defScope (top 71)):=by walk_at "sc"
theorem Q7:FnScope ["state"] ["state"] (defScope (top 73)):=by walk_at "sc"
theorem Q8:FnScope ["state","sign"] ["state","sign"] (defScope (top 74)):=by walk_at "sc"
theorem Qr:FnScope ["state","many","turn"] ["state","many"] (defScope (top 75)):=by walk_at "sc"
theorem Qs:FnScope ["numbers","place"] ["numbers","place"] (defScope (top 77)):=by walk_at "sc"
theorem jP:FnScope ["state","letter"] ["state","letter"] (defScope (top 78)):=by walk_at "sc"
theorem Xr:FnScope ["state","letter","many"] ["state","letter","many"] (defScope (top 79)):=by walk_at "sc"
theorem Xs:FnScope ["state","letter","first","second"] ["state","letter","first","second"] (defScope (top 80)):=by walk_at "sc"
theorem Xt:FnScope ["state","letter","numbers"] ["state","letter","numbers"] (defScope (top 81)):=by walk_at "sc"
noncomputable abbrev kU:Stmt:=yx (top 82) 0
theorem zab:FnScope ["self","state"] ["self","state"] (defScope kU):=by walk_at "sc"
noncomputable abbrev u9:Stmt:=yx (top 82) 1
theorem Vg:FnScope ["self"] ["self"] (defScope u9):=by walk_at "sc"
noncomputable abbrev vz:Stmt:=yx (top 83) 0
theorem ZY:FnScope ["self","sign"] ["self","sign"] (defScope vz):=by walk_at "sc"
noncomputable abbrev kW:Stmt:=yx (top 83) 1
theorem zac:FnScope ["self","state"] ["self","state"] (defScope kW):=by walk_at "sc"
noncomputable abbrev qa:Stmt:=yx (top 83) 2
theorem Vh:FnScope ["self"] ["self"] (defScope qa):=by walk_at "sc"
noncomputable abbrev kX:Stmt:=yx (top 84) 0
theorem zad:FnScope ["self","state"] ["self","state"] (defScope kX):=by walk_at "sc"
noncomputable abbrev qb:Stmt:=yx (top 84) 1
theorem Vi:FnScope ["self"] ["self"] (defScope qb):=by walk_at "sc"
noncomputable abbrev ZZ:Stmt:=yx (top 85) 0
theorem zb5:FnScope ["self","state"] ["self","state"] (defScope ZZ):=by walk_at "sc"
noncomputable abbrev qQ:Stmt:=yx (top 85) 1
theorem Qt:FnScope ["self"] ["self"] (defScope qQ):=by walk_at "sc"
noncomputable abbrev vQ:Stmt:=yx (top 86) 0
theorem YH:FnScope ["self","letter","numbers"] ["self","letter","numbers"] (defScope vQ):=by walk_at "sc"
noncomputable abbrev Z0:Stmt:=yx (top 86) 1
theorem X6:FnScope ["self","state","first"] ["self","state"] (defScope Z0):=by walk_at "sc"
noncomputable abbrev qR:Stmt:=yx (top 86) 2
theorem kY:FnScope ["self","body"] ["self"] (defScope qR):=by walk_at "sc"
theorem zae:FnScope ["read"] ["read"] (defScope (top 87)):=by walk_at "sc"
theorem k4:FnScope ["sign"] ["sign"] (defScope (top 92)):=by walk_at "sc"
theorem k5:FnScope ["sign"] ["sign"] (defScope (top 93)):=by walk_at "sc"
theorem X7:FnScope ["body","parts"] ["body"] (defScope (top 94)):=by walk_at "sc"
theorem jX:FnScope ["sign"] ["sign"] (defScope (top 95)):=by walk_at "sc"
noncomputable abbrev xV:Stmt:=yx (top 96) 0
theorem uf:FnScope ["self"] ["self"] (defScope xV):=by walk_at "sc"
noncomputable abbrev xW:Stmt:=yx (top 96) 1
theorem ug:FnScope ["self"] ["self"] (defScope xW):=by walk_at "sc"
noncomputable abbrev uy:Stmt:=yx (top 96) 2
theorem jn:FnScope ["self","text","found","sign"] ["self","text"] (defScope uy):=by walk_at "sc"
noncomputable abbrev xM:Stmt:=yx (top 96) 3
theorem vD:FnScope ["self","sign","stood_alone"] ["self","sign"] (defScope xM):=by walk_at "sc"
noncomputable abbrev x8:Stmt:=yx (top 96) 4
theorem uB:FnScope ["self","letter","numbers"] ["self","letter"] (defScope x8):=by walk_at "sc"
theorem zaf:FnScope ["_law_script","_law_k"] ["_law_script","_law_k"] (defScope (top 98)):=by walk_at "sc"
theorem jY:FnScope ["_law_cell","_law_k","_law_mixed_here"] ["_law_cell","_law_k"] (defScope (top 99)):=by walk_at "sc"
theorem k7:FnScope ["_law_cell","_law_wide"] ["_law_cell"] (defScope (top 100)):=by walk_at "sc"
theorem Xu:FnScope ["_law_cell"] ["_law_cell"] (defScope (top 101)):=by walk_at "sc"
theorem qw:FnScope ["_law_mixed_here","_law_many"] ["_law_mixed_here"] (defScope (top 102)):=by walk_at "sc"
theorem ZI:FnScope ["_law_mixed_here","_law_letter","_law_more","_law_numbers_here","_law_tens"] ["_law_mixed_here"] (defScope (top 103)):=by walk_at "sc"
theorem jZ:FnScope ["_law_letter","_law_numbers_here","_law_words"] ["_law_letter","_law_numbers_here"] (defScope (top 104)):=by walk_at "sc"
theorem k8:FnScope ["_law_state","_law_found"] ["_law_state"] (defScope (top 105)):=by walk_at "sc"
theorem Z2:FnScope ["_law_state","_law_letter","_law_one","_law_other"] ["_law_state","_law_letter","_law_one","_law_other"] (defScope (top 106)):=by walk_at "sc"
theorem Z3:FnScope ["_law_state","_law_letter","_law_many"] ["_law_state","_law_letter","_law_many"] (defScope (top 107)):=by walk_at "sc"
theorem Z4:FnScope ["_law_state","_law_letter","_law_numbers_here"] ["_law_state","_law_letter","_law_numbers_here"] (defScope (top 108)):=by walk_at "sc"
theorem jo:FnScope ["_law_state","_law_read_here","_law_one","_law_other"] ["_law_state","_law_read_here"] (defScope (top 109)):=by walk_at "sc"
theorem k9:FnScope ["_law_mixed_here","_law_way","_law_sign","_law_letter","_law_numbers_here"] ["_law_mixed_here"] (defScope (top 110)):=by walk_at "sc"
theorem vE:FnScope ["_law_deed","_law_read_here","_law_found"] ["_law_deed","_law_read_here"] (defScope (top 111)):=by walk_at "sc"
theorem YI:FnScope ["_law_read_here"] ["_law_read_here"] (defScope (top 112)):=by walk_at "sc"
theorem Za:FnScope ["_law_deed","_law_read_here","_law_state","_law_other","_law_found"] ["_law_deed","_law_read_here","_law_state","_law_other"] (defScope (top 113)):=by walk_at "sc"
theorem zb6:FnScope ["_law_script","_law_wide","_law_high","_law_state","_law_other","_law_some","_law_k","_law_cell","_law_mixed_here","_law_read_here","_law_signs_here","_law_deeds","_law_deed","_law_plain"] ["_law_script"] (defScope (top 114)):=by walk_at "sc"
structure Txt (P:Program) (w:World) (K:W.Frag) (mg:Str->Option Value) (C bw:Addr):Prop where
 n_len:mg "len" =none
 n_range:mg "range" =none
 n_int:mg "int" =none
 n_bool:mg "bool" =none
 n_str:mg "str" =none
 n_dict:mg "dict" =none
 n_list:mg "list" =none
 n_tuple:mg "tuple" =none
 n_isinstance:mg "isinstance" =none
 n_sorted:mg "sorted" =none
 n_min:mg "min" =none
 n_max:mg "max" =none
 n_zip:mg "zip" =none
 n_repr:mg "repr" =none
 n_enumerate:mg "enumerate" =none
 g_WIDEST:∃t,mg "WIDEST" =some (.int 24 t)
 g_HIGHEST:∃t,mg "HIGHEST" =some (.int 12 t)
 g_TAB_STEP:∃t,mg "TAB_STEP" =some (.int 4 t)
 g_ALL_MARKS:∃t,mg "ALL_MARKS" =some (.int 448 t)
 g_MOST_KEPT:∃t,mg "MOST_KEPT" =some (.int 8 t)
 g_BITS_BY_MARK:∃a,mg "BITS_BY_MARK" =some (.ref a)/\DK K a [(0,64),(1,128),(2,256)]
 g_BITS_BY_WORD:mg "BITS_BY_WORD" =some (.ref bw)
 d_bw:DS P w K bw bitsD
 mgC:mg "State" =some (.ref C)
 st:Sta K C
local macro_rules | `(tactic| walk_at "ln")=>do
 let r:=Lean.mkIdent `rfl
 `(tactic| first | (rintro _ _ _ ⟨$r:ident,_⟩;rfl) | (rintro _ _ _ ⟨_,$r:ident,_⟩;rfl) | (rintro _ _ _ ⟨_,_,$r:ident,_⟩;rfl) | (rintro _ _ _ ⟨_,_,_,$r:ident,_⟩;rfl) | (rintro _ _ _ ⟨_,_,_,_,$r:ident,_⟩;rfl) | (rintro _ _ _ ⟨_,_,_,_,_,$r:ident,_⟩;rfl) | (rintro _ _ _ ⟨_,_,_,_,_,_,$r:ident,_⟩;rfl) | (rintro _ _ _ ⟨_,_,_,_,_,_,_,$r:ident,_⟩;rfl) | (rintro _ _ _ ⟨_,_,_,_,_,_,_,_,$r:ident,_⟩;rfl) | (rintro _ _ _ ⟨_,_,_,_,_,_,_,_,_,$r:ident,_⟩;rfl) | (rintro _ _ _ ⟨_,_,_,_,_,_,_,_,_,_,$r:ident,_⟩;rfl) | (rintro _ _ _ ⟨_,_,_,_,_,_,_,_,_,_,_,$r:ident,_⟩;rfl) | (rintro _ _ _ ⟨_,_,_,_,_,_,_,_,_,_,_,_,$r:ident,_⟩;rfl) | (rintro _ _ _ ⟨_,_,_,_,_,_,_,_,_,_,_,_,_,$r:ident,_⟩;rfl))
section
variable {w:World}{bw:Addr}
theorem YJ(F:Fun K "at_least_one" "at_least_one" (top 30) f fd)(T:Txt P w K mg C bw):FnOk P w K mg base CX0 1 f fd ["many"] (zb K vq):=by
 apply F.okU YF (by walk_at "ln") (λhr=>(za (zL (yr (zM uR (pv 0) yF) zc (yf (j8 rfl) (by rfl) T.n_max (by rfl) (QA.pa (qc zc (qc (pv 0) qn))))))))
 .walk_at "ref"
 rintro _ O R ⟨n,rfl,hn,h⟩;rcases hn.cs with rfl|⟨i,rfl,h0,h1⟩
 .walk_at "wd"
  exact .inl h
 .walk_at "wd"
  exact .inl h
theorem zah(F:Fun K "counted" "counted" (top 35) f fd)(T:Txt P w K mg C bw)(u0:Cal P w K mg base 1 "at_least_one" [] (zb K vq)):FnOk P w K mg base CX0 2 f fd ["number","first","last"] (zb K ZR):=by
 apply F.okU K7 (by walk_at "ln") (λhr=>(za (zL (yf (ua rfl) (by rfl) T.n_min (by rfl) (QA.pa (qc (zu yM (zu yd (pv 1) (zj u0 hr (qc (pv 0) qn))) zc) (qc (pv 2) qn)))))))
 .walk_at "ref"
 rintro _ O R ⟨n,a,b,rfl,hn,h⟩;walk_at "wd";exact⟨hn,.inl h⟩
theorem Q9(F:Fun K "is_whole" "is_whole" (top 7) f fd)(T:Txt P w K mg C bw):FnOk P w K mg base CX0 1 f fd ["thing","least","most"] (zb K Uv):=by
 apply F.okU Q0 (by walk_at "ln") (λhr=>(za (zL (j5 (yf (km (K:=K) rfl) (by rfl) T.n_isinstance (by rfl) (QA.pa (qc (pv 0) (qc (YW (v:=.ty "int") (u:=.type "int") rfl T.n_int rfl rfl) qn)))) (j5 (zhe (yf (km (K:=K) rfl) (by rfl) T.n_isinstance (by rfl) (QA.pa (qc (pv 0) (qc (YW (v:=.ty "bool") (u:=.type "bool") rfl T.n_bool rfl rfl) qn))))) (j4 (vG yT yT (pv 1) (pv 0) (pv 2))))))))
 .walk_at "ref"
 rintro _ O R ⟨n,lo,hi,rfl,h⟩;walk_at "wd";split
 .rename_i h1;simp[h1]at h;exact .inl h
 .rename_i h1;simp[h1]at h;exact .inl h
theorem zai(F:Fun K "is_size" "is_size" (top 21) f fd)(T:Txt P w K mg C bw)(ao:Cal P w K mg base 1 "is_whole" [] (zb K Uv)):FnOk P w K mg base CX0 2 f fd ["wide","high"] (zb K zeQ):=by
 apply F.okU K6 (by walk_at "ln") (λhr=>(za (zL (j5 (zj ao hr (qc (pv 0) (qc zc (qc (qo rfl T.g_WIDEST) qn)))) (j4 (zj ao hr (qc (pv 1) (qc zc (qc (qo rfl T.g_HIGHEST) qn)))))))))
 .walk_at "ref"
 rintro _ O R ⟨a,b,rfl,a1,a2,b1,b2,h⟩;walk_at "wd";have e1:(1:Int)<=a/\(a:Int)<=24:=by omega
 have e2:(1:Int)<=b/\(b:Int)<=12:=by omega
 simp[e1,e2];exact .inl h
theorem zgT(F:Fun K "span" "span" (top 66) f fd)(T:Txt P w K mg C bw)(u0:Cal P w K mg base 1 "at_least_one" [] (zb K vq)):FnOk P w K mg base CX0 2 f fd ["first","last","size"] (zb K VD):=by
 have nd:=JW.nd;apply F.okU JW (by walk_at "ln") (λhr=>(zd (zZ 3 nd (zj u0 hr (qc (pv 0) qn))) (zd (zZ 4 nd (yr (xJ (K:=K) rfl (pv 1) (λ_=>rfl)) (yf (ua rfl) (by rfl) T.n_min (by rfl) (QA.pa (qc (pv 1) (qc (pv 2) qn)))) (pv 2))) (za (zL (yr (zM Z9 (pv 3) (pv 4)) yF (yb (qc (zu yM (pv 3) zc) (qc (zu yM (pv 4) zc) qn)))))))))
 .walk_at "ref"
 rintro _ O R ⟨n,m,s,rfl,hn,hm,h⟩;simp only[VC]at h;have fin:∀E:Int,xK m s=E->if E<oneD n then Clo R (.d .none) O else Clo R (.d (.tuple [.int (oneD n-1),.int (E-1)])) O:=by
  rintro E rfl;split
  .rename_i e;rw[if_pos e]at h;exact .inl h
  .rename_i e;rw[if_neg e]at h;exact .inl h
 rcases hm.cs with rfl|⟨i,rfl,h0,h1⟩
 .walk_at "wd"
  exact⟨hn,fin s rfl⟩
 .walk_at "wd"
  refine⟨hn,?_⟩;by_cases hi:i= 0
  .first|exact .inl ⟨hi,fin s (by simp[xK,hi])⟩|(rw[if_pos hi];exact fin s (by simp[xK,hi]))
  .first|exact .inr ⟨hi,fin _ (by simp[xK,hi])⟩|(rw[if_neg hi];exact fin _ (by simp[xK,hi]))
theorem zaj(F:Fun K "fore_of" "fore_of" (top 8) f fd)(T:Txt P w K mg C bw):FnOk P w K mg base CX0 1 f fd ["ink"] (zb K (sI1 (λ_=>True) λi=>Builtin.bitAnd i 7)):=by
 apply F.okU K4 (by walk_at "ln") (λhr=>(za (zL (zu j7 (pv 0) zc))))
 .walk_at "ref"
 rintro _ O R ⟨n,rfl,_,h⟩;walk_at "wd";exact .inl h
theorem zak(F:Fun K "back_of" "back_of" (top 9) f fd)(T:Txt P w K mg C bw):FnOk P w K mg base CX0 1 f fd ["ink"] (zb K (sI1 (λ_=>True) λi=>Builtin.bitAnd (i / 8) 7)):=by
 apply F.okU K5 (by walk_at "ln") (λhr=>(za (zL (zu j7 (zu zaA (pv 0) zc) zc))))
 .walk_at "ref"
 rintro _ O R ⟨n,rfl,_,h⟩;walk_at "wd";exact .inl h
theorem Ja(F:Fun K "marks_of" "marks_of" (top 10) f fd)(T:Txt P w K mg C bw):FnOk P w K mg base CX0 1 f fd ["ink"] (zb K (sI1 (λ_=>True) λi=>Builtin.bitAnd (i / 64) 7)):=by
 apply F.okU Q2 (by walk_at "ln") (λhr=>(za (zL (zu j7 (zu zaA (pv 0) zc) zc))))
 .walk_at "ref"
 rintro _ O R ⟨n,rfl,_,h⟩;walk_at "wd";exact .inl h
theorem X8{d:Value}(F:FunD K "ink_of" "ink_of" (top 11) [d] f fd)(T:Txt P w K mg C bw):FnOk P w K mg base CX0 1 f fd ["fore","back","marks"] (zb K jf):=by
 apply F.okU zb2 (by walk_at "ln") (λhr=>(za (zL (zu yd (zu yd (pv 0) (zu xm zc (pv 1))) (zu xm zc (pv 2))))))
 .walk_at "ref"
 rintro _ O R ⟨a,b,c,rfl,⟨b1,b2,c1,c2⟩,h⟩;walk_at "wd";exact⟨mulL (by omega) (by omega),mulL (by omega) (by omega),.inl h⟩
theorem YK(F:Fun K "turned_marks" "turned_marks" (top 16) f fd)(T:Txt P w K mg C bw):FnOk P w K mg base CX0 1 f fd ["ink"] (zb K (sI1 (λ_=>True) λi=>Builtin.bitXor i 448)):=by
 apply F.okU YE (by walk_at "ln") (λhr=>(za (zL (zu zhp (pv 0) (qo rfl T.g_ALL_MARKS)))))
 .walk_at "ref"
 rintro _ O R ⟨n,rfl,_,h⟩;walk_at "wd";exact .inl h
theorem Qu(F:Fun K "with_mark" "with_mark" (top 14) f fd)(T:Txt P w K mg C bw):FnOk P w K mg base CX0 1 f fd ["ink","mark"] (zb K (sI2 (λ_ _=>True) λi m=>Builtin.bitOr i ((xE [(0,64),(1,128),(2,256)] m).getD 0))):=by
 obtain⟨aB,hB,dB⟩:=T.g_BITS_BY_MARK;apply F.okU Qc (by walk_at "ln") (λhr=>(za (zL (zu zjN (pv 0) (Us (K:=K) rfl (uK (v:=.ref aB) (u:=.ref aB) rfl hB rfl) (QA.pa (qc (pv 1) (qc zc qn))))))))
 .walk_at "ref"
 rintro _ O R ⟨n,m,rfl,_,h⟩;walk_at "wd";exact⟨_,dB,.inl h⟩
theorem YL(F:Fun K "without_mark" "without_mark" (top 15) f fd)(T:Txt P w K mg C bw):FnOk P w K mg base CX0 1 f fd ["ink","mark"] (zb K (sI2 (λ_ _=>True) λi m=>Builtin.bitAnd i (Builtin.bitNot ((xE [(0,64),(1,128),(2,256)] m).getD 0)))):=by
 obtain⟨aB,hB,dB⟩:=T.g_BITS_BY_MARK;apply F.okU YD (by walk_at "ln") (λhr=>(za (zL (zu j7 (pv 0) (J2 zhq (Us (K:=K) rfl (uK (v:=.ref aB) (u:=.ref aB) rfl hB rfl) (QA.pa (qc (pv 1) (qc zc qn)))))))))
 .walk_at "ref"
 rintro _ O R ⟨n,m,rfl,_,h⟩;walk_at "wd";exact⟨_,dB,.inl h⟩
theorem Qv(F:Fun K "with_fore" "with_fore" (top 12) f fd)(T:Txt P w K mg C bw)(zlC:Cal P w K mg base 1 "ink_of" [] (zb K jf))(uw:Cal P w K mg base 1 "back_of" [] (zb K (sI1 (λ_=>True) λi=>Builtin.bitAnd (i / 8) 7)))(wa:Cal P w K mg base 1 "marks_of" [] (zb K (sI1 (λ_=>True) λi=>Builtin.bitAnd (i / 64) 7))) :
  FnOk P w K mg base CX0 2 f fd ["ink","hue"] (zb K (sI2 (λi _=>Ink i) λi h=>h+8*Builtin.bitAnd (i / 8) 7+64*Builtin.bitAnd (i / 64) 7)):=by
 apply F.okU Qa (by walk_at "ln") (λhr=>(za (zL (zj zlC hr (qc (pv 1) (qc (zj uw hr (qc (pv 0) qn)) (qc (zj wa hr (qc (pv 0) qn)) qn)))))))
 .walk_at "ref"
 rintro _ O R ⟨n,m,rfl,hi,h⟩;have a1:=zdr hi;have a2:=XW hi;walk_at "wd";exact⟨by omega,by omega,by omega,by omega,.inl h⟩
theorem Qw(F:Fun K "with_back" "with_back" (top 13) f fd)(T:Txt P w K mg C bw)(zlC:Cal P w K mg base 1 "ink_of" [] (zb K jf))(uz:Cal P w K mg base 1 "fore_of" [] (zb K (sI1 (λ_=>True) λi=>Builtin.bitAnd i 7)))(wa:Cal P w K mg base 1 "marks_of" [] (zb K (sI1 (λ_=>True) λi=>Builtin.bitAnd (i / 64) 7))) :
  FnOk P w K mg base CX0 2 f fd ["ink","hue"] (zb K (sI2 (λi h=>Ink i/\0<=h/\h<=10) λi h=>Builtin.bitAnd i 7+8*h+64*Builtin.bitAnd (i / 64) 7)):=by
 apply F.okU Qb (by walk_at "ln") (λhr=>(za (zL (zj zlC hr (qc (zj uz hr (qc (pv 0) qn)) (qc (pv 1) (qc (zj wa hr (qc (pv 0) qn)) qn)))))))
 .walk_at "ref"
 rintro _ O R ⟨n,m,rfl,⟨hi,m1,m2⟩,h⟩;have a2:=XW hi;walk_at "wd";exact⟨by omega,by omega,by omega,by omega,.inl h⟩
theorem zgU(F:Fun K "dyed" "dyed" (top 69) f fd)(T:Txt P w K mg C bw)(aw:Cal P w K mg base 1 "with_mark" [] (zb K (sI2 (λ_ _=>True) λi m=>Builtin.bitOr i ((xE [(0,64),(1,128),(2,256)] m).getD 0))))
  (ax:Cal P w K mg base 1 "without_mark" [] (zb K (sI2 (λ_ _=>True) λi m=>Builtin.bitAnd i (Builtin.bitNot ((xE [(0,64),(1,128),(2,256)] m).getD 0)))))(ay:Cal P w K mg base 1 "turned_marks" [] (zb K (sI1 (λ_=>True) λi=>Builtin.bitXor i 448)))
  (az:Cal P w K mg base 2 "with_fore" [] (zb K (sI2 (λi _=>Ink i) λi h=>h+8*Builtin.bitAnd (i / 8) 7+64*Builtin.bitAnd (i / 64) 7)))(ba:Cal P w K mg base 2 "with_back" [] (zb K (sI2 (λi h=>Ink i/\0<=h/\h<=10) λi h=>Builtin.bitAnd i 7+8*h+64*Builtin.bitAnd (i / 64) 7))) :
  FnOk P w K mg base CX0 3 f fd ["ink","number"] (zb K Ky):=by
 apply F.okU zgS (by walk_at "ln") (λhr=>(zd (zz (PW.pt (uC (zM uR (pv 1) yF) (vY (zM zU (pv 1) zc)))) (za (zL zc)) zV) (zd (zz (xG yT yT zc (pv 1) zc) (za (zL (zj aw hr (qc (pv 0) (qc (zu yM (pv 1) zc) qn))))) zV) (zd (zz (xG yT yT zc (pv 1) zc) (za (zL (zj ax hr (qc (pv 0) (qc (zu yM (pv 1) zc) qn))))) zV) (zd (zz (zM zU (pv 1) zc) (za (zL (zj ay hr (qc (pv 0) qn)))) zV) (zd (zz (xG yT yT zc (pv 1) zc) (za (zL (zj az hr (qc (pv 0) (qc (zu yM (pv 1) zc) qn))))) zV) (zd (zz (xG yT yT zc (pv 1) zc) (za (zL (zj ba hr (qc (pv 0) (qc (zu yM (pv 1) zc) qn))))) zV) (za (zL (pv 0))))))))))
 .walk_at "ref"
 rintro _ O R ⟨ink,n,rfl,hi,hn,h⟩;rcases hn.cs with rfl|⟨i,rfl,h0,h1⟩
 .walk_at "wd"
  exact .inl h
 .have key:∀v,dyeI ink (.int i)=v->Clo R (.d (.int v)) O:=λv e=>by rw[e]at h;exact .inl h
  walk_at "wd"
  repeat' split
  all_goals first
   |exact key _ (by simp only[dyeI];repeat' (first|rw[if_pos (by omega)]|rw[if_neg (by omega)]))
   |exact⟨hi,key _ (by simp only[dyeI];repeat' (first|rw[if_pos (by omega)]|rw[if_neg (by omega)]))⟩
   |exact⟨hi,by omega,by omega,key _ (by simp only[dyeI];repeat' (first|rw[if_pos (by omega)]|rw[if_neg (by omega)]))⟩
theorem zd4(F:Fun K "edges" "edges" (top 29) f fd)(T:Txt P w K mg C bw):FnOk P w K mg base CX0 1 f fd ["state"] (zb K (sEdges C)):=by
 have nd:=Qe.nd;apply F.okU Qe (by walk_at "ln") (λhr=>(zd (zZ 1 nd (yr (zM zem (fl K (pv 0)) (fl K (pv 0))) (fl K (pv 0)) zc)) (zd (zZ 2 nd (yr (zM yT (fl K (pv 0)) (fl K (pv 0))) (fl K (pv 0)) (zu yM (fl K (pv 0)) zc))) (zd (zZ 3 nd (yr (zM zem (fl K (pv 0)) (fl K (pv 0))) (fl K (pv 0)) zc)) (zd (zZ 4 nd (yr (zM yT (fl K (pv 0)) (fl K (pv 0))) (fl K (pv 0)) (zu yM (fl K (pv 0)) zc))) (za (zL (yb (qc (pv 1) (qc (pv 2) (qc (pv 3) (qc (pv 4) qn))))))))))))
 .walk_at "ref"
 rintro _ O R ⟨x,dx,p,st,kp,S,rfl,hs,h⟩;have hx:=hs.x;refine ye (λρ' O'=>ρ'=[some (.own x),some (.d (.int (eT S))),none,none,none]/\O=O') (λR1 hR1=>?_) ?_
 .walk_at "wd"
  walk_at "!hx";split
  .rename_i e;exact hR1 _ _ ⟨by rw[eT,if_pos e],rfl⟩
  .rename_i e;exact hR1 _ _ ⟨by rw[eT,if_neg e],rfl⟩
 rintro _ _ ⟨rfl,rfl⟩;refine ye (λρ' O'=>ρ'=[some (.own x),some (.d (.int (eT S))),some (.d (.int (eB S))),none,none]/\O=O') (λR1 hR1=>?_) ?_
 .walk_at "wd"
  walk_at "!hx";split
  .rename_i e;exact hR1 _ _ ⟨by rw[eB,if_pos e],rfl⟩
  .rename_i e;exact hR1 _ _ ⟨by rw[eB,if_neg e],rfl⟩
 rintro _ _ ⟨rfl,rfl⟩;refine ye (λρ' O'=>ρ'=[some (.own x),some (.d (.int (eT S))),some (.d (.int (eB S))),some (.d (.int (eL S))),none]/\O=O') (λR1 hR1=>?_) ?_
 .walk_at "wd"
  walk_at "!hx";split
  .rename_i e;exact hR1 _ _ ⟨by rw[eL,if_pos e],rfl⟩
  .rename_i e;exact hR1 _ _ ⟨by rw[eL,if_neg e],rfl⟩
 rintro _ _ ⟨rfl,rfl⟩;refine ye (λρ' O'=>ρ'=[some (.own x),some (.d (.int (eT S))),some (.d (.int (eB S))),some (.d (.int (eL S))),some (.d (.int (eR S)))]/\O=O') (λR1 hR1=>?_) ?_
 .walk_at "wd"
  walk_at "!hx";split
  .rename_i e;exact hR1 _ _ ⟨by rw[eR,if_pos e],rfl⟩
  .rename_i e;exact hR1 _ _ ⟨by rw[eR,if_neg e],rfl⟩
 rintro _ _ ⟨rfl,rfl⟩;walk_at "wd";exact .inl h
theorem Jb(F:Fun K "blank_of" "blank_of" (top 31) f fd)(T:Txt P w K mg C bw):FnOk P w K mg base CX0 1 f fd ["state"] (zb K (sBlankOf C)):=by
 apply F.okU Q3 (by walk_at "ln") (λhr=>(za (zL (yb (qc zk (qc (fl K (pv 0)) qn))))))
 .walk_at "ref"
 rintro _ O R ⟨x,dx,p,st,kp,S,rfl,hs,h⟩;have hx:=hs.x;walk_at "wd";walk_at "!hx yH";exact .inl h
theorem Jc(F:Fun K "to_place" "to_place" (top 36) f fd)(T:Txt P w K mg C bw)(wb:Cal P w K mg base 2 "counted" [] (zb K ZR)):FnOk P w K mg base CX0 3 f fd ["state","row","column"] (zb K (sPlace C)):=by
 apply F.okU Q5 (by walk_at "ln") (λhr=>(zd (zz (yL (fl K (pv 0))) (zd (fs K (pv 0) (zj wb hr (qc (pv 1) (qc (fl K (pv 0)) (qc (fl K (pv 0)) qn))))) (za (fs K (pv 0) (zj wb hr (qc (pv 2) (qc (fl K (pv 0)) (qc (fl K (pv 0)) qn))))))) (zd (fs K (pv 0) (zj wb hr (qc (pv 1) (qc zc (qc (zu yM (fl K (pv 0)) zc) qn))))) (za (fs K (pv 0) (zj wb hr (qc (pv 2) (qc zc (qc (zu yM (fl K (pv 0)) zc) qn)))))))) (za (fs K (pv 0) yq))))
 .walk_at "ref"
 rintro _ O R ⟨r,c,hr,hc,x,dx,p,st,kp,S,rfl,hs,_,h⟩;have hx:=hs.x;simp only[plS]at h;walk_at "wd";walk_at "!hx hr hc zW";cases hh:S.home with
 |true=>
  simp[hh]at h ⊢;exact .inl (h _ (hs.fld rfl rfl rfl) But.ux)
 |false=>
  simp[hh]at h ⊢;exact .inl (h _ (hs.fld rfl rfl rfl) But.ux)
theorem zal(F:Fun K "to_home" "to_home" (top 37) f fd)(T:Txt P w K mg C bw)(u5:Cal P w K mg base 3 "to_place" [] (zb K (sPlace C))):FnOk P w K mg base CX0 4 f fd ["state"] (zb K (sHome C)):=by
 apply F.okU K8 (by walk_at "ln") (λhr=>(za (zq (zj u5 hr (qc (pv 0) (qc yF (qc yF qn)))))))
 .walk_at "ref"
 rintro _ O R ⟨x,dx,p,st,kp,S,rfl,hs,_,h⟩;walk_at "wd";exact⟨.none,.none,trivial,trivial,x,dx,p,st,kp,S,rfl,hs,trivial,λO' h1 h2=>.inl (h O' h1 h2)⟩
theorem Jd(F:Fun K "set_rows" "set_rows" (top 67) f fd)(T:Txt P w K mg C bw)(wc:Cal P w K mg base 2 "span" [] (zb K VD))(u6:Cal P w K mg base 4 "to_home" [] (zb K (sHome C))):FnOk P w K mg base CX0 5 f fd ["state","first","last"] (zb K (sRows C)):=by
 have nd:=ZH.nd;apply F.okU ZH (by walk_at "ln") (λhr=>(zd (zZ 3 nd (zj wc hr (qc (pv 1) (qc (pv 2) (qc (fl K (pv 0)) qn))))) (za (zz (zM YY (pv 3) yF) (zd (fs K (pv 0) (zY (z7 (K:=K) rfl) (pv 3) zc)) (zd (fs K (pv 0) (zY (z7 (K:=K) rfl) (pv 3) zc)) (za (zq (zj u6 hr (qc (pv 0) qn)))))) zV))))
 .walk_at "ref"
 rintro _ O R ⟨a,b,ha,hb,x,dx,p,st,kp,S,rfl,hs,_,h⟩;have hx:=hs.x;simp only[rowsS]at h;walk_at "wd";walk_at "!hx ha hb zW VC";by_cases e:xK b S.h<oneD a
 .rw[if_pos e]at h
  simp[e,vW];exact .inl (h _ hs But.refl)
 .rw[if_neg e]at h
  walk_at "!e vW atI ixN yS hx zW";refine⟨x,dx,p,st,kp,_,rfl,hs.fld (S':={ S with top:=oneD a-1,bottom:=xK b S.h-1 }) rfl rfl rfl,trivial,λO' h1 h2=>.inl (h O' h1 (But.ux.trans h2))⟩
theorem Xv(F:Fun K "set_columns" "set_columns" (top 68) f fd)(T:Txt P w K mg C bw)(wc:Cal P w K mg base 2 "span" [] (zb K VD))(u6:Cal P w K mg base 4 "to_home" [] (zb K (sHome C))):FnOk P w K mg base CX0 5 f fd ["state","first","last"] (zb K (sCols C)):=by
 have nd:=jm.nd;apply F.okU jm (by walk_at "ln") (λhr=>(zd (zZ 3 nd (zj wc hr (qc (pv 1) (qc (pv 2) (qc (fl K (pv 0)) qn))))) (za (zz (zM YY (pv 3) yF) (zd (fs K (pv 0) (zY (z7 (K:=K) rfl) (pv 3) zc)) (zd (fs K (pv 0) (zY (z7 (K:=K) rfl) (pv 3) zc)) (za (zq (zj u6 hr (qc (pv 0) qn)))))) zV))))
 .walk_at "ref"
 rintro _ O R ⟨a,b,ha,hb,x,dx,p,st,kp,S,rfl,hs,_,h⟩;have hx:=hs.x;simp only[colsS]at h;walk_at "wd";walk_at "!hx ha hb zW VC";by_cases e:xK b S.w<oneD a
 .rw[if_pos e]at h
  simp[e,vW];exact .inl (h _ hs But.refl)
 .rw[if_neg e]at h
  walk_at "!e vW atI ixN yS hx zW";refine⟨x,dx,p,st,kp,_,rfl,hs.fld (S':={ S with left:=oneD a-1,right:=xK b S.w-1 }) rfl rfl rfl,trivial,λO' h1 h2=>.inl (h O' h1 (But.ux.trans h2))⟩
theorem YM(F:Fun K "to_left_edge" "to_left_edge" (top 34) f fd)(T:Txt P w K mg C bw)(u3:Cal P w K mg base 1 "edges" [] (zb K (sEdges C))):FnOk P w K mg base CX0 2 f fd ["state"] (zb K (sLeft C)):=by
 apply F.okU YG (by walk_at "ln") (λhr=>(zd (fs K (pv 0) (zY (z7 (K:=K) rfl) (zj u3 hr (qc (pv 0) qn)) zc)) (za (fs K (pv 0) yq))))
 .walk_at "ref"
 rintro _ O R ⟨x,dx,p,st,kp,S,rfl,hs,_,h⟩;have hx:=hs.x;walk_at "wd";refine⟨x,dx,p,st,kp,S,rfl,hs,?_⟩;walk_at "!hx zW atI ixN";exact .inl (h _ (hs.fld rfl rfl rfl) But.ux)
theorem zjk(F:Fun K "dye" "dye" (top 70) f fd)(T:Txt P w K mg C bw)(bc:Cal P w K mg base 3 "dyed" [] (zb K Ky)):FnOk P w K mg base CX0 4 f fd ["state","numbers"] (zb K (sDye C)):=by
 have nd:=zb4.nd;apply F.okU zb4 (by walk_at "ln") (λhr=>(za (y9 PassesOwn.never rfl (uN (K:=K) rfl (pv 1)) (z6 (i:=2) nd rfl (Or.inl rfl)) (za (fs K (pv 0) (zj bc hr (qc (fl K (pv 0)) (qc (pv 2) qn))))))))
 .walk_at "ref"
 rintro _ O R ⟨ns,hns,x,dx,p,st,kp,S,rfl,hs,hi,h⟩;walk_at "wd";refine yU.by (λi ρ O'=>∃v,ρ=[some (.own x),some (.d (.tuple ns)),v]/\StAt O' C x dx p st kp (dyeS (ns.take i) S)/\Ink (dyeS (ns.take i) S).ink/\But O O' x p) ⟨_,rfl,hs,hi,But.refl⟩ (λ_ _ _ _=>trivial) ?_ ?_
 .rintro i wv _ O1 hw ⟨v,rfl,hs1,hi1,hb1⟩ R1 hR1
  rw[List.getElem?_map]at hw;cases hni:ns[i]? with
  |none=>rw[hni]at hw;cases hw
  |some n=>
   rw[hni]at hw;cases hw;have hx1:=hs1.x;have hn:=hns n (List.mem_of_getElem? hni);walk_at "wd";walk_at "!hx1 hi1 hn zW";have et:ns.take (i+1)=ns.take i++[n]:=by
    rw[List.take_add_one,hni];rfl
   refine hR1 _ _ ⟨_,rfl,?_,?_,hb1.trans But.ux⟩
   .have:=hs1.fld (S':={ dyeS (ns.take i) S with ink:=dyeI (dyeS (ns.take i) S).ink n }) rfl rfl rfl
    rw[et];simpa[dyeS,List.foldl_append]using this
   .rw[et]
    simp only[dyeS,List.foldl_append,List.foldl_cons,List.foldl_nil];exact Uw hi1
 .rintro ρ O1 ⟨v,rfl,hs1,_,hb1⟩
  simp at hs1;exact .inl (h _ hs1 hb1)
theorem zb7(F:Fun K "copied" "copied" (top 24) f fd)(T:Txt P w K mg C bw):FnOk P w K mg base CX0 1 f fd ["picture"] (zb K sCopied):=by
 apply F.okU zb3 (by walk_at "ln") (λhr=>(za (zL (vV (xB (N:=["row"]) (n:=1) (js:=[])) rfl (xv (K:=K) rfl (pv 0)) (λ_ _ _ _=>(z6 (i:=0) (show List.Nodup (["row"]:List Str)by decide +kernel) rfl (Or.inl rfl))) (λ_ _ _ _=>yN) (λ_ _ _ _=>(yB (Vz (K:=K) rfl) (by rfl) T.n_list rfl (QA.pa (qc (pv 0) qn))))))))
 .walk_at "ref"
 rintro _ O R ⟨p,h,w,g,rfl,hp,hh,q⟩;walk_at "wd";have e1:=ud hp;rw[uY]at e1;refine⟨_,e1,by simp;omega,λv=>match v with|.row _ i=>some (PyData.list ((List.range w).map λj=>celD (g i j)))|_=>none,?_,.inl ?_⟩
 .intro a ha us hus
  obtain⟨i,hi,rfl⟩:=List.mem_map.mp ha;have hi:i<h:=by simpa using hi
  match us,hus with
  |[u],_=>
   have e2:=Uu hp hi;have e3:yH ((List.range w).map λj=>W.d (celD (g i j)))=some ((List.range w).map λj=>celD (g i j)):=by
    have:=yz ((List.range w).map λj=>celD (g i j));rw[List.map_map]at this;exact this
   simp[vk,yS,e2,e3]
 .have e4:List.filterMap (λv=>match v with|W.row _ i=>some (PyData.list ((List.range w).map λj=>celD (g i j)))|_=>none) ((List.range h).map (W.row p))=(genG h w g).map .list:=by
   unfold genG;rw[List.filterMap_map,List.map_map];exact congrFun (List.filterMap_eq_map (f:=λi=>PyData.list ((List.range w).map λj=>celD (g i j)))) (List.range h)
  rw[e4];exact q
theorem Qx(F:Fun K "roll_rows" "roll_rows" (top 59) f fd)(T:Txt P w K mg C bw)(bd:Cal P w K mg base 1 "copied" [] (zb K sCopied))(u7:Cal P w K mg base 1 "blank_of" [] (zb K (sBlankOf C))):FnOk P w K mg base CX0 2 f fd ["state","first","step"] (zb K (sRoll C)):=by
 have nd:=kS.nd;apply F.okU kS (by walk_at "ln") (λhr=>(zd (zZ 3 nd (zj bd hr (qc (fl K (pv 0)) qn))) (za (y9 PassesOwn.never rfl (ql rfl T.n_range (QA.pa (qc (pv 1) (qc (zu yd (fl K (pv 0)) zc) qn)))) (z6 (i:=4) nd rfl (Or.inl rfl)) (zd (zZ 5 nd (zu yd (pv 4) (pv 2))) (zd (zZ 6 nd (vG yT yT (pv 1) (pv 5) (fl K (pv 0)))) (za (y9 PassesOwn.never rfl (ql rfl T.n_range (QA.pa (qc (fl K (pv 0)) (qc (zu yd (fl K (pv 0)) zc) qn)))) (z6 (i:=7) nd rfl (Or.inl rfl)) (za (vZ (yr (yL (pv 6)) (zY (yP (K:=K) rfl) (zY (yP (K:=K) rfl) (pv 3) (pv 5)) (pv 7)) (zj u7 hr (qc (pv 0) qn))) (Z8 (zY (yP (K:=K) rfl) (fl K (pv 0)) (pv 4)) (pv 7) jq)))))))))))
 .walk_at "ref"
 rintro _ O R ⟨a,s,s1,s2,x,dx,p,st,kp,S,rfl,hs,⟨hB,a0,a1⟩,h⟩;have hx:=hs.x;have:=hB.h2;have:=hB.w2;refine xa [some (.own x),some (.d (.int a)),some (.d (.int s)),some (.d (.list ((genG S.h S.w S.pic).map .list))),none,none,none,none] (λR1 hR1=>?_) ?_
 .walk_at "wd"
  walk_at "!hx";exact⟨p,S.h,S.w,S.pic,rfl,hs.p,hB.h2,hR1⟩
 have:=hB.b1;have:=hB.l0;have:=hB.lr;have:=hB.rr;walk_at "wd";walk_at "!hx";refine⟨by omega,by omega,by omega,by omega,?_⟩
 generalize hN:mvP S.pic S.ink a S.bottom S.left S.right s 0 =N
 refine yU.rng (λi ρ O'=>∃v4 v5 v6 v7,ρ=[some (.own x),some (.d (.int a)),some (.d (.int s)),some (.d (.list ((genG S.h S.w S.pic).map .list))),v4,v5,v6,v7]/\But O O' x p/\StAt O' C x dx p st kp { S with pic:=goP N S.pic a S.left i 0 }) ⟨_,_,_,_,rfl,But.refl,?_⟩ ?_ ?_
 .rw[Uy (λa' b' hab=>by rw[<-hN];exact vf (by omega))]
  exact hs
 .rintro i _ O1 hi ⟨v4,v5,v6,v7,rfl,hb1,hs1⟩ R1 hR1
  have hx1:=hs1.x;refine xa [some (.own x),some (.d (.int a)),some (.d (.int s)),some (.d (.list ((genG S.h S.w S.pic).map .list))),some (.d (.int (a+i))),some (.d (.int (a+i+s))),v6,v7] (λR2 hR2=>?_) ?_
  .walk_at "wd"
   exact hR2
  refine ye (λρ' O'=>ρ'=[some (.own x),some (.d (.int a)),some (.d (.int s)),some (.d (.list ((genG S.h S.w S.pic).map .list))),some (.d (.int (a+i))),some (.d (.int (a+i+s))),some (.d (.bool (decide (a<=a+i+s/\a+i+s<=S.bottom)))),v7]/\O1=O') (λR2 hR2=>?_) ?_
  .walk_at "wd"
   walk_at "!hx1";split
   .rename_i e;exact hR2 _ _ ⟨by simp[e],rfl⟩
   .rename_i e;exact hR2 _ _ ⟨by simp[e],rfl⟩
  rintro _ _ ⟨rfl,rfl⟩
  generalize hin:decide (a<=a+i+s/\a+i+s<=S.bottom)=ins
  walk_at "wd";walk_at "!hx1";refine⟨by omega,by omega,by omega,by omega,?_⟩;refine yU.rng (λj ρ O'=>∃v7,ρ=[some (.own x),some (.d (.int a)),some (.d (.int s)),some (.d (.list ((genG S.h S.w S.pic).map .list))),some (.d (.int (a+i))),some (.d (.int (a+i+s))),some (.d (.bool ins)),v7]/\But O O' x p/\StAt O' C x dx p st kp { S with pic:=goP N S.pic a S.left i j }) ⟨_,rfl,hb1,hs1⟩ ?_ ?_
  .rintro j _ O2 hj ⟨v7,rfl,hb2,hs2⟩ R2 hR2
   have hx2:=hs2.x;have e1:=ud hs2.p;rw[uY]at e1;have e2:atI ((List.range S.h).map (W.row p)) (a+(i:Int))=some (W.row p (a+(i:Int)).toNat):=ve (by omega) (by omega);have e3:∀c,N (a+(i:Int)).toNat (S.left+(j:Int)).toNat=c->ki O2 (.row p (a+(i:Int)).toNat) (S.left+j) (.d (celD c))=some (updO O2 p (.grid (genG S.h S.w (goP N S.pic a S.left i (j+1))))):=by
    rintro _ rfl;rw[jA hs2.p (by simp only;omega) (by omega) (by simp only;omega),Uz (by omega) (by omega)]
   have nx:∀v,R2 [some (.own x),some (.d (.int a)),some (.d (.int s)),some (.d (.list ((genG S.h S.w S.pic).map .list))),some (.d (.int (a+i))),some (.d (.int (a+i+s))),some (.d (.bool ins)),v] (updO O2 p (.grid (genG S.h S.w (goP N S.pic a S.left i (j+1))))):=λv=>
    hR2 _ _ ⟨v,rfl,hb2.trans But.up,hs2.pic (f:=goP N S.pic a S.left i (j+1))⟩
   cases ins with
   |true=>
    have hin:=of_decide_eq_true hin;have eN:N (a+(i:Int)).toNat (S.left+(j:Int)).toNat=S.pic (a+i+s).toNat (S.left+(j:Int)).toNat:=by
     rw[<-hN];unfold mvP;rw[if_pos (by omega),if_pos (by omega)];unfold atF
     congr 1<;>first|omega|(congr 1;omega)
    walk_at "wd";simp[hx2,e1,e2,e3 _ eN,zbj,zds (show 0<=a+i+s by omega) (show a+i+s<S.h by omega),Ux (show 0<=S.left+j by omega) (show S.left+j<S.w by omega),-List.map_map,and_assoc,zJ,T.st.cl,T.st.n_picture,T.st.n_wide,T.st.n_high,T.st.n_row,T.st.n_column,T.st.n_late,T.st.n_ink,T.st.n_wrap,T.st.n_putting,T.st.n_home,T.st.n_top,T.st.n_bottom,T.st.n_left,T.st.n_right,T.st.n_stops,T.st.n_kept,T.st.n_last,zh,zA,zB,zQ,zm,zC,zN,zD,zi,zE,zR,zn,zF,zr,zp,zw,zG,zO,zl,zx,zP,zy,zg,zH,zS,zo,zI,zt,zK];exact nx _
   |false=>
    have hin:=of_decide_eq_false hin;have eN:N (a+(i:Int)).toNat (S.left+(j:Int)).toNat=blank S.ink:=by
     rw[<-hN];unfold mvP;rw[if_pos (by omega),if_neg (by omega)]
    walk_at "wd";refine⟨x,dx,p,st,kp,_,rfl,hs2,?_⟩;simp[hx2,e1,e2,e3 _ eN,and_assoc,zJ,T.st.cl,T.st.n_picture,T.st.n_wide,T.st.n_high,T.st.n_row,T.st.n_column,T.st.n_late,T.st.n_ink,T.st.n_wrap,T.st.n_putting,T.st.n_home,T.st.n_top,T.st.n_bottom,T.st.n_left,T.st.n_right,T.st.n_stops,T.st.n_kept,T.st.n_last,zh,zA,zB,zQ,zm,zC,zN,zD,zi,zE,zR,zn,zF,zr,zp,zw,zG,zO,zl,zx,zP,zy,zg,zH,zS,zo,zI,zt,zK];exact nx _
  .rintro ρ O2 ⟨v7,rfl,hb2,hs2⟩
   refine hR1 _ _ ⟨_,_,_,_,rfl,hb2,?_⟩;rw[JF (λa' b' h1 h2=>by rw[<-hN];exact vf (by omega)) (λa' b' h1 h2=>by rw[<-hN];exact vf (by omega))]at hs2;exact hs2
 .rintro ρ O1 ⟨v4,v5,v6,v7,rfl,hb1,hs1⟩
  rw[JG (λa' b' h1=>by rw[<-hN];exact vf (by omega)),<-hN]at hs1;exact .inl (h _ hs1 hb1)
theorem zam(F:Fun K "roll_up" "roll_up" (top 60) f fd)(T:Txt P w K mg C bw)(we:Cal P w K mg base 2 "roll_rows" [] (zb K (sRoll C))):FnOk P w K mg base CX0 3 f fd ["state","first","times"] (zb K (sRoll C)):=by
 apply F.okU K9 (by walk_at "ln") (λhr=>(za (zq (zj we hr (qc (pv 0) (qc (pv 1) (qc (pv 2) qn)))))))
 .walk_at "ref"
 rintro _ O R ⟨a,s,s1,s2,x,dx,p,st,kp,S,rfl,hs,hp,h⟩;walk_at "wd";exact⟨a,s,s1,s2,x,dx,p,st,kp,S,rfl,hs,hp,λO' h1 h2=>.inl (h O' h1 h2)⟩
theorem Vj(F:Fun K "move_cells" "move_cells" (top 44) f fd)(T:Txt P w K mg C bw)(u3:Cal P w K mg base 1 "edges" [] (zb K (sEdges C)))(u7:Cal P w K mg base 1 "blank_of" [] (zb K (sBlankOf C))):FnOk P w K mg base CX0 2 f fd ["state","step"] (zb K (sMvC C)):=by
 have nd:=jT.nd;apply F.okU jT (by walk_at "ln") (λhr=>(zd (zZ 2 nd (zY (z7 (K:=K) rfl) (zj u3 hr (qc (pv 0) qn)) zc)) (zd (zZ 3 nd (zY (yP (K:=K) rfl) (fl K (pv 0)) (fl K (pv 0)))) (zd (zZ 4 nd (yB (Vz (K:=K) rfl) (by rfl) T.n_list rfl (QA.pa (qc (pv 3) qn)))) (zd (y9 PassesOwn.never rfl (ql rfl T.n_range (QA.pa (qc (fl K (pv 0)) (qc (zu yd (pv 2) zc) qn)))) (z6 (i:=5) nd rfl (Or.inl rfl)) (zd (zZ 6 nd (zu yd (pv 5) (pv 1))) (zd (zZ 7 nd (vG yT yT (fl K (pv 0)) (pv 6) (pv 2))) (za (vZ (yr (yL (pv 7)) (zY (yP (K:=K) rfl) (pv 4) (pv 6)) (zj u7 hr (qc (pv 0) qn))) (Z8 (pv 3) (pv 5) jq)))))) (za (fs K (pv 0) yq)))))))
 .walk_at "ref"
 rintro _ O R ⟨s,s1,s2,x,dx,p,st,kp,S,rfl,hs,hB,h⟩;have hx:=hs.x;have:=hB.h2;have:=hB.w2;have:=hB.r0;have:=hB.r1;have:=hB.c0;have eR1:=Zp hB;have e0:=ud hs.p;rw[uY]at e0;have e0b:atI ((List.range S.h).map (W.row p)) S.row=some (W.row p S.row.toNat):=ve hB.r0 hB.r1;have e0c:=Uu hs.p (i:=S.row.toNat) (by omega);have e0d:yH ((List.range S.w).map λj=>W.d (celD (S.pic S.row.toNat j)))=some ((List.range S.w).map λj=>celD (S.pic S.row.toNat j)):=by
  have:=yz ((List.range S.w).map λj=>celD (S.pic S.row.toNat j));rw[List.map_map]at this;exact this
 refine zj7 (λρ' O'=>ρ'=[some (.own x),some (.d (.int s)),some (.d (.int (eR S))),some (.row p S.row.toNat),some (.d (.list ((List.range S.w).map λj=>celD (S.pic S.row.toNat j)))),none,none,none]/\O=O') (λR1 hR1=>?_) ?_
 .walk_at "wd"
  refine⟨x,dx,p,st,kp,S,rfl,hs,?_⟩;walk_at "!hx e0 e0b e0c e0d vk yS zir";exact hR1 _ _ ⟨rfl,rfl⟩
 rintro _ _ ⟨rfl,rfl⟩
 generalize hN:mvP S.pic S.ink S.row S.row S.col (eR S) 0 s=N
 refine ye (λρ' O'=>∃v5 v6 v7,ρ'=[some (.own x),some (.d (.int s)),some (.d (.int (eR S))),some (.row p S.row.toNat),some (.d (.list ((List.range S.w).map λj=>celD (S.pic S.row.toNat j)))),v5,v6,v7]/\But O O' x p/\StAt O' C x dx p st kp { S with pic:=N }) (λR1 hR1=>?_) ?_
 .walk_at "wd"
  walk_at "!hx";refine⟨by omega,by omega,by omega,by omega,?_⟩;refine yU.rng (λj ρ O'=>∃v5 v6 v7,ρ=[some (.own x),some (.d (.int s)),some (.d (.int (eR S))),some (.row p S.row.toNat),some (.d (.list ((List.range S.w).map λj=>celD (S.pic S.row.toNat j)))),v5,v6,v7]/\But O O' x p/\StAt O' C x dx p st kp { S with pic:=goP N S.pic S.row S.col 0 j }) ⟨_,_,_,rfl,But.refl,?_⟩ ?_ ?_
  .rw[Uy (λa' b' hab=>by rw[<-hN];exact vf (by omega))]
   exact hs
  .rintro j _ O1 hj ⟨v5,v6,v7,rfl,hb1,hs1⟩ R2 hR2
   have hx1:=hs1.x;refine xa [some (.own x),some (.d (.int s)),some (.d (.int (eR S))),some (.row p S.row.toNat),some (.d (.list ((List.range S.w).map λj=>celD (S.pic S.row.toNat j)))),some (.d (.int (S.col+j))),some (.d (.int (S.col+j+s))),v7] (λR3 hR3=>?_) ?_
   .walk_at "wd"
    exact hR3
   refine ye (λρ' O'=>ρ'=[some (.own x),some (.d (.int s)),some (.d (.int (eR S))),some (.row p S.row.toNat),some (.d (.list ((List.range S.w).map λj=>celD (S.pic S.row.toNat j)))),some (.d (.int (S.col+j))),some (.d (.int (S.col+j+s))),some (.d (.bool (decide (S.col<=S.col+j+s/\S.col+j+s<=eR S))))]/\O1=O') (λR3 hR3=>?_) ?_
   .walk_at "wd"
    walk_at "!hx1";split
    .rename_i e;exact hR3 _ _ ⟨by simp[e],rfl⟩
    .rename_i e;exact hR3 _ _ ⟨by simp[e],rfl⟩
   rintro _ _ ⟨rfl,rfl⟩
   generalize hin:decide (S.col<=S.col+j+s/\S.col+j+s<=eR S)=ins
   have e3:∀c,N S.row.toNat (S.col+(j:Int)).toNat=c->ki O1 (.row p S.row.toNat) (S.col+j) (.d (celD c))=some (updO O1 p (.grid (genG S.h S.w (goP N S.pic S.row S.col 0 (j+1))))):=by
    rintro _ rfl;rw[jA hs1.p (by simp only;omega) (by omega) (by simp only;omega),Uz (by omega) (by omega)]
   have nx:∀v5 v6 v7,R2 [some (.own x),some (.d (.int s)),some (.d (.int (eR S))),some (.row p S.row.toNat),some (.d (.list ((List.range S.w).map λj=>celD (S.pic S.row.toNat j)))),v5,v6,v7] (updO O1 p (.grid (genG S.h S.w (goP N S.pic S.row S.col 0 (j+1))))):=λv5 v6 v7=>
    hR2 _ _ ⟨v5,v6,v7,rfl,hb1.trans But.up,hs1.pic (f:=goP N S.pic S.row S.col 0 (j+1))⟩
   cases ins with
   |true=>
    have hin:=of_decide_eq_true hin;have eN:N S.row.toNat (S.col+(j:Int)).toNat=S.pic S.row.toNat (S.col+j+s).toNat:=by
     rw[<-hN];unfold mvP;rw[if_pos (by omega),if_pos (by omega)];unfold atF
     congr 1<;>first|omega|(congr 1;omega)
    walk_at "wd";simp[hx1,e3 _ eN,zbj,Ux (show 0<=S.col+j+s by omega) (show S.col+j+s<S.w by omega),-List.map_map,and_assoc,zJ,T.st.cl,T.st.n_picture,T.st.n_wide,T.st.n_high,T.st.n_row,T.st.n_column,T.st.n_late,T.st.n_ink,T.st.n_wrap,T.st.n_putting,T.st.n_home,T.st.n_top,T.st.n_bottom,T.st.n_left,T.st.n_right,T.st.n_stops,T.st.n_kept,T.st.n_last,zh,zA,zB,zQ,zm,zC,zN,zD,zi,zE,zR,zn,zF,zr,zp,zw,zG,zO,zl,zx,zP,zy,zg,zH,zS,zo,zI,zt,zK];exact nx _ _ _
   |false=>
    have hin:=of_decide_eq_false hin;have eN:N S.row.toNat (S.col+(j:Int)).toNat=blank S.ink:=by
     rw[<-hN];unfold mvP;rw[if_pos (by omega),if_neg (by omega)]
    walk_at "wd";refine⟨x,dx,p,st,kp,_,rfl,hs1,?_⟩;simp[hx1,e3 _ eN,and_assoc,zJ,T.st.cl,T.st.n_picture,T.st.n_wide,T.st.n_high,T.st.n_row,T.st.n_column,T.st.n_late,T.st.n_ink,T.st.n_wrap,T.st.n_putting,T.st.n_home,T.st.n_top,T.st.n_bottom,T.st.n_left,T.st.n_right,T.st.n_stops,T.st.n_kept,T.st.n_last,zh,zA,zB,zQ,zm,zC,zN,zD,zi,zE,zR,zn,zF,zr,zp,zw,zG,zO,zl,zx,zP,zy,zg,zH,zS,zo,zI,zt,zK];exact nx _ _ _
  .rintro ρ O2 ⟨v5,v6,v7,rfl,hb2,hs2⟩
   rw[JF (λa' b' h1 h2=>by rw[<-hN];exact vf (by omega)) (λa' b' h1 h2=>by rw[<-hN];exact vf (by omega)),JG (λa' b' h1=>by rw[<-hN];exact vf (by omega))]at hs2;exact hR1 _ _ ⟨_,_,_,rfl,hb2,hs2⟩
 rintro _ O1 ⟨v5,v6,v7,rfl,hb1,hs1⟩;have hx1:=hs1.x;walk_at "wd";walk_at "!hx1 zW";refine .inl (h _ ?_ (hb1.trans But.ux));have:=hs1.fld (S':={ S with pic:=N,late:=false }) rfl rfl rfl;rw[<-hN]at this ⊢;exact this
theorem Qy(F:Fun K "put_cells" "put_cells" (top 45) f fd)(T:Txt P w K mg C bw)(u0:Cal P w K mg base 1 "at_least_one" [] (zb K vq))(wf:Cal P w K mg base 2 "move_cells" [] (zb K (sMvC C))):FnOk P w K mg base CX0 3 f fd ["state","many"] (zb K (sPutC C)):=by
 apply F.okU Qg (by walk_at "ln") (λhr=>(za (zq (zj wf hr (qc (pv 0) (qc (J2 zaB (zj u0 hr (qc (pv 1) qn))) qn))))))
 .walk_at "ref"
 rintro _ O R ⟨n,hn,x,dx,p,st,kp,S,rfl,hs,hB,h⟩;have o1:=@yZ n;have o2:=xS hn;walk_at "wd";exact⟨hn,_,by omega,by omega,x,dx,p,st,kp,S,rfl,hs,hB,λO' h1 h2=>.inl (h O' h1 h2)⟩
theorem Je(F:Fun K "line_end" "line_end" (top 73) f fd)(T:Txt P w K mg C bw)(u8:Cal P w K mg base 2 "to_left_edge" [] (zb K (sLeft C)))(uo:Cal P w K mg base 3 "roll_up" [] (zb K (sRoll C))):FnOk P w K mg base CX0 4 f fd ["state"] (zb K (sLineE C)):=by
 apply F.okU Q7 (by walk_at "ln") (λhr=>(zd (zq (zj u8 hr (qc (pv 0) qn))) (za (zz (zM zU (fl K (pv 0)) (fl K (pv 0))) (za (zq (zj uo hr (qc (pv 0) (qc (fl K (pv 0)) (qc zc qn)))))) (za (zz (zM qm (fl K (pv 0)) (zu yM (fl K (pv 0)) zc)) (za (fs K (pv 0) (zu yd (fl K (pv 0)) zc))) zV))))))
 .walk_at "ref"
 rintro _ O R ⟨x,dx,p,st,kp,S,rfl,hs,hB,h⟩;have hB1:=hB.left;have:=hB1.tb;walk_at "wd";refine⟨x,dx,p,st,kp,S,rfl,hs,trivial,λO1 hs1 hb1=>?_⟩;have hx1:=hs1.x;simp only[lineE]at h;walk_at "!hx1 zW";split
 .rename_i e
  rw[if_pos e]at h;exact⟨_,1,by decide,by decide,x,dx,p,st,kp,_,rfl,hs1,⟨hB1,hB1.t0,by omega⟩,λO' h1 h2=>.inl (h O' h1 (hb1.trans h2))⟩
 .rename_i e
  rw[if_neg e]at h;split
  .rename_i e2
   rw[if_pos e2]at h;exact .inl (h _ (hs1.fld rfl rfl rfl) (hb1.trans But.ux))
  .rename_i e2
   rw[if_neg e2]at h;exact .inl (h _ hs1 hb1)
theorem Jf(F:Fun K "put_sign" "put_sign" (top 74) f fd)(T:Txt P w K mg C bw)(uq:Cal P w K mg base 4 "line_end" [] (zb K (sLineE C)))(ur:Cal P w K mg base 3 "put_cells" [] (zb K (sPutC C)))(u3:Cal P w K mg base 1 "edges" [] (zb K (sEdges C))):FnOk P w K mg base CX0 5 f fd ["state","sign"] (zb K (sPutSign C)):=by
 apply F.okU Q8 (by walk_at "ln") (λhr=>(zd (zz (PW.pt (j3 (yL (fl K (pv 0))) (qZ (yL (fl K (pv 0)))))) (za (zq (zj uq hr (qc (pv 0) qn)))) zV) (zd (fs K (pv 0) yq) (zd (zz (yL (fl K (pv 0))) (za (zq (zj ur hr (qc (pv 0) (qc zc qn))))) zV) (zd (vZ (yb (qc (pv 1) (qc (fl K (pv 0)) qn))) (Z8 (zY (yP (K:=K) rfl) (fl K (pv 0)) (fl K (pv 0))) (fl K (pv 0)) jq)) (zd (fs K (pv 0) (pv 1)) (za (zz (zM qm (fl K (pv 0)) (zY (z7 (K:=K) rfl) (zj u3 hr (qc (pv 0) qn)) zc)) (za (fs K (pv 0) (zu yd (fl K (pv 0)) zc))) (za (fs K (pv 0) (fl K (pv 0))))))))))))
 .walk_at "ref"
 rintro _ O R ⟨c,x,dx,p,st,kp,S,rfl,hs,hB,h⟩;have hx:=hs.x;rw[vL]at h;refine ye (λρ' O'=>ρ'=[some (.own x),some (.d (.str c))]/\But O O' x p/\StAt O' C x dx p st kp (pA S)) (λR1 hR1=>?_) ?_
 .walk_at "wd"
  walk_at "!hx zW";by_cases e:S.late=true/\S.wrap=true
  .rw[pA,if_pos e]at hR1
   simp[e.1,e.2];exact⟨x,dx,p,st,kp,S,rfl,hs,hB,λO' h1 h2=>hR1 _ _ ⟨rfl,h2,h1⟩⟩
  .rw[pA,if_neg e]at hR1
   have:=hR1 _ _ ⟨rfl,But.refl,hs⟩;cases hl:S.late<;>cases hw:S.wrap<;>simp[hl,hw]at e ⊢<;>exact this
 rintro _ O1 ⟨rfl,hb1,hs1⟩;have hB1:Bds (pA S):=hB.pA;refine ye (λρ' O'=>ρ'=[some (.own x),some (.d (.str c))]/\But O O' x p/\StAt O' C x dx p st kp (pB (pA S))) (λR1 hR1=>?_) ?_
 .have hx1:=hs1.x
  walk_at "wd";walk_at "!hx1 zW";exact hR1 _ _ ⟨rfl,hb1.trans But.ux,hs1.fld (S':=pB (pA S)) rfl rfl rfl⟩
 rintro _ O2 ⟨rfl,hb2,hs2⟩;have hB2:=hB1.pB
 generalize pB (pA S)=S2 at *
 refine ye (λρ' O'=>ρ'=[some (.own x),some (.d (.str c))]/\But O O' x p/\StAt O' C x dx p st kp (pC S2)) (λR1 hR1=>?_) ?_
 .have hx2:=hs2.x
  walk_at "wd";walk_at "!hx2 zW";cases hl:S2.putting
  .rw[pC,hl]at hR1
   simp;exact hR1 _ _ ⟨rfl,hb2,hs2⟩
  .rw[pC,hl,if_pos rfl]at hR1
   simp;exact⟨.int 1,⟨by decide,by decide⟩,x,dx,p,st,kp,S2,rfl,hs2,hB2,λO' h1 h2=>hR1 _ _ ⟨rfl,hb2.trans h2,h1⟩⟩
 rintro _ O3 ⟨rfl,hb3,hs3⟩;have hB3:=hB2.pC
 generalize pC S2=S3 at *
 refine ye (λρ' O'=>ρ'=[some (.own x),some (.d (.str c))]/\But O O' x p/\StAt O' C x dx p st kp (pD c S3)) (λR1 hR1=>?_) ?_
 .have hx3:=hs3.x
  have:=hB3.r0;have:=hB3.r1;have e1:=ud hs3.p;rw[uY]at e1;have e2:atI ((List.range S3.h).map (W.row p)) S3.row=some (W.row p S3.row.toNat):=ve hB3.r0 hB3.r1;have e3:ki O3 (.row p S3.row.toNat) S3.col (.d (.tuple [.str c,.int S3.ink]))=_:=jA (c:=(c,S3.ink)) hs3.p (by omega) hB3.c0 hB3.c1;walk_at "wd";walk_at "!hx3 e1 e2 e3 yH";exact hR1 _ _ ⟨rfl,hb3.trans But.up,hs3.pic⟩
 rintro _ O4 ⟨rfl,hb4,hs4⟩;have hB4:Bds (pD c S3):=hB3.pD
 generalize pD c S3=S4 at *
 have hx4:=hs4.x;refine ye (λρ' O'=>ρ'=[some (.own x),some (.d (.str c))]/\But O O' x p/\StAt O' C x dx p st kp (pE c S4)) (λR1 hR1=>?_) ?_
 .walk_at "wd"
  walk_at "!hx4 zW";exact hR1 _ _ ⟨rfl,hb4.trans But.ux,hs4.fld (S':=pE c S4) rfl rfl rfl⟩
 rintro _ O5 ⟨rfl,hb5,hs5⟩
 generalize pE c S4=S5 at *
 have hx5:=hs5.x;simp only[pF]at h;walk_at "wd";walk_at "!hx5 zW";refine⟨x,dx,p,st,kp,S5,rfl,hs5,?_⟩;walk_at "!hx5 zir zW";split
 .rename_i e
  rw[if_pos e]at h;exact .inl (h _ (hs5.fld rfl rfl rfl) (hb5.trans But.ux))
 .rename_i e
  rw[if_neg e]at h;exact .inl (h _ (hs5.fld rfl rfl rfl) (hb5.trans But.ux))
end
noncomputable def YN(C:Addr):SpW:=λws O R=>∃m x dx p st kp S,ws=[.own x,.d m]/\NumD m/\StAt O C x dx p st kp S/\Bds S/\LsOk S/\∀S' O',(S.last=.none->S'=S)->(∀c,S.last=.str c->S'=itS c (oneD m).toNat S)->StAt O' C x dx p st kp S'->But O O' x p->R (.d .none) O'
section
variable {w:World}{bw:Addr}
theorem zd5(F:Fun K "again" "again" (top 75) f fd)(T:Txt P w K mg C bw)(u0:Cal P w K mg base 1 "at_least_one" [] (zb K vq))(ut:Cal P w K mg base 5 "put_sign" [] (zb K (sPutSign C))):FnOk P w K mg base CX0 6 f fd ["state","many"] (zb K (YN C)):=by
 have nd:=Qr.nd;apply F.okU Qr (by walk_at "ln") (λhr=>(za (zz (zM YY (fl K (pv 0)) yF) (za (y9 PassesOwn.never rfl (xF rfl T.n_range (QA.pa (qc (zj u0 hr (qc (pv 1) qn)) qn))) (z6 (i:=2) nd rfl (Or.inl rfl)) (za (zq (zj ut hr (qc (pv 0) (qc (fl K (pv 0)) qn))))))) zV)))
 .walk_at "ref"
 rintro _ O R ⟨m,x,dx,p,st,kp,S,rfl,hm,hs,hB,hL,h⟩;have hx:=hs.x;walk_at "wd";rcases hL with e|⟨c,e,hc⟩
 .walk_at "!hx e zW"
  exact .inl (h S O (λ_=>rfl) (λc' e'=>by rw[e]at e';cases e') hs But.refl)
 .have m1:=yZ (n:=m)
  have m2:=xS hm;walk_at "!hx e zW";refine⟨hm,by omega,by omega,?_⟩;refine yU.rng (f:=λi=>(i:Int)) (λi ρ O'=>∃v2,ρ=[some (.own x),some (.d m),v2]/\StAt O' C x dx p st kp (itS c i S)/\But O O' x p) ⟨_,rfl,hs,But.refl⟩ ?_ ?_
  .rintro i _ O2 hi ⟨v2,rfl,hs2,b2⟩ R1 hR1
   have hx2:=hs2.x;have e2:=zdR e i;walk_at "wd";walk_at "!hx2 e2 zW";exact⟨c,x,dx,p,st,kp,_,rfl,hs2,zbT hB i,λO' k1 k2=>hR1 _ _ ⟨_,rfl,k1,b2.trans k2⟩⟩
  .rintro _ O2 ⟨v2,rfl,hs2,b2⟩
   exact .inl (h _ O2 (λe'=>by rw[e]at e';cases e') (λc' e'=>by rw[e]at e';cases e';rfl) hs2 b2)
end
theorem zkB{a b c:Prop}[Decidable a][Decidable b][Decidable c]{p q r s:Prop}(h1:a->p)(h2:¬a->b->q)(h3:¬a->¬b->c->r)(h4:¬a->¬b->¬c->s):if a then p else if b then q else if c then r else s:=by
 split
 .exact h1 ‹_›
 .split
  .exact h2 ‹_› ‹_›
  .split
   .exact h3 ‹_› ‹_› ‹_›
   .exact h4 ‹_› ‹_› ‹_›
theorem zfe:∀{ns:List PyData},(∀n∈ns,NumD n)->inV (V.int 3) (ns.map vOf)=ns.any is3
 |[],_=>rfl
 |n::ns,h=>by
  have q:=h n (List.mem_cons_self ..);have ih:=zfe (ns:=ns) λm hm=>h m (List.mem_cons_of_mem _ hm);cases n with
  |none=>simpa[inV,eqV,is3,vOf]using ih
  |int k=>
   simp only[List.any_cons,is3,<-ih];rfl
  |_=>exact q.elim
section
variable {w:World}{bw:Addr}
seal PE PS PSs PT PA in
theorem Vk(F:Fun K "turn_modes" "turn_modes" (top 71) f fd)(T:Txt P w K mg C bw)(u6:Cal P w K mg base 4 "to_home" [] (zb K (sHome C))):FnOk P w K mg base CX0 5 f fd ["state","numbers","on"] (zb K (sModesN C)):=by
 have nd:=jW.nd;apply F.okU jW (by walk_at "ln") (λhr=>(zd (zZ 3 nd (xT zhH (pv 2) yq)) (zd (y9 PassesOwn.never rfl (uN (K:=K) rfl (pv 1)) (z6 (i:=4) nd rfl (Or.inl rfl)) (za (zz (zM zU (pv 4) zc) (za (fs K (pv 0) (pv 3))) (za (zz (zM zU (pv 4) zc) (za (fs K (pv 0) (pv 3))) (za (zz (zM zU (pv 4) zc) (za (fs K (pv 0) (pv 3))) zV))))))) (za (zz (xx (Kx (K:=K) rfl) zc (pv 1) (by with_unfolding_all rfl)) (za (zq (zj u6 hr (qc (pv 0) qn)))) zV)))))
 .walk_at "ref"
 rintro _ O R ⟨ns,on,hn,x,dx,p,st,kp,S,rfl,hs,_,h⟩;refine xa [some (.own x),some (.d (.tuple ns)),some (.d (.bool on)),some (.d (.bool on)),none] (λR1 hR1=>?_) ?_
 .walk_at "wd"
  exact hR1
 refine ye (λρ' O'=>∃v,ρ'=[some (.own x),some (.d (.tuple ns)),some (.d (.bool on)),some (.d (.bool on)),v]/\But O O' x p/\StAt O' C x dx p st kp (ns.foldl (modeP on) S)) (λR1 hR1=>?_) ?_
 .walk_at "wd"
  refine yU.by (λi ρ O'=>∃v,ρ=[some (.own x),some (.d (.tuple ns)),some (.d (.bool on)),some (.d (.bool on)),v]/\But O O' x p/\StAt O' C x dx p st kp ((ns.take i).foldl (modeP on) S)) ⟨_,rfl,But.refl,hs⟩ (λ_ _ _ _=>trivial) ?_ ?_
  .rintro i wv _ O1 hw ⟨v,rfl,hb1,hs1⟩ R2 hR2
   rw[List.getElem?_map]at hw;obtain⟨n,hn1,rfl⟩:=Option.map_eq_some_iff.mp hw;have et:ns.take (i+1)=ns.take i++[n]:=by rw[List.take_add_one,hn1];rfl
   have hR3:=λρ O'=>hR2 ρ O';rw[et,List.foldl_append]at hR3;have hx1:=hs1.x
   generalize(ns.take i).foldl (modeP on) S=S1 at hs1 hx1 hR3
   have hnn:=hn n (List.mem_of_getElem? hn1);cases n with
   |none=>
    walk_at "wd";exact hR3 _ _ ⟨_,rfl,hb1,hs1⟩
   |int k=>
    walk_at "wd";walk_at "!hx1 zW";refine zkB (λe=>?_) (λe1 e=>?_) (λe1 e2 e=>?_) (λe1 e2 e3=>?_)
    .subst e;exact hR3 _ _ ⟨_,rfl,hb1.trans But.ux,hs1.fld (S':={ S1 with wrap:=on }) rfl rfl rfl⟩
    .subst e;exact hR3 _ _ ⟨_,rfl,hb1.trans But.ux,hs1.fld (S':={ S1 with putting:=on }) rfl rfl rfl⟩
    .subst e;exact hR3 _ _ ⟨_,rfl,hb1.trans But.ux,hs1.fld (S':={ S1 with home:=on }) rfl rfl rfl⟩
    .exact hR3 _ _ ⟨_,rfl,hb1,by simpa[modeP,e1,e2,e3]using hs1⟩
   |_=>exact hnn.elim
  .rintro ρ O1 ⟨v,rfl,hb1,hs1⟩
   rw[List.length_map,List.take_length]at hs1;exact hR1 _ _ ⟨v,rfl,hb1,hs1⟩
 rintro _ O1 ⟨v,rfl,hb1,hs1⟩;walk_at "wd";refine⟨ns,rfl,λn hm=>?_,?_⟩
 .have q:=hn n hm
  cases n<;>first|rfl|exact q.elim
 rw[zfe hn];unfold modesS at h;by_cases e:ns.any is3=true
 .rw[if_pos e]at h ⊢
  exact⟨x,dx,p,st,kp,_,rfl,hs1,trivial,λO' h1 h2=>.inl (h O' h1 (hb1.trans h2))⟩
 .rw[if_neg e]at h ⊢
  exact .inl (h _ hs1 hb1)
theorem Qz(F:Fun K "take_stop" "take_stop" (top 41) f fd)(T:Txt P w K mg C bw):FnOk P w K mg base CX0 1 f fd ["state"] (zb K (sStop C cutS)):=by
 apply F.okU Qf (by walk_at "ln") (λhr=>(za (zq (zcR (fl K (pv 0)) (fl K (pv 0)) yF ⟨rfl,rfl,rfl,rfl⟩))))
 .walk_at "ref"
 rintro _ O R ⟨x,dx,p,st,kp,S,rfl,hs,h⟩;have hx:=hs.x;have hst:=hs.st;walk_at "wd";walk_at "!hx hst zW";refine⟨S.stops,rfl,λhc=>.inl (h _ ⟨by rw[ze hs.xs];exact hs.x,by rw[ze hs.ps];exact hs.p,by rw[zf];simp[cutS],by rw[ze (neW hs.kp hs.st (by intro h;cases h))];exact hs.kp⟩ (ButO.upd (by simp))),λhc=>.inl (h _ ?_ ButO.refl)⟩;have e:cutS S=S:=by unfold cutS;rw[zbN hc]
 rw[e];exact hs
theorem Vl(F:Fun K "take_stops" "take_stops" (top 42) f fd)(T:Txt P w K mg C bw):FnOk P w K mg base CX0 1 f fd ["state"] (zb K (sStop C clrS)):=by
 apply F.okU Ve (by walk_at "ln") (λhr=>(za (zq (JE (K:=K) rfl PySem.F.plainAttrs_dict PySem.F.slot_dict_clear PySem.F.type_dict_clear zaZ (fl K (pv 0))))))
 .walk_at "ref"
 rintro _ O R ⟨x,dx,p,st,kp,S,rfl,hs,h⟩;have hx:=hs.x;have hst:=hs.st;walk_at "wd";walk_at "!hx hst zW";exact⟨.inr (.inr ⟨rfl,st,_,rfl,hst⟩),.inl (h _ ⟨by rw[ze hs.xs];exact hs.x,by rw[ze hs.ps];exact hs.p,by rw[zf];rfl,by rw[ze (neW hs.kp hs.st (by intro h;cases h))];exact hs.kp⟩ (ButO.upd (by simp)))⟩
seal PE PS PSs PT PA in
theorem zb8(F:Fun K "on_tab" "on_tab" (top 38) f fd)(T:Txt P w K mg C bw)(u3:Cal P w K mg base 1 "edges" [] (zb K (sEdges C)))(u0:Cal P w K mg base 1 "at_least_one" [] (zb K vq)):FnOk P w K mg base CX0 2 f fd ["state","many"] (zb K (qC C tabS)):=by
 have nd:=X5.nd;apply F.okU X5 (by walk_at "ln") (λhr=>(zd (zZ 2 nd (zY (z7 (K:=K) rfl) (zj u3 hr (qc (pv 0) qn)) zc)) (zd (y9 PassesOwn.never rfl (xF rfl T.n_range (QA.pa (qc (zj u0 hr (qc (pv 1) qn)) qn))) (z6 (i:=3) nd rfl (Or.inl rfl)) (zd (zbJ (uT (i:=4) nd rfl rfl (xB (N:=["column","right","state"]) (n:=1) (js:=[2,0])) rfl (JN (fl K (pv 0))) (λ_ _ _ _=>(z6 (i:=0) (show List.Nodup (["column","right","state"]:List Str)by decide +kernel) rfl (Or.inl rfl))) (λ_ _ _ _=>(Y1 (xG qm qm (fl K (pv 2)) (pv 0) (pv 1)))) (λ_ _ _ _=>(pv 0)))) (za (fs K (pv 0) (XR (ks:=["default"]) (zdO (K:=K) rfl rfl) (by rfl) T.n_min (by rfl) (QA.pa (qc (pv 4) qn)) (Jr (pv 2) zaJ)))))) (za (fs K (pv 0) yq)))))
 .walk_at "ref"
 rintro _ O R ⟨n,hn,x,dx,p,st,kp,S,rfl,hs,⟨hB,hl⟩,h⟩;have m1:=yZ (n:=n);have m2:=xS hn
 generalize hee:eR S=ee at *
 refine xa [some (.own x),some (.d n),some (.d (.int ee)),none,none] (λR1 hR1=>?_) ?_
 .walk_at "wd"
  exact⟨x,dx,p,st,kp,S,rfl,hs,_,rfl,_,rfl,by rw[hee];exact hR1⟩
 refine ye (λρ' O'=>∃v3 v4,ρ'=[some (.own x),some (.d n),some (.d (.int ee)),v3,v4]/\But O O' x p/\StAt O' C x dx p st kp (Xh S (itF (fwd S.stops ee) (oneD n).toNat S.col))) (λR1 hR1=>?_) ?_
 .walk_at "wd"
  refine⟨hn,by omega,by omega,?_⟩;refine yU.rng (f:=λi=>(i:Int)) (λi ρ O'=>∃v3 v4,ρ=[some (.own x),some (.d n),some (.d (.int ee)),v3,v4]/\But O O' x p/\StAt O' C x dx p st kp (Xh S (itF (fwd S.stops ee) i S.col))) ⟨_,_,rfl,But.refl,hs⟩ ?_ ?_
  .rintro i _ O2 hi ⟨v3,v4,rfl,b2,hs2⟩ R2 hR2
   have hR3:∀ρ' O',(∃v3 v4,ρ'=[some (.own x),some (.d n),some (.d (.int ee)),v3,v4]/\But O O' x p/\StAt O' C x dx p st kp (Xh S (fwd S.stops ee (itF (fwd S.stops ee) i S.col))))->R2 ρ' O':=hR2
   generalize itF (fwd S.stops ee) i S.col=c at hs2 hR3
   have hx2:=hs2.x;have hst2:O2 st=some (.dK (stK S.stops)):=hs2.st;refine xa [some (.own x),some (.d n),some (.d (.int ee)),some (.d (.int i)),some (.d (.list ((K2 c ee S.stops).map .int)))] (λR4 hR4=>?_) ?_
   .walk_at "wd"
    refine⟨st,S.stops,hst2,C,dx,_,hx2,T.st.cl,T.st.n_stops,_,zp,st,rfl,S.stops,hst2,λo=>⟨hl,kD c ee,λz hz us hu=>?_,?_⟩⟩
    .match us,hu with
     |[u],_=>
      have hx3:updO O2 st (.raw (Xg S.stops o)) x=_:=(ze hs2.xs).trans hx2;walk_at "!hx3";exact JP
    .rw[kE,yR,<-jg hst2]
     exact⟨⟨o,zf⟩,hR4⟩
   walk_at "wd";walk_at "!hx2 zW";refine⟨_,UW _,?_⟩;exact hR3 _ _ ⟨_,_,rfl,b2.trans But.ux,hs2.fld rfl rfl rfl⟩
  .rintro _ O2 ⟨v3,v4,rfl,b2,hs2⟩
   exact hR1 _ _ ⟨_,_,rfl,b2,hs2⟩
 rintro _ O2 ⟨v3,v4,rfl,b2,hs2⟩;have hx2:=hs2.x;walk_at "wd";walk_at "!hx2 zW";subst hee;exact .inl (h _ (hs2.fld rfl rfl rfl) (b2.trans But.ux))
seal PE PS PSs PT PA in
theorem Jg(F:Fun K "back_tab" "back_tab" (top 39) f fd)(T:Txt P w K mg C bw)(u3:Cal P w K mg base 1 "edges" [] (zb K (sEdges C)))(u0:Cal P w K mg base 1 "at_least_one" [] (zb K vq)):FnOk P w K mg base CX0 2 f fd ["state","many"] (zb K (qC C bakS)):=by
 have nd:=ZG.nd;apply F.okU ZG (by walk_at "ln") (λhr=>(zd (zZ 2 nd (zY (z7 (K:=K) rfl) (zj u3 hr (qc (pv 0) qn)) zc)) (zd (y9 PassesOwn.never rfl (xF rfl T.n_range (QA.pa (qc (zj u0 hr (qc (pv 1) qn)) qn))) (z6 (i:=3) nd rfl (Or.inl rfl)) (zd (zbJ (uT (i:=4) nd rfl rfl (xB (N:=["column","left","state"]) (n:=1) (js:=[2,0])) rfl (JN (fl K (pv 0))) (λ_ _ _ _=>(z6 (i:=0) (show List.Nodup (["column","left","state"]:List Str)by decide +kernel) rfl (Or.inl rfl))) (λ_ _ _ _=>(Y1 (xG qm qm (pv 1) (pv 0) (fl K (pv 2))))) (λ_ _ _ _=>(pv 0)))) (za (fs K (pv 0) (XR (ks:=["default"]) (zdP (K:=K) rfl rfl) (by rfl) T.n_max (by rfl) (QA.pa (qc (pv 4) qn)) (Jr (pv 2) zaJ)))))) (za (fs K (pv 0) yq)))))
 .walk_at "ref"
 rintro _ O R ⟨n,hn,x,dx,p,st,kp,S,rfl,hs,⟨hB,hl⟩,h⟩;have m1:=yZ (n:=n);have m2:=xS hn
 generalize hee:eL S=ee at *
 refine xa [some (.own x),some (.d n),some (.d (.int ee)),none,none] (λR1 hR1=>?_) ?_
 .walk_at "wd"
  exact⟨x,dx,p,st,kp,S,rfl,hs,_,rfl,_,rfl,by rw[hee];exact hR1⟩
 refine ye (λρ' O'=>∃v3 v4,ρ'=[some (.own x),some (.d n),some (.d (.int ee)),v3,v4]/\But O O' x p/\StAt O' C x dx p st kp (Xh S (itF (bwd S.stops ee) (oneD n).toNat S.col))) (λR1 hR1=>?_) ?_
 .walk_at "wd"
  refine⟨hn,by omega,by omega,?_⟩;refine yU.rng (f:=λi=>(i:Int)) (λi ρ O'=>∃v3 v4,ρ=[some (.own x),some (.d n),some (.d (.int ee)),v3,v4]/\But O O' x p/\StAt O' C x dx p st kp (Xh S (itF (bwd S.stops ee) i S.col))) ⟨_,_,rfl,But.refl,hs⟩ ?_ ?_
  .rintro i _ O2 hi ⟨v3,v4,rfl,b2,hs2⟩ R2 hR2
   have hR3:∀ρ' O',(∃v3 v4,ρ'=[some (.own x),some (.d n),some (.d (.int ee)),v3,v4]/\But O O' x p/\StAt O' C x dx p st kp (Xh S (bwd S.stops ee (itF (bwd S.stops ee) i S.col))))->R2 ρ' O':=hR2
   generalize itF (bwd S.stops ee) i S.col=c at hs2 hR3
   have hx2:=hs2.x;have hst2:O2 st=some (.dK (stK S.stops)):=hs2.st;refine xa [some (.own x),some (.d n),some (.d (.int ee)),some (.d (.int i)),some (.d (.list ((K2 ee c S.stops).map .int)))] (λR4 hR4=>?_) ?_
   .walk_at "wd"
    refine⟨st,S.stops,hst2,C,dx,_,hx2,T.st.cl,T.st.n_stops,_,zp,st,rfl,S.stops,hst2,λo=>⟨hl,kD ee c,λz hz us hu=>?_,?_⟩⟩
    .match us,hu with
     |[u],_=>
      have hx3:updO O2 st (.raw (Xg S.stops o)) x=_:=(ze hs2.xs).trans hx2;walk_at "!hx3";exact JP
    .rw[kE,yR,<-jg hst2]
     exact⟨⟨o,zf⟩,hR4⟩
   walk_at "wd";walk_at "!hx2 zW";refine⟨_,UW _,?_⟩;exact hR3 _ _ ⟨_,_,rfl,b2.trans But.ux,hs2.fld rfl rfl rfl⟩
  .rintro _ O2 ⟨v3,v4,rfl,b2,hs2⟩
   exact hR1 _ _ ⟨_,_,rfl,b2,hs2⟩
 rintro _ O2 ⟨v3,v4,rfl,b2,hs2⟩;have hx2:=hs2.x;walk_at "wd";walk_at "!hx2 zW";subst hee;exact .inl (h _ (hs2.fld rfl rfl rfl) (b2.trans But.ux))
end
section
variable {R:WK}{x st kp:Addr}{a b:PyData}{ns:List PyData}(hn:n<=90)(ha:NumD a)(hb:NumD b)(hns:∀m∈ns,NumD m)(hs:StAt O C x dx p st kp S)(hG:Good n S)
include hn ha hb hns hs hG
theorem zjl(h':∀st' kp' O',Nxt O O' C x dx p st kp st' kp' (leftS S)->R (.d .none) O'):sLeft C [.own x] O (λ_ O1=>Clo R (.d .none) O1):=⟨x,dx,p,st,kp,S,rfl,hs,trivial,λO' q1 q2=>.inl (h' _ _ O' (.xp q1 q2))⟩
theorem zjm(h':∀st' kp' O',Nxt O O' C x dx p st kp st' kp' (stopS S)->R (.d .none) O'):sSetStop C [.own x] O (λ_ O1=>Clo R (.d .none) O1):=⟨x,dx,p,st,kp,S,rfl,hs,by have:=hG.s;omega,λO' q1 q2=>.inl (h' _ _ O' (.of q1 q2 (by simp)))⟩
theorem zjn(h':∀st' kp' O',Nxt O O' C x dx p st kp st' kp' (cutS S)->R (.d .none) O'):sStop C cutS [.own x] O (λ_ O1=>Clo R (.d .none) O1):=⟨x,dx,p,st,kp,S,rfl,hs,λO' q1 q2=>.inl (h' _ _ O' (.of q1 q2 (by simp)))⟩
theorem zjo(h':∀st' kp' O',Nxt O O' C x dx p st kp st' kp' (clrS S)->R (.d .none) O'):sStop C clrS [.own x] O (λ_ O1=>Clo R (.d .none) O1):=⟨x,dx,p,st,kp,S,rfl,hs,λO' q1 q2=>.inl (h' _ _ O' (.of q1 q2 (by simp)))⟩
theorem zjp(h':∀st' kp' O',Nxt O O' C x dx p st kp st' kp' (keepS S)->R (.d .none) O'):sKeep C keepS [.own x] O (λ_ O1=>Clo R (.d .none) O1):=⟨x,dx,p,st,kp,S,rfl,hs,hG.k.1,λO' q1 q2=>.inl (h' _ _ O' (.of q1 q2 (by simp)))⟩
theorem zjq(h':∀st' kp' O',Nxt O O' C x dx p st kp st' kp' (backS S)->R (.d .none) O'):sKeep C backS [.own x] O (λ_ O1=>Clo R (.d .none) O1):=⟨x,dx,p,st,kp,S,rfl,hs,hG.k.1,λO' q1 q2=>.inl (h' _ _ O' (.of q1 q2 (by simp)))⟩
theorem zjr(h':∀st' kp' O',Nxt O O' C x dx p st kp st' kp' (newS S)->R (.d .none) O'):sAnew C [.own x] O (λ_ O1=>Clo R (.d .none) O1):=⟨x,dx,p,st,kp,S,rfl,hs,hG.b,λst' kp' O' q1 q2 q3 q4=>.inl (h' _ _ O' (.anew hs q3 q4 q1 q2))⟩
theorem zjs(h':∀st' kp' O',Nxt O O' C x dx p st kp st' kp' (tabS (oneD a).toNat S)->R (.d .none) O'):qC C tabS [.own x,.d a] O (λ_ O1=>Clo R (.d .none) O1):=⟨a,ha,x,dx,p,st,kp,S,rfl,hs,⟨hG.b,by have:=hG.s;omega⟩,λO' q1 q2=>.inl (h' _ _ O' (.xp q1 q2))⟩
theorem zjt(h':∀st' kp' O',Nxt O O' C x dx p st kp st' kp' (bakS (oneD a).toNat S)->R (.d .none) O'):qC C bakS [.own x,.d a] O (λ_ O1=>Clo R (.d .none) O1):=⟨a,ha,x,dx,p,st,kp,S,rfl,hs,⟨hG.b,by have:=hG.s;omega⟩,λO' q1 q2=>.inl (h' _ _ O' (.xp q1 q2))⟩
theorem zju(h':∀st' kp' O',Nxt O O' C x dx p st kp st' kp' (agS a S)->R (.d .none) O'):YN C [.own x,.d a] O (λ_ O1=>Clo R (.d .none) O1):=⟨a,x,dx,p,st,kp,S,rfl,ha,hs,hG.b,hG.l,λS' O' k1 k2 q1 q2=>.inl (h' _ _ O' (.xp (zky hG.l k1 k2▸q1) q2))⟩
theorem zjv(h':∀st' kp' O',Nxt O O' C x dx p st kp st' kp' (lineS (-(oneD a)) S)->R (.d .none) O'):sPutL C [.own x,.d a] O (λ_ O1=>Clo R (.d .none) O1):=⟨a,ha,x,dx,p,st,kp,S,rfl,hs,hG.b,λO' q1 q2=>.inl (h' _ _ O' (.xp q1 q2))⟩
theorem zjw(h':∀st' kp' O',Nxt O O' C x dx p st kp st' kp' (lineS (oneD a) S)->R (.d .none) O'):sCutL C [.own x,.d a] O (λ_ O1=>Clo R (.d .none) O1):=⟨a,ha,x,dx,p,st,kp,S,rfl,hs,hG.b,λO' q1 q2=>.inl (h' _ _ O' (.xp q1 q2))⟩
theorem zjx(h':∀st' kp' O',Nxt O O' C x dx p st kp st' kp' (cellsS (-(oneD a)) S)->R (.d .none) O'):sPutC C [.own x,.d a] O (λ_ O1=>Clo R (.d .none) O1):=⟨a,ha,x,dx,p,st,kp,S,rfl,hs,hG.b,λO' q1 q2=>.inl (h' _ _ O' (.xp q1 q2))⟩
theorem zjy(h':∀st' kp' O',Nxt O O' C x dx p st kp st' kp' (cellsS (oneD a) S)->R (.d .none) O'):VH C [.own x,.d a] O (λ_ O1=>Clo R (.d .none) O1):=⟨a,ha,x,dx,p,st,kp,S,rfl,hs,hG.b,λO' q1 q2=>.inl (h' _ _ O' (.xp q1 q2))⟩
theorem zjz(h':∀st' kp' O',Nxt O O' C x dx p st kp st' kp' (wicS a S)->R (.d .none) O'):VI C [.own x,.d a] O (λ_ O1=>Clo R (.d .none) O1):=⟨a,ha,x,dx,p,st,kp,S,rfl,hs,hG.b,λO' q1 q2=>.inl (h' _ _ O' (.xp q1 q2))⟩
theorem zjA(h':∀st' kp' O',Nxt O O' C x dx p st kp st' kp' (wiwS a S)->R (.d .none) O'):Yx C [.own x,.d a] O (λ_ O1=>Clo R (.d .none) O1):=⟨x,dx,p,st,kp,S,a,rfl,ha,hs,hG.b,λO' q1 q2=>.inl (h' _ _ O' (.xp' q1 q2))⟩
theorem zjB(h':∀st' kp' O',Nxt O O' C x dx p st kp st' kp' (plS a b S)->R (.d .none) O'):sPlace C [.own x,.d a,.d b] O (λ_ O1=>Clo R (.d .none) O1):=⟨a,b,ha,hb,x,dx,p,st,kp,S,rfl,hs,trivial,λO' q1 q2=>.inl (h' _ _ O' (.xp q1 q2))⟩
theorem zjC(h':∀st' kp' O',Nxt O O' C x dx p st kp st' kp' (rowsS a b S)->R (.d .none) O'):sRows C [.own x,.d a,.d b] O (λ_ O1=>Clo R (.d .none) O1):=⟨a,b,ha,hb,x,dx,p,st,kp,S,rfl,hs,trivial,λO' q1 q2=>.inl (h' _ _ O' (.xp q1 q2))⟩
theorem zjD(h':∀st' kp' O',Nxt O O' C x dx p st kp st' kp' (colsS a b S)->R (.d .none) O'):sCols C [.own x,.d a,.d b] O (λ_ O1=>Clo R (.d .none) O1):=⟨a,b,ha,hb,x,dx,p,st,kp,S,rfl,hs,trivial,λO' q1 q2=>.inl (h' _ _ O' (.xp q1 q2))⟩
theorem zjE(h':∀st' kp' O',Nxt O O' C x dx p st kp st' kp' (dyeS ns S)->R (.d .none) O'):sDye C [.own x,.d (.tuple ns)] O (λ_ O1=>Clo R (.d .none) O1):=⟨ns,hns,x,dx,p,st,kp,S,rfl,hs,⟨hG.b.i0,hG.b.i1⟩,λO' q1 q2=>.inl (h' _ _ O' (.xp q1 q2))⟩
theorem zk6(h':∀st' kp' O',Nxt O O' C x dx p st kp st' kp' (modesS ns true S)->R (.d .none) O'):sModesN C [.own x,.d (.tuple ns),.d (.bool true)] O (λ_ O1=>Clo R (.d .none) O1):=⟨ns,true,hns,x,dx,p,st,kp,S,rfl,hs,trivial,λO' q1 q2=>.inl (h' _ _ O' (.xp q1 q2))⟩
theorem zk7(h':∀st' kp' O',Nxt O O' C x dx p st kp st' kp' (modesS ns false S)->R (.d .none) O'):sModesN C [.own x,.d (.tuple ns),.d (.bool false)] O (λ_ O1=>Clo R (.d .none) O1):=⟨ns,false,hns,x,dx,p,st,kp,S,rfl,hs,trivial,λO' q1 q2=>.inl (h' _ _ O' (.xp q1 q2))⟩
end
section
variable {w:World}{bw:Addr}
theorem jR(F:Fun K "do_without_number" "do_without_number" (top 78) f fd)(T:Txt P w K mg C bw)(u8:Cal P w K mg base 2 "to_left_edge" [] (zb K (sLeft C)))(wg:Cal P w K mg base 1 "set_stop" [] (zb K (sSetStop C)))(wj:Cal P w K mg base 1 "take_stop" [] (zb K (sStop C cutS)))(wk:Cal P w K mg base 1 "take_stops" [] (zb K (sStop C clrS)))(wm:Cal P w K mg base 1 "keep" [] (zb K (sKeep C keepS)))(wn:Cal P w K mg base 1 "take_back" [] (zb K (sKeep C backS)))(wo:Cal P w K mg base 4 "begin_anew" [] (zb K (sAnew C))):FnOk P w K mg base CX0 5 f fd ["state","letter"] (zb K (sDo C lsA λa b ns=>[])):=by
 apply F.okU jP (by walk_at "ln") (λhr=>(za (zz (zM zU (pv 1) zk) (za (zq (zj u8 hr (qc (pv 0) qn)))) (za (zz (zM zU (pv 1) zk) (za (zq (zj wg hr (qc (pv 0) qn)))) (za (zz (zM zU (pv 1) zk) (za (zq (zj wj hr (qc (pv 0) qn)))) (za (zz (zM zU (pv 1) zk) (za (zq (zj wk hr (qc (pv 0) qn)))) (za (zz (zM zU (pv 1) zk) (za (zq (zj wm hr (qc (pv 0) qn)))) (za (zz (zM zU (pv 1) zk) (za (zq (zj wn hr (qc (pv 0) qn)))) (za (zz (zM zU (pv 1) zk) (za (zq (zj wo hr (qc (pv 0) qn)))) zV)))))))))))))))
 .walk_at "ref"
 rintro _ O R ⟨n,c,a,b,ns,x,dx,p,st,kp,S,rfl,hn,hc,ha,hb,hns,hs,hG,h⟩;refine yh (k:=104) (by decide +kernel) rfl (λe=>?_) (λn104=>?_)
 .subst e
  exact zjl hn ha hb hns hs hG h
 refine yh (k:=116) (by decide +kernel) rfl (λe=>?_) (λn116=>?_)
 .subst e
  exact zjm hn ha hb hns hs hG h
 refine yh (k:=84) (by decide +kernel) rfl (λe=>?_) (λn84=>?_)
 .subst e
  exact zjn hn ha hb hns hs hG h
 refine yh (k:=85) (by decide +kernel) rfl (λe=>?_) (λn85=>?_)
 .subst e
  exact zjo hn ha hb hns hs hG h
 refine yh (k:=118) (by decide +kernel) rfl (λe=>?_) (λn118=>?_)
 .subst e
  exact zjp hn ha hb hns hs hG h
 refine yh (k:=122) (by decide +kernel) rfl (λe=>?_) (λn122=>?_)
 .subst e
  exact zjq hn ha hb hns hs hG h
 refine yh (k:=90) (by decide +kernel) rfl (λe=>?_) (λn90=>?_)
 .subst e
  exact zjr hn ha hb hns hs hG h
 have e:opt lsA c (actS c a b ns) S=S:=if_neg (by simp only[List.mem_cons,List.not_mem_nil,or_false];omega);rw[e]at h;exact .inl (h _ _ O (.refl hs))
theorem Xw(F:Fun K "do_with_one" "do_with_one" (top 79) f fd)(T:Txt P w K mg C bw)(wq:Cal P w K mg base 2 "go" [] (zb K (UP C)))(u4:Cal P w K mg base 2 "on_tab" [] (zb K (qC C tabS)))(wt:Cal P w K mg base 2 "back_tab" [] (zb K (qC C bakS)))(wu:Cal P w K mg base 6 "again" [] (zb K (YN C)))(ww:Cal P w K mg base 4 "roll" [] (zb K (kA C)))(wx:Cal P w K mg base 4 "put_lines" [] (zb K (sPutL C)))(wy:Cal P w K mg base 4 "cut_lines" [] (zb K (sCutL C)))(ur:Cal P w K mg base 3 "put_cells" [] (zb K (sPutC C)))(wz:Cal P w K mg base 3 "cut_cells" [] (zb K (VH C)))(xc:Cal P w K mg base 3 "wipe_cells" [] (zb K (VI C)))(uu:Cal P w K mg base 3 "wipe" [] (zb K (Yx C))):FnOk P w K mg base CX0 7 f fd ["state","letter","many"] (zb K (sDo C lsB λa b ns=>[.d a])):=by
 apply F.okU Xr (by walk_at "ln") (λhr=>(za (zz (xx (Kx (K:=K) rfl) (pv 1) (yb (qc zk (qc zk (qc zk (qc zk qn))))) (by with_unfolding_all rfl)) (za (zq (zj wq hr (qc (pv 0) (qc (pv 1) (qc (pv 2) qn)))))) (za (zz (zM zU (pv 1) zk) (za (zq (zj u4 hr (qc (pv 0) (qc (pv 2) qn))))) (za (zz (zM zU (pv 1) zk) (za (zq (zj wt hr (qc (pv 0) (qc (pv 2) qn))))) (za (zz (zM zU (pv 1) zk) (za (zq (zj wu hr (qc (pv 0) (qc (pv 2) qn))))) (za (zz (xx (Kx (K:=K) rfl) (pv 1) (yb (qc zk (qc zk qn))) (by with_unfolding_all rfl)) (za (zq (zj ww hr (qc (pv 0) (qc (pv 1) (qc (pv 2) qn)))))) (za (zz (zM zU (pv 1) zk) (za (zq (zj wx hr (qc (pv 0) (qc (pv 2) qn))))) (za (zz (zM zU (pv 1) zk) (za (zq (zj wy hr (qc (pv 0) (qc (pv 2) qn))))) (za (zz (zM zU (pv 1) zk) (za (zq (zj ur hr (qc (pv 0) (qc (pv 2) qn))))) (za (zz (zM zU (pv 1) zk) (za (zq (zj wz hr (qc (pv 0) (qc (pv 2) qn))))) (za (zz (zM zU (pv 1) zk) (za (zq (zj xc hr (qc (pv 0) (qc (pv 2) qn))))) (za (zz (zM zU (pv 1) zk) (za (zq (zj uu hr (qc (pv 0) (qc (pv 2) qn))))) zV)))))))))))))))))))))))
 .walk_at "ref"
 rintro _ O R ⟨n,c,a,b,ns,x,dx,p,st,kp,S,rfl,hn,hc,ha,hb,hns,hs,hG,h⟩;refine yV (c= 117\/c= 100\/c= 108\/c= 114) (λR4 hR4=>?_) (λe=>?_) (λn_udlr=>?_)
 .walk_at "wd"
  exact zbV [117,100,108,114] (by rfl) (by simp) hR4
 .have h':∀st' kp' O',Nxt O O' C x dx p st kp st' kp' (offS (goS c (oneD a) S))->R (.d .none) O':=λst' kp' O' q=>h st' kp' O' (by rcases e with rfl|rfl|rfl|rfl<;>exact q)
  show UP C [.own x,.d (.str ⟨#[c]⟩),.d a] O _;exact⟨c,a,e,ha,x,dx,p,st,kp,S,rfl,hs,trivial,λO' q1 q2=>.inl (h' _ _ O' (.xp q1 q2))⟩
 refine yh (k:=121) (by decide +kernel) rfl (λe=>?_) (λn121=>?_)
 .subst e
  exact zjs hn ha hb hns hs hG h
 refine yh (k:=89) (by decide +kernel) rfl (λe=>?_) (λn89=>?_)
 .subst e
  exact zjt hn ha hb hns hs hG h
 refine yh (k:=112) (by decide +kernel) rfl (λe=>?_) (λn112=>?_)
 .subst e
  exact zju hn ha hb hns hs hG h
 refine yV (c= 82\/c= 68) (λR4 hR4=>?_) (λe=>?_) (λn_RD=>?_)
 .walk_at "wd"
  exact zbV [82,68] (by rfl) (by simp) hR4
 .have e':∃up:Bool,(⟨#[c]⟩:Str)=UR up/\opt lsB c (actS c a b ns) S=rollT up a S:=by
   rcases e with rfl|rfl
   .exact⟨true,by decide +kernel,rfl⟩
   .exact⟨false,by decide +kernel,rfl⟩
  obtain⟨up,e1,e2⟩:=e';rw[e2]at h;show kA C [.own x,.d (.str ⟨#[c]⟩),.d a] O _;rw[e1];exact⟨up,a,ha,x,dx,p,st,kp,S,rfl,hs,hG.b,λO' q1 q2=>.inl (h _ _ O' (.xp q1 q2))⟩
 refine yh (k:=105) (by decide +kernel) rfl (λe=>?_) (λn105=>?_)
 .subst e
  exact zjv hn ha hb hns hs hG h
 refine yh (k:=107) (by decide +kernel) rfl (λe=>?_) (λn107=>?_)
 .subst e
  exact zjw hn ha hb hns hs hG h
 refine yh (k:=115) (by decide +kernel) rfl (λe=>?_) (λn115=>?_)
 .subst e
  exact zjx hn ha hb hns hs hG h
 refine yh (k:=120) (by decide +kernel) rfl (λe=>?_) (λn120=>?_)
 .subst e
  exact zjy hn ha hb hns hs hG h
 refine yh (k:=101) (by decide +kernel) rfl (λe=>?_) (λn101=>?_)
 .subst e
  exact zjz hn ha hb hns hs hG h
 refine yh (k:=119) (by decide +kernel) rfl (λe=>?_) (λn119=>?_)
 .subst e
  exact zjA hn ha hb hns hs hG h
 have e:opt lsB c (actS c a b ns) S=S:=if_neg (by simp only[List.mem_cons,List.not_mem_nil,or_false];omega);rw[e]at h;exact .inl (h _ _ O (.refl hs))
theorem Xx(F:Fun K "do_with_two" "do_with_two" (top 80) f fd)(T:Txt P w K mg C bw)(u5:Cal P w K mg base 3 "to_place" [] (zb K (sPlace C)))(aa:Cal P w K mg base 5 "set_rows" [] (zb K (sRows C)))(ad:Cal P w K mg base 5 "set_columns" [] (zb K (sCols C))):FnOk P w K mg base CX0 6 f fd ["state","letter","first","second"] (zb K (sDo C lsC λa b ns=>[.d a,.d b])):=by
 apply F.okU Xs (by walk_at "ln") (λhr=>(za (zz (zM zU (pv 1) zk) (za (zq (zj u5 hr (qc (pv 0) (qc (pv 2) (qc (pv 3) qn)))))) (za (zz (zM zU (pv 1) zk) (za (zq (zj aa hr (qc (pv 0) (qc (pv 2) (qc (pv 3) qn)))))) (za (zz (zM zU (pv 1) zk) (za (zq (zj ad hr (qc (pv 0) (qc (pv 2) (qc (pv 3) qn)))))) zV)))))))
 .walk_at "ref"
 rintro _ O R ⟨n,c,a,b,ns,x,dx,p,st,kp,S,rfl,hn,hc,ha,hb,hns,hs,hG,h⟩;refine yh (k:=103) (by decide +kernel) rfl (λe=>?_) (λn103=>?_)
 .subst e
  exact zjB hn ha hb hns hs hG h
 refine yh (k:=109) (by decide +kernel) rfl (λe=>?_) (λn109=>?_)
 .subst e
  exact zjC hn ha hb hns hs hG h
 refine yh (k:=77) (by decide +kernel) rfl (λe=>?_) (λn77=>?_)
 .subst e
  exact zjD hn ha hb hns hs hG h
 have e:opt lsC c (actS c a b ns) S=S:=if_neg (by simp only[List.mem_cons,List.not_mem_nil,or_false];omega);rw[e]at h;exact .inl (h _ _ O (.refl hs))
theorem Xy(F:Fun K "do_with_all" "do_with_all" (top 81) f fd)(T:Txt P w K mg C bw)(ae:Cal P w K mg base 4 "dye" [] (zb K (sDye C)))(w9:Cal P w K mg base 5 "turn_modes" [] (zb K (sModesN C))):FnOk P w K mg base CX0 6 f fd ["state","letter","numbers"] (zb K (sDo C lsD λa b ns=>[.d (.tuple ns)])):=by
 apply F.okU Xt (by walk_at "ln") (λhr=>(za (zz (zM zU (pv 1) zk) (za (zq (zj ae hr (qc (pv 0) (qc (pv 2) qn))))) (za (zz (zM zU (pv 1) zk) (za (zq (zj w9 hr (qc (pv 0) (qc (pv 2) (qc yq qn)))))) (za (zz (zM zU (pv 1) zk) (za (zq (zj w9 hr (qc (pv 0) (qc (pv 2) (qc yq qn)))))) zV)))))))
 .walk_at "ref"
 rintro _ O R ⟨n,c,a,b,ns,x,dx,p,st,kp,S,rfl,hn,hc,ha,hb,hns,hs,hG,h⟩;refine yh (k:=99) (by decide +kernel) rfl (λe=>?_) (λn99=>?_)
 .subst e
  exact zjE hn ha hb hns hs hG h
 refine yh (k:=111) (by decide +kernel) rfl (λe=>?_) (λn111=>?_)
 .subst e
  exact zk6 hn ha hb hns hs hG h
 refine yh (k:=102) (by decide +kernel) rfl (λe=>?_) (λn102=>?_)
 .subst e
  exact zk7 hn ha hb hns hs hG h
 have e:opt lsD c (actS c a b ns) S=S:=if_neg (by simp only[List.mem_cons,List.not_mem_nil,or_false];omega);rw[e]at h;exact .inl (h _ _ O (.refl hs))
end
noncomputable def xw(n:Nat):List Str:=(if n / 64%2=1 then[KR]else[])++(if n / 128%2=1 then[KS]else[])++(if n / 256%2=1 then[KU]else[])
noncomputable def xO(n:Nat):List Str:=xw n++(if n%8=0 then[]else[Xf++sp1++fig (n%8)])++(if n / 8%8=0 then[]else[KW++sp1++fig (n / 8%8)])
theorem zgV(w:Str):Str.join sp1 [w]=w:=rfl
theorem zgW(w v:Str):Str.join sp1 [w,v]=w++sp1++v:=rfl
theorem YO(n:Nat):xO n=(bun n).map (Str.join sp1):=by
 unfold xO xw bun;by_cases c1:n / 64%2=1<;>by_cases c2:n / 128%2=1<;>by_cases c3:n / 256%2=1<;>by_cases c4:n%8=0<;>by_cases c5:n / 8%8=0<;>simp[c1,c2,c3,c4,c5,zgV,zgW]
theorem zan(h:n<512):(xO n).isEmpty=decide (n= 0):=by
 rw[YO];by_cases h0:n= 0
 .subst h0;rfl
 .rw[decide_eq_false h0]
  cases hb:bun n with
  |nil=>
   have:=zkp h0 h;unfold wl at this;rw[hb]at this;exact absurd rfl this
  |cons a l=>rfl
theorem zb9:inkT n=if n= 0 then Str.ofString "plain" else Str.join sp1 (xO n):=by
 unfold inkT;rw[YO]
theorem Z5:∀n:_root_.Fin 512,(n.val &&& 64=0↔¬n.val / 64%2=1)/\(n.val &&& 128=0↔¬n.val / 128%2=1)/\(n.val &&& 256=0↔¬n.val / 256%2=1)/\n.val &&& 7 =n.val%8/\(n.val / 8) &&& 7 =n.val / 8%8:=by decide +kernel
theorem zgX:∀k:_root_.Fin 8,Str.ofString ((k.val:Int).repr)=fig k.val:=by decide +kernel
theorem zca(a:Str):Str.empty++a=a:=by
 apply Xb;rw[xn];rfl
noncomputable def zjF:SpW:=λws O R=>∃n:Nat,ws=[.d (.int n)]/\n<512/\∀O',Old O O'->R (.d (.str (inkT n))) O'
noncomputable def zff:SpW:=λws O R=>∃n:Nat,ws=[.d (.int n)]/\n<512/\R (.d (.str (inkT n))) O
section
variable {w:World}{bw:Addr}
theorem QB(F:Fun K "ink_text" "ink_text" (top 17) f fd)(T:Txt P w K mg C bw)(uz:Cal P w K mg base 1 "fore_of" [] (zb K (sI1 (λ_=>True) λi=>Builtin.bitAnd i 7)))(uw:Cal P w K mg base 1 "back_of" [] (zb K (sI1 (λ_=>True) λi=>Builtin.bitAnd (i / 8) 7))):FnOk P w K mg base CX0 2 f fd ["ink"] (zb K zjF):=by
 have nd:=ZF.nd;apply F.okU ZF (by walk_at "ln") (λhr=>(zd (zbg (i:=1) nd rfl rfl (xB (N:=["word","bit","ink"]) (n:=2) (js:=[0])) rfl (zbE (K:=K) (P:=P) (w:=w) rfl rfl rfl (uK (v:=.ref bw) (u:=.ref bw) rfl T.g_BITS_BY_WORD rfl)) (λ_ _ _ _=>(uO (K:=K) (n:=2) rfl rfl (yI (z6 (i:=0) (show List.Nodup (["word","bit","ink"]:List Str)by decide +kernel) rfl (Or.inl rfl)) (yI (z6 (i:=1) (show List.Nodup (["word","bit","ink"]:List Str)by decide +kernel) rfl (Or.inl rfl)) vF)))) (λ_ _ _ _=>(Y1 (xJ (K:=K) rfl (zu j7 (pv 2) (pv 1)) (λ_=>rfl)))) (λ_ _ _ _=>(pv 0))) (zd (y9 PassesOwn.never rfl (uN (K:=K) rfl (yb (qc (yb (qc zk (qc (zj uz hr (qc (pv 0) qn)) qn))) (qc (yb (qc zk (qc (zj uw hr (qc (pv 0) qn)) qn))) qn)))) (uO (K:=K) (n:=2) rfl rfl (yI (z6 (i:=2) nd rfl (Or.inl rfl)) (yI (z6 (i:=3) nd rfl (Or.inl rfl)) vF))) (za (zz (zM Vx (pv 3) zc) (za (zq (y8 (K:=K) rfl PySem.F.plainAttrs_list PySem.F.slot_list_append PySem.F.type_list_append xq (pv 1) (QA.pa (qc (UO (pv 2) (pv 3) (by decide)) qn))))) zV))) (za (zL (yr (xJ (K:=K) rfl (pv 1) (λ_=>rfl)) (y8 (K:=K) rfl PySem.F.plainAttrs_str PySem.F.slot_str_join PySem.F.type_str_join (Zq (K:=K) rfl) zk (QA.pa (qc (pv 1) qn))) zk))))))
 .walk_at "ref"
 rintro _ O R ⟨n,rfl,hn,h⟩;obtain⟨a1,a2,a3,_,_⟩:=Z5 ⟨n,hn⟩;have e7:Builtin.bitAnd (n:Int) 7 =((n%8:Nat):Int):=by
  rw[<-(Z5 ⟨n,hn⟩).2.2.2.1];exact uZ n 7
 have e8:Builtin.bitAnd ((n:Int) / 8) 7 =((n / 8%8:Nat):Int):=by
  rw[<-(Z5 ⟨n,hn⟩).2.2.2.2];exact uZ (n / 8) 7
 refine ye (λρ' O'=>∃p,ρ'=[some (.d (.int n)),some (.own p),none,none]/\O' p=some (.lst ((xw n).map qA))/\O p=none/\Old O O') (λR1 hR1=>?_) ?_
 .walk_at "wd"
  refine⟨bitsD,T.d_bw,by decide,λv=>match v with|.d (.tuple [.str z,.int b])=>if Builtin.bitAnd (n:Int) b= 0 then none else some (.str z)|_=>none,?_,λp hp=>?_⟩
  .rintro _ z b hz rfl us hu
   obtain⟨u1,u2,rfl⟩:∃a b,us=[a,b]:=by
    match us,hu with
    |[a,b],_=>exact⟨a,b,rfl⟩
   refine⟨_,rfl,rfl,_,_,rfl,_,_,rfl,rfl,rfl,rfl,?_⟩;show if Builtin.bitAnd (n:Int) b= 0 then _ else _
   split
   .rename_i q
    show none=Option.map W.d (if Builtin.bitAnd (n:Int) b= 0 then none else some (.str z));rw[if_pos q];rfl
   .rename_i q
    show some (W.d (.str z))=Option.map W.d (if Builtin.bitAnd (n:Int) b= 0 then none else some (.str z));rw[if_neg q];rfl
  .refine hR1 _ _ ⟨p,rfl,?_,hp,Old.upd Old.refl hp⟩
   rw[zf];have b1:(Builtin.bitAnd (n:Int) 64=0)= ¬n / 64%2=1:=by
    rw[show(64:Int)=((64:Nat):Int)from rfl,uZ];exact propext ⟨λz=>a1.1 (by exact_mod_cast z),λz=>by exact_mod_cast a1.2 z⟩
   have b2:(Builtin.bitAnd (n:Int) 128=0)= ¬n / 128%2=1:=by
    rw[show(128:Int)=((128:Nat):Int)from rfl,uZ];exact propext ⟨λz=>a2.1 (by exact_mod_cast z),λz=>by exact_mod_cast a2.2 z⟩
   have b3:(Builtin.bitAnd (n:Int) 256=0)= ¬n / 256%2=1:=by
    rw[show(256:Int)=((256:Nat):Int)from rfl,uZ];exact propext ⟨λz=>a3.1 (by exact_mod_cast z),λz=>by exact_mod_cast a3.2 z⟩
   unfold bitsD xw;by_cases c1:n / 64%2=1<;>by_cases c2:n / 128%2=1<;>by_cases c3:n / 256%2=1<;>simp[b1,b2,b3,c1,c2,c3,qA,KR,KS,KU]
 rintro _ O1 ⟨p,rfl,hp,hpn,ho1⟩;refine ye (λρ' O'=>∃v1 v2,ρ'=[some (.d (.int n)),some (.own p),v1,v2]/\O' p=some (.lst ((xO n).map qA))/\Old O O') (λR1 hR1=>?_) ?_
 .walk_at "wd"
  rw[e7,e8];have ml:(xw n).length<=3:=by
   unfold xw;simp only[List.length_append];split<;>split<;>split<;>simp
  have step:∀(wd:Str) (k:Nat) (v1 v2:Option W) (O2:OM) (L:List Str) (R2:WS->OM->Prop),wd.length<=10->k<8->L.length<=10->O2 p=some (.lst (L.map qA))->Old O O2->(∀O3 v1 v2,Old O O3->O3 p=some (.lst ((L++(if k= 0 then[]else[wd++sp1++fig k])).map qA))->R2 [some (.d (.int n)),some (.own p),v1,v2] O3)->
    vm (yY (wOp vNe (z9 3) (wC (PyData.int 0)))) (Zn (wBM "list" Y8 (z9 1) (yQ (zdK (z9 2) (Str.ofString " ") (z9 3)) qz))) uH { nx:=R2,rt:=Clo R,bk:=R1,ct:=R2 } [some (.d (.int n)),some (.own p),some (.d (.str wd)),some (.d (.int k))] O2:=by
   intro wd k v1 v2 O2 L R2 hwd hk hL hO ho2 hR2;walk_at "wd";split
   .rename_i q
    refine hR2 _ _ _ ho2 ?_;rw[if_pos q,List.append_nil];exact hO
   .rename_i q
    have ef:=zgX ⟨k,hk⟩;simp only at ef;rw[ef,zca];refine⟨.inl ⟨rfl,by simp[yc,hO]⟩,by omega,by omega,(by show(1:Nat)<=1000;decide),updO O2 p (.lst ((L++[wd++sp1++fig k]).map qA)),?_,hR2 _ _ _ (ho2.upd hpn) ?_⟩
    .simp only[ZQ,hO]
     rw[if_pos (by rw[List.length_map];omega),List.map_append];rfl
    .rw[zf,if_neg q]
  refine yU.by (λi ρ O'=>∃v1 v2,ρ=[some (.d (.int n)),some (.own p),v1,v2]/\O' p=some (.lst ((match i with|0=>xw n|1=>xw n++(if n%8=0 then[]else[Xf++sp1++fig (n%8)])|_=>xO n).map qA))/\Old O O') ⟨_,_,rfl,hp,ho1⟩ (λ_ _ _ _=>trivial) ?_ ?_
  .rintro i x _ O2 hx ⟨v1,v2,rfl,hO,ho2⟩ R2 hR2
   match i,hx,hO,hR2 with
   |0,hx,hO,hR2=>
    cases hx;refine⟨_,rfl,rfl,_,_,rfl,_,_,rfl,rfl,?_⟩;exact step Xf (n%8) v1 v2 O2 (xw n) R2 (by decide +kernel) (by omega) (by omega) hO ho2 λO3 v1 v2 ho3 h3=>hR2 _ _ ⟨_,_,rfl,h3,ho3⟩
   |1,hx,hO,hR2=>
    cases hx;refine⟨_,rfl,rfl,_,_,rfl,_,_,rfl,rfl,?_⟩;exact step KW (n / 8%8) v1 v2 O2 (xw n++(if n%8=0 then[]else[Xf++sp1++fig (n%8)])) R2 (by decide +kernel) (by omega) (by rw[List.length_append];split<;>simp<;>omega) hO ho2 λO3 v1 v2 ho3 h3=>hR2 _ _ ⟨_,_,rfl,h3,ho3⟩
   |i+2,hx,hO,hR2=>cases hx
  .rintro _ O2 ⟨v1,v2,rfl,hO,ho2⟩
   exact hR1 _ _ ⟨v1,v2,rfl,hO,ho2⟩
 rintro _ O2 ⟨v1,v2,rfl,hp2,ho2⟩;walk_at "wd";simp only[hp2,List.isEmpty_map,zan hn];by_cases h0:n= 0
 .refine .inl ⟨by simp[h0],.inl ?_⟩
  have:=h O2 ho2;rw[zb9,if_pos h0]at this;exact this
 .refine .inr ⟨by simp[h0],.inr (.inl ⟨rfl,_,rfl⟩),xO n,by simp only[yc,hp2],by decide +kernel,?_,.inl ?_⟩
  .have pl:(xO n).length<=5:=by
    unfold xO xw;simp only[List.length_append];split<;>split<;>split<;>split<;>split<;>simp
   have pw:∀q∈xO n,q.length<=20:=by
    have w1:KR.length<=20/\KS.length<=20/\KU.length<=20/\Xf.length<=10/\KW.length<=10/\sp1.length<=1:=by decide +kernel
    obtain⟨w1,w2,w3,w4,w5,w6⟩:=w1;have lf:∀k,(fig k).length= 1:=λk=>rfl;intro q hq;unfold xO xw at hq;simp only[List.mem_append]at hq;rcases hq with(((hq|hq)|hq)|hq)|hq<;>split at hq<;>simp at hq<;>subst hq
    .exact w1
    .exact w2
    .exact w3
    .rw[strLen_append,strLen_append,lf];omega
    .rw[strLen_append,strLen_append,lf];omega
   have:∀L:List Str,(∀q∈L,q.length<=20)->(L.map (·.length)).sum<=20*L.length:=by
    intro L
    induction L with
    |nil=>simp
    |cons a L ih=>
     intro hL;have:=ih λq hq=>hL q (List.mem_cons_of_mem _ hq);have:=hL a List.mem_cons_self;simp only[List.map_cons,List.sum_cons,List.length_cons];omega
   have:=this _ pw;omega
  .have:=h O2 ho2
   rw[zb9,if_neg h0]at this;rw[Zr];exact this
theorem Jh(F:Fun K "ink_text" "ink_text" (top 17) f fd)(T:Txt P w K mg C bw)(uz:Cal P w K mg base 1 "fore_of" [] (zb K (sI1 (λ_=>True) λi=>Builtin.bitAnd i 7)))(uw:Cal P w K mg base 1 "back_of" [] (zb K (sI1 (λ_=>True) λi=>Builtin.bitAnd (i / 8) 7))):FnOk P w K mg base CX0 2 f fd ["ink"] (zb K zff):=by
 exact(QB F T uz uw).forget λws O R ⟨n,e,hn,h⟩=>⟨n,e,hn,λO' ho=>⟨ho,h⟩⟩
end
theorem jS(a:Str):Str.empty++a=a:=by
 apply Xb;rw[xn];rfl
theorem vT{i:Int}(h:Sh i):(Str.ofString i.repr).length<=1000:=by
 obtain⟨h1,h2⟩:=h;have q:(toString i).length<=7+1:=int_text_length_le10 (by decide) (show i.natAbs<10 ^ 7 by omega);rw[PySem.ofString_length];have:i.repr.length=(toString i).length:=rfl;omega
theorem _root_.L2.StAt.keptTo{x st kp:Addr}(s:StAt O C x dx p st kp S)(ks:List KP):StAt (updO O kp (.lst ((ks.map kpT).map .d))) C x dx p st kp { S with kept:=ks }:=
 ⟨by rw[ze s.xk];exact s.x,by rw[ze s.pk];exact s.p,by rw[ze (neW s.st s.kp (by intro h;cases h))];exact s.st,zf⟩
theorem zk8{c:Nat}:((⟨#[c]⟩:Str)=Str.ofString "u")=(c= 117):=by rw[show Str.ofString "u" =⟨#[117]⟩by decide +kernel];simp
theorem zk9{c:Nat}:((⟨#[c]⟩:Str)=Str.ofString "d")=(c= 100):=by rw[show Str.ofString "d" =⟨#[100]⟩by decide +kernel];simp
theorem zla{c:Nat}:((⟨#[c]⟩:Str)=Str.ofString "l")=(c= 108):=by rw[show Str.ofString "l" =⟨#[108]⟩by decide +kernel];simp
theorem zlb{c:Nat}:((⟨#[c]⟩:Str)=Str.ofString "r")=(c= 114):=by rw[show Str.ofString "r" =⟨#[114]⟩by decide +kernel];simp
section
variable {w:World}{bw:Addr}
theorem zkC(F:Fun K "go" "go" (top 33) f fd)(T:Txt P w K mg C bw)(u0:Cal P w K mg base 1 "at_least_one" [] (zb K vq))(u3:Cal P w K mg base 1 "edges" [] (zb K (sEdges C))):FnOk P w K mg base CX0 2 f fd ["state","letter","many"] (zb K (UP C)):=by
 have nd:=zfd.nd;apply F.okU zfd (by walk_at "ln") (λhr=>(zd (zZ 3 nd (zj u0 hr (qc (pv 2) qn))) (zd (zZ 4 nd (zj u3 hr (qc (pv 0) qn))) (zd (zz (zM zU (pv 1) zk) (za (fs K (pv 0) (yf (j8 rfl) (by rfl) T.n_max (by rfl) (QA.pa (qc (zu yM (fl K (pv 0)) (pv 3)) (qc (zY (z7 (K:=K) rfl) (pv 4) zc) qn)))))) (za (zz (zM zU (pv 1) zk) (za (fs K (pv 0) (yf (ua rfl) (by rfl) T.n_min (by rfl) (QA.pa (qc (zu yd (fl K (pv 0)) (pv 3)) (qc (zY (z7 (K:=K) rfl) (pv 4) zc) qn)))))) (za (zz (zM zU (pv 1) zk) (za (fs K (pv 0) (yf (j8 rfl) (by rfl) T.n_max (by rfl) (QA.pa (qc (zu yM (fl K (pv 0)) (pv 3)) (qc (zY (z7 (K:=K) rfl) (pv 4) zc) qn)))))) (za (zz (zM zU (pv 1) zk) (za (fs K (pv 0) (yf (ua rfl) (by rfl) T.n_min (by rfl) (QA.pa (qc (zu yd (fl K (pv 0)) (pv 3)) (qc (zY (z7 (K:=K) rfl) (pv 4) zc) qn)))))) zV))))))) (za (fs K (pv 0) yq))))))
 .walk_at "ref"
 rintro _ O R ⟨c,n,hc,hn,x,dx,p,st,kp,S,rfl,hs,_,h⟩;have hx:=hs.x;refine xa [some (.own x),some (.d (.str ⟨#[c]⟩)),some (.d n),some (.d (.int (oneD n))),none] (λR1 hR1=>?_) ?_
 .walk_at "wd"
  exact⟨hn,hR1⟩
 refine xa [some (.own x),some (.d (.str ⟨#[c]⟩)),some (.d n),some (.d (.int (oneD n))),some (.d (.tuple [.int (eT S),.int (eB S),.int (eL S),.int (eR S)]))] (λR1 hR1=>?_) ?_
 .walk_at "wd"
  exact⟨x,dx,p,st,kp,S,rfl,hs,hR1⟩
 refine ye (λρ' O'=>ρ'=[some (.own x),some (.d (.str ⟨#[c]⟩)),some (.d n),some (.d (.int (oneD n))),some (.d (.tuple [.int (eT S),.int (eB S),.int (eL S),.int (eR S)]))]/\StAt O' C x dx p st kp (goS c (oneD n) S)/\But O O' x p) (λR1 hR1=>?_) ?_
 .refine yV (c= 117) (λR4 hR4=>?_) (λe=>?_) (λe117=>?_)
  .walk_at "wd"
   simp[zk8];exact hR4
  .subst e
   walk_at "wd";walk_at "!hx zW";exact⟨_,rfl,hR1 _ _ ⟨rfl,hs.fld (S':=goS 117 (oneD n) S) rfl rfl rfl,But.ux⟩⟩
  refine yV (c= 100) (λR4 hR4=>?_) (λe=>?_) (λe100=>?_)
  .walk_at "wd"
   simp[zk9];exact hR4
  .subst e
   walk_at "wd";walk_at "!hx zW";exact⟨_,rfl,hR1 _ _ ⟨rfl,hs.fld (S':=goS 100 (oneD n) S) rfl rfl rfl,But.ux⟩⟩
  refine yV (c= 108) (λR4 hR4=>?_) (λe=>?_) (λe108=>?_)
  .walk_at "wd"
   simp[zla];exact hR4
  .subst e
   walk_at "wd";walk_at "!hx zW";exact⟨_,rfl,hR1 _ _ ⟨rfl,hs.fld (S':=goS 108 (oneD n) S) rfl rfl rfl,But.ux⟩⟩
  refine yV (c= 114) (λR4 hR4=>?_) (λe=>?_) (λe114=>?_)
  .walk_at "wd"
   simp[zlb];exact hR4
  .subst e
   walk_at "wd";walk_at "!hx zW";exact⟨_,rfl,hR1 _ _ ⟨rfl,hs.fld (S':=goS 114 (oneD n) S) rfl rfl rfl,But.ux⟩⟩
  rcases hc with h|h|h|h
  .exact absurd h e117
  .exact absurd h e100
  .exact absurd h e108
  .exact absurd h e114
 rintro _ O1 ⟨rfl,hs1,hb1⟩;have hx1:=hs1.x;walk_at "wd";walk_at "!hx1 zW";exact .inl (h _ (hs1.fld (S':=offS (goS c (oneD n) S)) rfl rfl rfl) (hb1.trans But.ux))
theorem zgY(F:Fun K "keep" "keep" (top 52) f fd)(T:Txt P w K mg C bw):FnOk P w K mg base CX0 1 f fd ["state"] (zb K (sKeep C keepS)):=by
 apply F.okU zgQ (by walk_at "ln") (λhr=>(zd (zq (y8 (K:=K) rfl PySem.F.plainAttrs_list PySem.F.slot_list_append PySem.F.type_list_append xq (fl K (pv 0)) (QA.pa (qc (yb (qc (fl K (pv 0)) (qc (fl K (pv 0)) (qc (fl K (pv 0)) (qc (fl K (pv 0)) (qc (fl K (pv 0)) (qc (fl K (pv 0)) (qc (fl K (pv 0)) qn)))))))) qn)))) (za (zz (zM Z9 (yf (je (K:=K) rfl) (by rfl) T.n_len (by rfl) (QA.pa (qc (fl K (pv 0)) qn))) (qo rfl T.g_MOST_KEPT)) (za (zq (y8 (K:=K) rfl PySem.F.plainAttrs_list PySem.F.slot_list_pop PySem.F.type_list_pop zcI (fl K (pv 0)) (QA.pa (qc zc qn))))) zV))))
 .walk_at "ref"
 rintro _ O R ⟨x,dx,p,st,kp,S,rfl,hs,hk,h⟩;have hx:=hs.x;have hkp:=hs.kp;have hx2:∀o,updO O kp o x=some (.ins C dx (fldW p st kp S)):=λo=>by rw[ze hs.xk];exact hx
 refine ye (λρ' O'=>ρ'=[some (.own x)]/\O'=updO O kp (.lst (((S.kept++[qB S]).map kpT).map .d))) (λR1 hR1=>?_) ?_
 .walk_at "wd"
  walk_at "!hx zW";refine⟨.inl ⟨rfl,by simp[yc,hkp]⟩,_,rfl,by show 7<=1000;omega,_,?_,hR1 _ _ ⟨rfl,rfl⟩⟩;simp only[ZQ,hkp];rw[if_pos (by simp;omega)];simp[qB,kpT]
 rintro _ O1 ⟨rfl,hO1⟩;have hx1:O1 x=some (.ins C dx (fldW p st kp S)):=by rw[hO1];exact hx2 _
 have hk1:O1 kp=some (.lst (((S.kept++[qB S]).map kpT).map .d)):=by rw[hO1];exact zf
 have le:(S.kept++[qB S]).length=S.kept.length+1:=by simp
 refine yV ((8:Int)<(S.kept.length+1:Nat)) (λR4 hR4=>?_) (λh8=>?_) (λh8=>?_)
 .walk_at "wd"
  walk_at "!hx1";exact⟨S.kept.length+1,by simp only[ZP,yS,yc,hk1];simp,hR4⟩
 .have e8:¬S.kept.length<8:=by omega
  walk_at "wd";refine⟨C,dx,_,hx1,T.st.cl,T.st.n_kept,_,zw,.inl ⟨rfl,by simp[yc,hk1]⟩,kp,rfl,_,((S.kept++[qB S]).map kpT |>.map W.d)[0]'(by simp),0,rfl,hk1,List.getElem?_eq_getElem _,by omega,.inl ?_⟩;rw[hO1,yR];have ek:(((S.kept++[qB S]).map kpT).map W.d).eraseIdx 0 =(((S.kept.drop 1)++[qB S]).map kpT).map W.d:=by
   cases hkk:S.kept with
   |nil=>rw[hkk]at e8;simp at e8
   |cons a l=>simp
  rw[ek];have e9:keepS S= { S with kept:=S.kept.drop 1++[qB S] }:=by unfold keepS;rw[if_neg e8]
  rw[e9]at h;exact h _ (hs.keptTo _) (ButO.upd (by simp))
 .have e8:S.kept.length<8:=by omega
  have e9:keepS S= { S with kept:=S.kept++[qB S] }:=by unfold keepS;rw[if_pos e8]
  rw[e9]at h;walk_at "wd";rw[hO1];exact .inl (h _ (hs.keptTo _) (ButO.upd (by simp)))
theorem QC(F:Fun K "take_back" "take_back" (top 53) f fd)(T:Txt P w K mg C bw):FnOk P w K mg base CX0 1 f fd ["state"] (zb K (sKeep C backS)):=by
 have nd:=kQ.nd;apply F.okU kQ (by walk_at "ln") (λhr=>(za (zz (xJ (K:=K) rfl (fl K (pv 0)) (λ_=>rfl)) (zd (zZ 1 nd (JE (K:=K) rfl PySem.F.plainAttrs_list PySem.F.slot_list_pop PySem.F.type_list_pop zhD (fl K (pv 0)))) (zd (fs K (pv 0) (zY (z7 (K:=K) rfl) (pv 1) zc)) (zd (fs K (pv 0) (zY (z7 (K:=K) rfl) (pv 1) zc)) (zd (fs K (pv 0) (zY (z7 (K:=K) rfl) (pv 1) zc)) (zd (fs K (pv 0) (zY (z7 (K:=K) rfl) (pv 1) zc)) (zd (fs K (pv 0) (zY (z7 (K:=K) rfl) (pv 1) zc)) (zd (fs K (pv 0) (zY (z7 (K:=K) rfl) (pv 1) zc)) (za (fs K (pv 0) (zY (z7 (K:=K) rfl) (pv 1) zc)))))))))) zV)))
 .walk_at "ref"
 rintro _ O R ⟨x,dx,p,st,kp,S,rfl,hs,hk,h⟩;have hx:=hs.x;have hkp:=hs.kp;have hx2:∀o,updO O kp o x=some (.ins C dx (fldW p st kp S)):=λo=>by rw[ze hs.xk];exact hx
 cases hl:S.kept[S.kept.length-1]? with
 |none=>
  have e:S.kept=[]:=by
   cases hkk:S.kept with
   |nil=>rfl
   |cons a l=>rw[hkk]at hl;simp at hl
  have e9:backS S=S:=by unfold backS;rw[hl]
  rw[e9]at h;walk_at "wd";walk_at "!hx hkp e zW";exact .inl (h _ hs ButO.refl)
 |some k=>
  have e:¬S.kept=[]:=λe=>by rw[e]at hl;simp at hl
  have e9:backS S= { S with row:=k.row,col:=k.col,late:=k.late,ink:=k.ink,wrap:=k.wrap,putting:=k.putting,home:=k.home,kept:=S.kept.dropLast }:=by unfold backS;rw[hl]
  rw[e9]at h;refine yV (¬S.kept=[]) (λR4 hR4=>?_) (λ_=>?_) (λz=>absurd e z)
  .walk_at "wd"
   simp[hx,hkp,e,zW,and_assoc,zJ,T.st.cl,T.st.n_picture,T.st.n_wide,T.st.n_high,T.st.n_row,T.st.n_column,T.st.n_late,T.st.n_ink,T.st.n_wrap,T.st.n_putting,T.st.n_home,T.st.n_top,T.st.n_bottom,T.st.n_left,T.st.n_right,T.st.n_stops,T.st.n_kept,T.st.n_last,zh,zA,zB,zQ,zm,zC,zN,zD,zi,zE,zR,zn,zF,zr,zp,zw,zG,zO,zl,zx,zP,zy,zg,zH,zS,zo,zI,zt,zK]at hR4 ⊢;exact hR4
  refine ye (λρ' O'=>ρ'=[some (.own x),some (.d (kpT k))]/\O'=updO O kp (.lst ((S.kept.dropLast.map kpT).map .d))) (λR1 hR1=>?_) ?_
  .walk_at "wd"
   walk_at "!hx hkp e hl zW";exact⟨.inl ⟨rfl,by simp[yc,hkp]⟩,hR1 _ _ ⟨rfl,by simp[List.map_dropLast]⟩⟩
  rintro _ O1 ⟨rfl,hO1⟩;have s1:StAt O1 C x dx p st kp { S with kept:=S.kept.dropLast }:=by rw[hO1];exact hs.keptTo S.kept.dropLast
  have b1:ButO O O1 [x,kp]:=by rw[hO1];exact ButO.upd (by simp)
  rw[jg s1.x];refine yj T.st.cl T.st.n_row (zO (x:=k.row)) (λ_ h=>by walk_at "wd";exact⟨_,rfl,_,rfl,h⟩) (by show 17<1000;decide) rfl ?_;refine yj T.st.cl T.st.n_column (zl (x:=k.col)) (λ_ h=>by walk_at "wd";exact⟨_,rfl,_,rfl,h⟩) (by show 17<1000;decide) rfl ?_;refine yj T.st.cl T.st.n_late (zx (x:=k.late)) (λ_ h=>by walk_at "wd";exact⟨_,rfl,_,rfl,h⟩) (by show 17<1000;decide) rfl ?_;refine yj T.st.cl T.st.n_ink (zP (x:=k.ink)) (λ_ h=>by walk_at "wd";exact⟨_,rfl,_,rfl,h⟩) (by show 17<1000;decide) rfl ?_;refine yj T.st.cl T.st.n_wrap (zy (x:=k.wrap)) (λ_ h=>by walk_at "wd";exact⟨_,rfl,_,rfl,h⟩) (by show 17<1000;decide) rfl ?_;refine yj T.st.cl T.st.n_putting (zg (x:=k.putting)) (λ_ h=>by walk_at "wd";exact⟨_,rfl,_,rfl,h⟩) (by show 17<1000;decide) rfl ?_;walk_at "wd";walk_at "!zf yR zW";refine⟨_,rfl,_,rfl,.inl ?_⟩;exact h _ (s1.fld (S':={ S with row:=k.row,col:=k.col,late:=k.late,ink:=k.ink,wrap:=k.wrap,putting:=k.putting,home:=k.home,kept:=S.kept.dropLast }) rfl rfl rfl) (b1.trans (ButO.upd (by simp)))
theorem Vm(F:Fun K "told_place" "told_place" (top 55) f fd)(T:Txt P w K mg C bw):FnOk P w K mg base CX0 1 f fd ["state"] (zb K (sTold1 C plT)):=by
 have nd:=jV.nd;apply F.okU jV (by walk_at "ln") (λhr=>(zd (zZ 1 nd (zu yd (fl K (pv 0)) zc)) (zd (zZ 2 nd (zu yd (fl K (pv 0)) zc)) (zd (zz (yL (fl K (pv 0))) (zd (zZ 1 nd (zu yM (pv 1) (fl K (pv 0)))) (za (zZ 2 nd (zu yM (pv 2) (fl K (pv 0)))))) zV) (za (zL (UO (pv 1) (pv 2) (by decide))))))))
 .walk_at "ref"
 rintro _ O R ⟨x,dx,p,st,kp,S,rfl,hs,hb,h⟩;have hx:=hs.x;walk_at "wd";walk_at "!hx zW";have b1:=hb.r0;have b2:=hb.r1;have b3:=hb.c0;have b4:=hb.c1;have b5:=hb.t0;have b6:=hb.tb;have b7:=hb.b1;have b8:=hb.l0;have b9:=hb.lr;have b10:=hb.rr;have b11:=hb.w2;have b12:=hb.h2;unfold plT at h;split
 .rename_i q
  rw[if_pos q]at h;exact⟨by omega,by omega,vT (by constructor<;>omega),by omega,by omega,vT (by constructor<;>omega),.inl (by rw[jS];exact h)⟩
 .rename_i q
  rw[if_neg q]at h;exact⟨by omega,by omega,vT (by constructor<;>omega),by omega,by omega,vT (by constructor<;>omega),.inl (by rw[jS];exact h)⟩
theorem QD(F:Fun K "told_size" "told_size" (top 56) f fd)(T:Txt P w K mg C bw):FnOk P w K mg base CX0 1 f fd ["state"] (zb K (sTold1 C szT)):=by
 have nd:=kR.nd;apply F.okU kR (by walk_at "ln") (λhr=>(zd (zZ 1 nd (fl K (pv 0))) (zd (zZ 2 nd (fl K (pv 0))) (za (zL (UO (pv 1) (pv 2) (by decide)))))))
 .walk_at "ref"
 rintro _ O R ⟨x,dx,p,st,kp,S,rfl,hs,hb,h⟩;have hx:=hs.x;walk_at "wd";walk_at "!hx zW";have b11:=hb.w2;have b12:=hb.h2;exact⟨by omega,vT (by constructor<;>omega),by omega,vT (by constructor<;>omega),.inl (by rw[jS];exact h)⟩
theorem X9{ns:List PyData}{n:PyData}(h:ns[i]? =some n):ansL S (ns.take (i+1))=ansL S (ns.take i)++ansD S n:=by
 unfold ansL;rw[List.take_add_one,h,List.map_append,List.flatten_append];simp
theorem zd6{n:PyData}:(ansD S n).length<=1:=by
 unfold ansD
 repeat' split
 all_goals simp
theorem Z6{S:ST}:∀ns:List PyData,(ansL S ns).length<=ns.length
 |[]=>by simp[ansL]
 |n::ns=>by
  have h1:=Z6 (S:=S) ns;have h2:=zd6 (S:=S) (n:=n);unfold ansL at *;simp only[List.map_cons,List.flatten_cons,List.length_append,List.length_cons];omega
theorem zd7(F:Fun K "asked" "asked" (top 57) f fd)(T:Txt P w K mg C bw)(be:Cal P w K mg base 1 "told_place" [] (zb K (sTold1 C plT)))(bf:Cal P w K mg base 1 "told_size" [] (zb K (sTold1 C szT)))(bg:Cal P w K mg base 2 "ink_text" [] (zb K zff)):FnOk P w K mg base CX0 3 f fd ["state","numbers"] (zb K (sAsked C)):=by
 have nd:=Qk.nd;apply F.okU Qk (by walk_at "ln") (λhr=>(zd (zZ 2 nd (yD qn)) (zd (y9 PassesOwn.never rfl (uN (K:=K) rfl (pv 1)) (z6 (i:=3) nd rfl (Or.inl rfl)) (za (zz (PW.pt (uC (zM uR (pv 3) yF) (uC (zM zU (pv 3) zc) (vY (zM zU (pv 3) zc))))) (za (zq (y8 (K:=K) rfl PySem.F.plainAttrs_list PySem.F.slot_list_append PySem.F.type_list_append xq (pv 2) (QA.pa (qc (zj be hr (qc (pv 0) qn)) qn))))) (za (zz (zM zU (pv 3) zc) (za (zq (y8 (K:=K) rfl PySem.F.plainAttrs_list PySem.F.slot_list_append PySem.F.type_list_append xq (pv 2) (QA.pa (qc (zj bf hr (qc (pv 0) qn)) qn))))) (za (zz (zM zU (pv 3) zc) (za (zq (y8 (K:=K) rfl PySem.F.plainAttrs_list PySem.F.slot_list_append PySem.F.type_list_append xq (pv 2) (QA.pa (qc (zj bg hr (qc (fl K (pv 0)) qn)) qn))))) zV))))))) (za (zL (pv 2))))))
 .walk_at "ref"
 rintro _ O R ⟨x,dx,p,st,kp,S,ns,rfl,nl,hns,hs,hb,h⟩;walk_at "wd";intro q hq;refine yU.by (λi ρ O'=>∃v,ρ=[some (.own x),some (.d (.tuple ns)),some (.own q),v]/\O' q=some (.lst (((ansL S (ns.take i)).map .str).map .d))/\Old O O') ⟨_,rfl,zf,Old.refl.upd hq⟩ (λ_ _ _ _=>trivial) ?_ ?_
 .rintro i wv _ O1 hw ⟨v,rfl,hq1,ho1⟩ R1 hR1
  rw[List.getElem?_map]at hw;cases hni:ns[i]? with
  |none=>rw[hni]at hw;cases hw
  |some n=>
   rw[hni]at hw;cases hw;have hs1:=hs.butO (ho1.butO (xs:=[])) (by simp) (by simp) (by simp) (by simp);have hx1:=hs1.x;have al:=Z6 (S:=S) (ns.take i);have il:i<ns.length:=(List.getElem?_eq_some_iff.1 hni).1;have e2:∀z:Str,ZQ O1 (.own q) (.d (.str z))=some (updO O1 q (.lst (((ansL S (ns.take i)++[z]).map .str).map .d))):=λz=>by
    simp only[ZQ,hq1];rw[if_pos (by simp;simp at al;omega)];simp
   have ty:tyW "list" O1 (.own q):=.inl ⟨rfl,by simp[yc,hq1]⟩;have fin:∀z:Str,ansD S n=[z]->R1 [some (.own x),some (.d (.tuple ns)),some (.own q),some (.d n)] (updO O1 q (.lst (((ansL S (ns.take i)++[z]).map .str).map .d))):=λz ez=>
    hR1 _ _ ⟨_,rfl,by rw[zf,X9 hni,ez],ho1.upd hq⟩
   have non:ansD S n=[]->R1 [some (.own x),some (.d (.tuple ns)),some (.own q),some (.d n)] O1:=λez=>
    hR1 _ _ ⟨_,rfl,by rw[X9 hni,ez,List.append_nil];exact hq1,ho1⟩
   rcases(hns n (List.mem_of_getElem? hni)).cs with rfl|⟨k,rfl,k0,k1⟩
   .walk_at "wd"
    exact⟨ty,x,dx,p,st,kp,S,rfl,hs1,hb,_,e2 _,fin _ rfl⟩
   .walk_at "wd"
    have pl:k= 0\/k= 1->ansD S (.int k)=[plT S]:=λz=>by simp only[ansD];rw[if_pos z]
    split
    .rename_i z
     exact⟨ty,x,dx,p,st,kp,S,rfl,hs1,hb,_,e2 _,fin _ (pl (.inl z))⟩
    .split
     .rename_i z
      exact⟨ty,x,dx,p,st,kp,S,rfl,hs1,hb,_,e2 _,fin _ (pl (.inr z))⟩
     .rename_i z0 z1
      split
      .rename_i z
       exact⟨ty,x,dx,p,st,kp,S,rfl,hs1,hb,_,e2 _,fin _ (by simp only[ansD];rw[if_neg (by omega),if_pos z])⟩
      .rename_i z2
       split
       .rename_i z
        have i0:=hb.i0;have i1:=hb.i1;exact⟨ty,C,dx,_,hx1,T.st.cl,T.st.n_ink,_,zN,S.ink.toNat,by rw[Int.toNat_of_nonneg i0],by omega,_,e2 _,fin _ (by simp only[ansD];rw[if_neg (by omega),if_neg z2,if_pos z])⟩
       .rename_i z3
        exact non (by simp only[ansD];rw[if_neg (by omega),if_neg z2,if_neg z3])
 .rintro ρ O1 ⟨v,rfl,hq1,ho1⟩
  walk_at "wd";simp at hq1;exact .inl (h q O1 hq (by simpa using hq1) ho1)
end
noncomputable def YQ:SpW:=λws O R=>∃(ns:List PyData) (k:Nat),ws=[.d (.tuple ns),.d (.int k)]/\R (.d (nmA ns k)) O
inductive sInitS (cS:Addr) (ws:List W) (O:OM) (R:WK):Prop
 |mk:∀x dx z,ws=[.own x,.d (.str z)]->O x=some (.ins cS dx [])->R (.d .none) (updO O x (.ins cS dx [("sign",.d (.str z))]))->sInitS cS ws O R
inductive sInitR (cR:Addr) (ws:List W) (O:OM) (R:WK):Prop
 |mk:∀x dx z ns,ws=[.own x,.d (.str z),.d (.tuple ns)]->O x=some (.ins cR dx [])->R (.d .none) (updO O x (.ins cR dx [("letter",.d (.str z)),("numbers",.d (.tuple ns))]))->sInitR cR ws O R
section
variable {w:World}{bw cD cS cL cT cR:Addr}
theorem QE(F:Fun K "number_at" "number_at" (top 77) f fd)(T:Txt P w K mg C bw):FnOk P w K mg base CX0 1 f fd ["numbers","place"] (zb K YQ):=by
 apply F.okU Qs (by walk_at "ln") (λhr=>(za (zL (yr (zM qm (pv 1) (yf (je (K:=K) rfl) (by rfl) T.n_len (by rfl) (QA.pa (qc (pv 0) qn)))) (zY (z7 (K:=K) rfl) (pv 0) (pv 1)) yF))))
 .walk_at "ref"
 rintro _ O R ⟨ns,k,rfl,h⟩;walk_at "wd";refine⟨ns.length,rfl,?_⟩;unfold nmA at h;rw[List.getD_eq_getElem?_getD]at h;split
 .rename_i hk
  rw[List.getElem?_eq_getElem hk]at h;exact⟨_,uM (List.getElem?_eq_getElem hk),.inl h⟩
 .rename_i hk
  rw[List.getElem?_eq_none (by omega)]at h;exact .inl h
theorem QF(F:Fun K "__init__" "Sign.__init__" vz f fd)(T:Txt P w K mg C bw)(D:Dds K mg cD cS cL cT cR):FnOk P w K mg base CX0 1 f fd ["self","sign"] (zb K (sInitS cS)):=by
 apply F.okU ZY (by walk_at "ln") (λhr=>(za (fs K (pv 0) (pv 1))))
 .walk_at "ref"
 rintro _ O R ⟨x,dx,z,rfl,hx,h⟩;walk_at "wd";exact⟨cS,dx,[],hx,D.k_S.cl,D.n_sign,by decide,.inl h⟩
theorem Ji(F:Fun K "__init__" "Row.__init__" vQ f fd)(T:Txt P w K mg C bw)(D:Dds K mg cD cS cL cT cR):FnOk P w K mg base CX0 1 f fd ["self","letter","numbers"] (zb K (sInitR cR)):=by
 apply F.okU YH (by walk_at "ln") (λhr=>(zd (fs K (pv 0) (pv 1)) (za (fs K (pv 0) (pv 2)))))
 .walk_at "ref"
 rintro _ O R ⟨x,dx,z,ns,rfl,hx,h⟩;walk_at "wd";refine⟨cR,dx,[],hx,D.k_R.cl,D.n_letter,by decide,D.k_R.cl,D.n_numbers,?_,.inl h⟩;exact(by decide:1<1000)
theorem zao(F:Fun K "do" "Deed.do" kU f fd)(T:Txt P w K mg C bw):FnOk P w K mg base CX0 1 f fd ["self","state"] (zb K sNoDo):=by
 apply F.okU zab (by walk_at "ln") (λhr=>(za (zL (yD qn))))
 .walk_at "ref"
 rintro _ O R ⟨a,b,rfl,h⟩;walk_at "wd";exact λp hp=>.inl (h p hp)
theorem Vn(F:Fun K "signs" "Deed.signs" u9 f fd)(T:Txt P w K mg C bw):FnOk P w K mg base CX0 1 f fd ["self"] (zb K sNoSigns):=by
 apply F.okU Vg (by walk_at "ln") (λhr=>(za (zL zk)))
 .walk_at "ref"
 rintro _ O R ⟨a,rfl,h⟩;exact .inl h
theorem zap(F:Fun K "do" "Sign.do" kW f fd)(T:Txt P w K mg C bw)(D:Dds K mg cD cS cL cT cR)(ut:Cal P w K mg base 5 "put_sign" [] (zb K (sPutSign C))):FnOk P w K mg base CX0 6 f fd ["self","state"] (zb K (sDeedDo C (aS cS))):=by
 apply F.okU zac (by walk_at "ln") (λhr=>(zd (zq (zj ut hr (qc (pv 1) (qc (fl K (pv 0)) qn)))) (za (zL (yD qn)))))
 .walk_at "ref"
 rintro _ O R ⟨r,n,d,x,dx,p,st,kp,S,rfl,⟨c,dd,rfl,hd⟩,hok,hn,hn6,hs,hG,h⟩;walk_at "wd";refine⟨cS,dd,_,hd,D.k_S.cl,D.n_sign,_,rfl,⟨#[c]⟩,x,dx,p,st,kp,S,rfl,hs,hG.b,λO' q1 q2 q hq=>?_⟩;have N:Nxt O O' C x dx p st kp st kp _:=.xp q1 q2;exact .inl (h q st kp _ (N.nn hq) zf (N.nk hq) (N.old (Old.up hq)))
theorem Vo(F:Fun K "signs" "Sign.signs" qa f fd)(T:Txt P w K mg C bw)(D:Dds K mg cD cS cL cT cR):FnOk P w K mg base CX0 1 f fd ["self"] (zb K (sSigns (aS cS))):=by
 apply F.okU Vh (by walk_at "ln") (λhr=>(za (zL (yr (zM zU (fl K (pv 0)) zk) zk (fl K (pv 0))))))
 .walk_at "ref"
 rintro _ O R ⟨r,d,rfl,⟨c,dd,rfl,hd⟩,hok,h⟩;have h':Clo R (.d (.str (rdT (.sign c)))) O:=.inl (h O Old.refl);have key:(⟨#[c]⟩:Str)=Str.ofString "~"↔c= 126:=by
  rw[show Str.ofString "~" =⟨#[126]⟩by decide +kernel,K3]
 refine zgL (y:=⟨#[c]⟩) (ρ:=[some (.own d)]) rfl hd D.k_S.cl D.n_sign rfl (λe=>?_) (λe=>?_)
 .rw[show rdT (.sign c)=Str.ofString "~~" from if_pos (key.mp e)]at h'
  exact h'
 .rw[show rdT (.sign c)=⟨#[c]⟩from if_neg (λz=>e (key.mpr z))]at h'
  exact xi (v:=.d (.str ⟨#[c]⟩)) rfl hd D.k_S.cl D.n_sign rfl h'
theorem zaq(F:Fun K "do" "Line.do" kX f fd)(T:Txt P w K mg C bw)(uq:Cal P w K mg base 4 "line_end" [] (zb K (sLineE C))):FnOk P w K mg base CX0 5 f fd ["self","state"] (zb K (sDeedDo C (aL cL))):=by
 apply F.okU zad (by walk_at "ln") (λhr=>(zd (zq (zj uq hr (qc (pv 1) qn))) (za (zL (yD qn)))))
 .walk_at "ref"
 rintro _ O R ⟨r,n,d,x,dx,p,st,kp,S,rfl,⟨dd,rfl,hd⟩,hok,hn,hn6,hs,hG,h⟩;walk_at "wd";refine⟨x,dx,p,st,kp,S,rfl,hs,hG.b,λO' q1 q2 q hq=>?_⟩;have N:Nxt O O' C x dx p st kp st kp _:=.xp q1 q2;exact .inl (h q st kp _ (N.nn hq) zf (N.nk hq) (N.old (Old.up hq)))
theorem Vp(F:Fun K "signs" "Line.signs" qb f fd)(T:Txt P w K mg C bw):FnOk P w K mg base CX0 1 f fd ["self"] (zb K (sSigns (aL cL))):=by
 apply F.okU Vi (by walk_at "ln") (λhr=>(za (zL zk)))
 .walk_at "ref"
 rintro _ O R ⟨r,d,rfl,⟨dd,rfl,hd⟩,hok,h⟩;exact .inl (h O Old.refl)
theorem zcb(F:Fun K "do" "Tab.do" ZZ f fd)(T:Txt P w K mg C bw)(u4:Cal P w K mg base 2 "on_tab" [] (zb K (qC C tabS))):FnOk P w K mg base CX0 3 f fd ["self","state"] (zb K (sDeedDo C (aT cT))):=by
 apply F.okU zb5 (by walk_at "ln") (λhr=>(zd (zq (zj u4 hr (qc (pv 1) (qc zc qn)))) (za (zL (yD qn)))))
 .walk_at "ref"
 rintro _ O R ⟨r,n,d,x,dx,p,st,kp,S,rfl,⟨dd,rfl,hd⟩,hok,hn,hn6,hs,hG,h⟩;walk_at "wd";refine⟨.int 1,⟨by decide,by decide⟩,x,dx,p,st,kp,S,rfl,hs,⟨hG.b,by have:=hG.s;omega⟩,λO' q1 q2 q hq=>?_⟩;have N:Nxt O O' C x dx p st kp st kp (tabS 1 S):=.xp q1 q2;exact .inl (h q st kp _ (N.nn hq) zf (N.nk hq) (N.old (Old.up hq)))
theorem QG(F:Fun K "signs" "Tab.signs" qQ f fd)(T:Txt P w K mg C bw):FnOk P w K mg base CX0 1 f fd ["self"] (zb K (sSigns (aT cT))):=by
 apply F.okU Qt (by walk_at "ln") (λhr=>(za (zL zk)))
 .walk_at "ref"
 rintro _ O R ⟨r,d,rfl,⟨dd,rfl,hd⟩,hok,h⟩;exact .inl (h O Old.refl)
theorem zcc(F:Fun K "do" "Row.do" Z0 f fd)(T:Txt P w K mg C bw)(D:Dds K mg cD cS cL cT cR)(af:Cal P w K mg base 3 "asked" [] (zb K (sAsked C)))(ap:Cal P w K mg base 1 "number_at" [] (zb K YQ))(bh:Cal P w K mg base 5 "do_without_number" [] (zb K (sDo C lsA λa b ns=>[])))(bi:Cal P w K mg base 7 "do_with_one" [] (zb K (sDo C lsB λa b ns=>[.d a])))(bj:Cal P w K mg base 6 "do_with_two" [] (zb K (sDo C lsC λa b ns=>[.d a,.d b])))(bm:Cal P w K mg base 6 "do_with_all" [] (zb K (sDo C lsD λa b ns=>[.d (.tuple ns)]))):FnOk P w K mg base CX0 8 f fd ["self","state"] (zb K (sDeedDo C (aR cR))):=by
 have nd:=X6.nd;apply F.okU X6 (by walk_at "ln") (λhr=>(zd (zz (zM zU (fl K (pv 0)) zk) (za (zL (zj af hr (qc (pv 1) (qc (fl K (pv 0)) qn))))) zV) (zd (zZ 2 nd (zj ap hr (qc (fl K (pv 0)) (qc zc qn)))) (zd (zq (zj bh hr (qc (pv 1) (qc (fl K (pv 0)) qn)))) (zd (zq (zj bi hr (qc (pv 1) (qc (fl K (pv 0)) (qc (pv 2) qn))))) (zd (zq (zj bj hr (qc (pv 1) (qc (fl K (pv 0)) (qc (pv 2) (qc (zj ap hr (qc (fl K (pv 0)) (qc zc qn))) qn)))))) (zd (zq (zj bm hr (qc (pv 1) (qc (fl K (pv 0)) (qc (fl K (pv 0)) qn))))) (za (zL (yD qn))))))))))
 .walk_at "ref"
 rintro _ O R ⟨r,n,d,x,dx,p,st,kp,S,rfl,⟨c,ns,dd,rfl,hd⟩,⟨hc,hns⟩,hn,hn6,hs,hG,h⟩;have ha:NumD (nmA ns 0):=kH hns.n;have hb:NumD (nmA ns 1):=kH hns.n;have hdx:d≠x:=ze6 hd hs (by simp);refine zgK (y:=⟨#[c]⟩) rfl hd D.k_R.cl D.n_letter rfl (λe=>?_) (λne=>?_)
 .have e':c= 113:=by rw[show Str.ofString "q" =⟨#[113]⟩by decide +kernel,K3]at e;exact e
  subst e';show xh K (z9 0) "numbers" [some (.own d),some (.own x),none] O (λy O2=>sAsked C [.own x,y] O2 (Clo R));refine xi (v:=.d (.tuple ns)) rfl hd D.k_R.cl D.n_numbers rfl ?_;exact⟨x,dx,p,st,kp,S,ns,rfl,hns.l,hns.n,hs,hG.b,λq O' q1 q2 q3=>.inl (h q st kp O' q1 q2 (λe=>by rw[e,hs.kp]at q1;cases q1) ((Nxt.refl hs).old q3))⟩
 have ne':c≠113:=λz=>ne (by rw[z];decide +kernel);rw[show rdA (.row c ns) S=[]from if_neg ne',show rdS' (.row c ns) S=_ from if_neg ne',<-zgH]at h;refine xa [some (.own d),some (.own x),some (.d (nmA ns 0))] (λR1 hR1=>?_) ?_
 .show xh K (z9 0) "numbers" [some (.own d),some (.own x),none] O (λy O2=>YQ [y,.d (.int 0)] O2 (λv O3=>R1 [some (.own d),some (.own x),some v] O3))
  refine xi (v:=.d (.tuple ns)) rfl hd D.k_R.cl D.n_numbers rfl ?_;exact⟨ns,0,rfl,hR1⟩
 refine ye (λρ' O'=>ρ'=[some (.own d),some (.own x),some (.d (nmA ns 0))]/\∃st' kp',Nxt O O' C x dx p st kp st' kp' (opt lsA c (actS c (nmA ns 0) (nmA ns 1) ns) S)) (λR1 hR1=>?_) ?_
 .show xh K (z9 0) "letter" [some (.own d),some (.own x),some (.d (nmA ns 0))] O (λy O2=>sDo C lsA (λa b ns=>[]) [.own x,y] O2 (λ_ O3=>R1 [some (.own d),some (.own x),some (.d (nmA ns 0))] O3))
  refine xi (v:=.d (.str ⟨#[c]⟩)) rfl hd D.k_R.cl D.n_letter rfl ?_;exact⟨n,c,nmA ns 0,nmA ns 1,ns,x,dx,p,st,kp,S,rfl,by omega,hc,ha,hb,hns.n,hs,hG,λst' kp' O' N=>hR1 _ _ ⟨rfl,st',kp',N⟩⟩
 rintro _ O1 ⟨rfl,st1,kp1,N1⟩;have hd1:=N1.ins hs hd hdx;have hG1:Good (n+1) _:=hG.opt (L:=lsA) (c:=c) (b:=nmA ns 1) (ns:=ns) hn6 ha;refine ye (λρ' O'=>ρ'=[some (.own d),some (.own x),some (.d (nmA ns 0))]/\∃st' kp',Nxt O1 O' C x dx p st1 kp1 st' kp' (opt lsB c (actS c (nmA ns 0) (nmA ns 1) ns) (opt lsA c (actS c (nmA ns 0) (nmA ns 1) ns) S))) (λR1 hR1=>?_) ?_
 .show xh K (z9 0) "letter" [some (.own d),some (.own x),some (.d (nmA ns 0))] O1 (λy O2=>sDo C lsB (λa b ns=>[.d a]) [.own x,y,.d (nmA ns 0)] O2 (λ_ O3=>R1 [some (.own d),some (.own x),some (.d (nmA ns 0))] O3))
  refine xi (v:=.d (.str ⟨#[c]⟩)) rfl hd1 D.k_R.cl D.n_letter rfl ?_;exact⟨n+1,c,nmA ns 0,nmA ns 1,ns,x,dx,p,st1,kp1,_,rfl,by omega,hc,ha,hb,hns.n,N1.s,hG1,λst' kp' O' N=>hR1 _ _ ⟨rfl,st',kp',N⟩⟩
 rintro _ O2 ⟨rfl,st2,kp2,N2⟩;have hd2:=N2.ins N1.s hd1 hdx;have hG2:Good (n+1+1) _:=hG1.opt (L:=lsB) (c:=c) (b:=nmA ns 1) (ns:=ns) (by omega) ha;refine ye (λρ' O'=>ρ'=[some (.own d),some (.own x),some (.d (nmA ns 0))]/\∃st' kp',Nxt O2 O' C x dx p st2 kp2 st' kp' (opt lsC c (actS c (nmA ns 0) (nmA ns 1) ns) (opt lsB c (actS c (nmA ns 0) (nmA ns 1) ns) (opt lsA c (actS c (nmA ns 0) (nmA ns 1) ns) S)))) (λR1 hR1=>?_) ?_
 .show xh K (z9 0) "letter" [some (.own d),some (.own x),some (.d (nmA ns 0))] O2 (λy O3=>xh K (z9 0) "numbers" [some (.own d),some (.own x),some (.d (nmA ns 0))] O3 (λu O4=>YQ [u,.d (.int 1)] O4 (λb O5=>sDo C lsC (λa b ns=>[.d a,.d b]) [.own x,y,.d (nmA ns 0),b] O5 (λ_ O6=>R1 [some (.own d),some (.own x),some (.d (nmA ns 0))] O6))))
  refine xi (v:=.d (.str ⟨#[c]⟩)) rfl hd2 D.k_R.cl D.n_letter rfl ?_;refine xi (v:=.d (.tuple ns)) rfl hd2 D.k_R.cl D.n_numbers rfl ?_;exact⟨ns,1,rfl,n+1+1,c,nmA ns 0,nmA ns 1,ns,x,dx,p,st2,kp2,_,rfl,by omega,hc,ha,hb,hns.n,N2.s,hG2,λst' kp' O' N=>hR1 _ _ ⟨rfl,st',kp',N⟩⟩
 rintro _ O3 ⟨rfl,st3,kp3,N3⟩;have hd3:=N3.ins N2.s hd2 hdx;have hG3:Good (n+1+1+1) _:=hG2.opt (L:=lsC) (c:=c) (b:=nmA ns 1) (ns:=ns) (by omega) ha;refine ye (λρ' O'=>∃st' kp',Nxt O3 O' C x dx p st3 kp3 st' kp' (opt lsD c (actS c (nmA ns 0) (nmA ns 1) ns) (opt lsC c (actS c (nmA ns 0) (nmA ns 1) ns) (opt lsB c (actS c (nmA ns 0) (nmA ns 1) ns) (opt lsA c (actS c (nmA ns 0) (nmA ns 1) ns) S))))) (λR1 hR1=>?_) ?_
 .show xh K (z9 0) "letter" [some (.own d),some (.own x),some (.d (nmA ns 0))] O3 (λy O4=>xh K (z9 0) "numbers" [some (.own d),some (.own x),some (.d (nmA ns 0))] O4 (λu O5=>sDo C lsD (λa b ns=>[.d (.tuple ns)]) [.own x,y,u] O5 (λ_ O6=>R1 [some (.own d),some (.own x),some (.d (nmA ns 0))] O6)))
  refine xi (v:=.d (.str ⟨#[c]⟩)) rfl hd3 D.k_R.cl D.n_letter rfl ?_;refine xi (v:=.d (.tuple ns)) rfl hd3 D.k_R.cl D.n_numbers rfl ?_;exact⟨n+1+1+1,c,nmA ns 0,nmA ns 1,ns,x,dx,p,st3,kp3,_,rfl,by omega,hc,ha,hb,hns.n,N3.s,hG3,λst' kp' O' N=>hR1 _ _ ⟨st',kp',N⟩⟩
 rintro ρ4 O4 ⟨st4,kp4,N4⟩;have N:=(N1.trans N2).trans (N3.trans N4);refine⟨by decide,λq hq=>.inl (h q st4 kp4 _ (N.nn hq) zf (N.nk hq) (N.old (Old.up hq)))⟩
theorem QH(F:Fun K "signs" "Row.signs" qR f fd)(T:Txt P w K mg C bw)(D:Dds K mg cD cS cL cT cR):FnOk P w K mg base CX0 1 f fd ["self"] (zb K (sSigns (aR cR))):=by
 have nd:=kY.nd;apply F.okU kY (by walk_at "ln") (λhr=>(zd (zZ 1 nd (y8 (K:=K) rfl PySem.F.plainAttrs_str PySem.F.slot_str_join PySem.F.type_str_join (Zq (K:=K) rfl) zk (QA.pa (qc (vV (xB (N:=["number"]) (n:=1) (js:=[])) rfl (uN (K:=K) rfl (fl K (pv 0))) (λ_ _ _ _=>(z6 (i:=0) (show List.Nodup (["number"]:List Str)by decide +kernel) rfl (Or.inl rfl))) (λ_ _ _ _=>yN) (λ_ _ _ _=>(yr (zM uR (pv 0) yF) zk (yB X1 (by rfl) T.n_str rfl (QA.pa (qc (pv 0) qn)))))) qn)))) (za (zL (zu uE (zu uE zk (pv 1)) (fl K (pv 0)))))))
 .walk_at "ref"
 rintro _ O R ⟨r,d,rfl,⟨c,ns,dd,rfl,hd⟩,⟨hc,hns⟩,h⟩;have hl:=hns.l;have hsum:=jE hns.n;walk_at "wd";refine⟨.inr (.inl ⟨rfl,_,rfl⟩),cR,dd,_,hd,D.k_R.cl,D.n_numbers,_,rfl,ns,rfl,by omega,zdU,λm hm us hu=>?_,?_⟩
 .obtain⟨u,rfl⟩:=List.length_eq_one_iff.1 hu
  have q:=hns.n m hm;cases m with
  |none=>exact⟨rfl,rfl,rfl⟩
  |int i=>exact⟨rfl,rfl,i,rfl,by have:=q.1;omega,by have:=q.2;omega,rfl⟩
  |_=>exact q.elim
 rw[kI hns.n];have jl:=U3 hns;have l1:(Str.ofString "~").length= 1:=by decide +kernel
 refine⟨ns.map numT,U2 _,by decide +kernel,by rw[List.length_map];omega,by rw[sizeLine_eq];omega,cR,dd,_,hd,D.k_R.cl,D.n_letter,_,rfl,_,rfl,?_,.inl (h O Old.refl)⟩;have l3:(Str.ofString "~" ++ Txt.join (Str.ofString ";") (ns.map numT)).length=(Str.ofString "~").length+(Txt.join (Str.ofString ";") (ns.map numT)).length:=by
  rw[xo,xn,List.length_append];rfl
 rw[l3,sizeLine_eq];have l2:(⟨#[c]⟩:Str).length= 1:=rfl;omega
seal PE PS PSs PT PA in
theorem zar(F:Fun K "deed_of" "deed_of" (top 87) f fd)(T:Txt P w K mg C bw)(D:Dds K mg cD cS cL cT cR)(ag:CalM P w K mg base 1 "Sign" cS (zb K (sInitS cS)))(bn:CalN K mg "Line" cL)(bo:CalN K mg "Tab" cT)(ah:CalM P w K mg base 1 "Row" cR (zb K (sInitR cR))):FnOk P w K mg base CX0 3 f fd ["read"] (zb K (sDeedOf cS cL cT cR)):=by
 apply F.okU zae (by walk_at "ln") (λhr=>(zd (zz (zM zU (zY (z7 (K:=K) rfl) (pv 0) zc) zk) (za (zL (uc ag (hr.mono (by decide)) rfl (QA.pa (qc (zY (z7 (K:=K) rfl) (pv 0) zc) qn))))) zV) (zd (zz (zM zU (zY (z7 (K:=K) rfl) (pv 0) zc) zk) (za (zL (jh bn rfl))) zV) (zd (zz (zM zU (zY (z7 (K:=K) rfl) (pv 0) zc) zk) (za (zL (jh bo rfl))) zV) (za (zL (uc ah (hr.mono (by decide)) rfl (QA.pa (qc (zY (z7 (K:=K) rfl) (pv 0) zc) (qc (zY (z7 (K:=K) rfl) (pv 0) zc) qn))))))))))
 .walk_at "ref"
 rintro _ O R ⟨r,rfl,hok,h⟩;cases r with
 |sign c=>
  refine yy (y:=Str.ofString "sign") (ds:=[.str "sign",.str ⟨#[c]⟩]) rfl rfl (λ_=>?_) (λe=>absurd rfl e);show wOp yX (z9 0) (wC (.int 1)) [some (.d (.tuple [.str "sign",.str ⟨#[c]⟩]))] O (λv O1=>∀x dx,O1 x=none->sInitS cS [.own x,v] (updO O1 x (.ins cS dx [])) λw O2=>w=.d .none/\Clo R (.own x) O2);refine x5 (e:=.str ⟨#[c]⟩) rfl rfl (λd dx hd=>?_);exact⟨d,dx,⟨#[c]⟩,rfl,zf,rfl,.inl (h d _ hd ⟨dx,zf⟩ (by rw[yR];exact Old.up hd))⟩
 |line=>
  refine yy (y:=Str.ofString "line") (ds:=[.str "line"]) rfl rfl (λe=>absurd e (by decide +kernel)) (λ_=>?_);refine yy (y:=Str.ofString "line") (ds:=[.str "line"]) rfl rfl (λ_=>?_) (λe=>absurd rfl e);exact λd dx hd=>.inl (h d _ hd ⟨dx,zf⟩ (Old.up hd))
 |tab=>
  refine yy (y:=Str.ofString "tab") (ds:=[.str "tab"]) rfl rfl (λe=>absurd e (by decide +kernel)) (λ_=>?_);refine yy (y:=Str.ofString "tab") (ds:=[.str "tab"]) rfl rfl (λe=>absurd e (by decide +kernel)) (λ_=>?_);refine yy (y:=Str.ofString "tab") (ds:=[.str "tab"]) rfl rfl (λ_=>?_) (λe=>absurd rfl e);exact λd dx hd=>.inl (h d _ hd ⟨dx,zf⟩ (Old.up hd))
 |row c ns=>
  refine yy (y:=Str.ofString "row") (ds:=[.str "row",.str ⟨#[c]⟩,.tuple ns]) rfl rfl (λe=>absurd e (by decide +kernel)) (λ_=>?_);refine yy (y:=Str.ofString "row") (ds:=[.str "row",.str ⟨#[c]⟩,.tuple ns]) rfl rfl (λe=>absurd e (by decide +kernel)) (λ_=>?_);refine yy (y:=Str.ofString "row") (ds:=[.str "row",.str ⟨#[c]⟩,.tuple ns]) rfl rfl (λe=>absurd e (by decide +kernel)) (λ_=>?_);show wOp yX (z9 0) (wC (.int 1)) [some (.d (.tuple [.str "row",.str ⟨#[c]⟩,.tuple ns]))] O (λv O1=>wOp yX (z9 0) (wC (.int 2)) [some (.d (.tuple [.str "row",.str ⟨#[c]⟩,.tuple ns]))] O1 (λu O2=>∀x dx,O2 x=none->sInitR cR [.own x,v,u] (updO O2 x (.ins cR dx [])) λw O3=>w=.d .none/\Clo R (.own x) O3));refine x5 (e:=.str ⟨#[c]⟩) rfl rfl ?_;refine x5 (e:=.tuple ns) rfl rfl (λd dx hd=>?_);exact⟨d,dx,⟨#[c]⟩,ns,rfl,zf,rfl,.inl (h d _ hd ⟨dx,zf⟩ (by rw[yR];exact Old.up hd))⟩
end
inductive sRight (cS cL cT cR:Addr) (ws:List W) (O:OM) (R:WK):Prop
 |mk:∀r d,ws=[.own d,.d (rdD r)]->DAt cS cL cT cR O d r->OkR r->(∀O',Old O O'->R (.d (.bool true)) O')->sRight cS cL cT cR ws O R
inductive sCalled (C:Addr) (ws:List W) (O:OM) (R:WK):Prop
 |mk:∀r n x dx p st kp S,ws=[.own x,.d (rdD r)]->OkR r->n<=80->6<=n->StAt O C x dx p st kp S->Good n S->(∀v st' kp' O',datW O' v=some (.list ((rdA r S).map .str))->Nxt O O' C x dx p st kp st' kp' (rdS' r S)->R v O')->sCalled C ws O R
noncomputable def toldA(S:ST):List PyData:=[.int S.w,.int S.h,.int S.row,.int S.col,.bool S.late,.int S.ink,.bool S.wrap,.bool S.putting]
noncomputable def toldB(S:ST):List PyData:=[.bool S.home,.int S.top,.int S.bottom,.int S.left,.int S.right,.list ((srt S.stops).map .int),S.last]
noncomputable def toldL(S:ST):List PyData:=toldA S++toldB S++[.list ((genG S.h S.w S.pic).map .list),.int S.kept.length]
inductive sTold21 (C:Addr) (ws:List W) (O:OM) (R:WK):Prop
 |mk:∀n x dx p st kp S,ws=[.own x]->StAt O C x dx p st kp S->Good n S->n<64->R (.d (.list (toldL S))) O->sTold21 C ws O R
section
variable {w:World}{bw cD cS cL cT cR:Addr}
seal PE PS PSs PT PA in
theorem Xz(F:Fun K "_law_by_hand" "_law_by_hand" (top 112) f fd)(T:Txt P w K mg C bw)(D:Dds K mg cD cS cL cT cR)(ag:CalM P w K mg base 1 "Sign" cS (zb K (sInitS cS)))(bn:CalN K mg "Line" cL)(bo:CalN K mg "Tab" cT)(ah:CalM P w K mg base 1 "Row" cR (zb K (sInitR cR))):FnOk P w K mg base CX0 3 f fd ["_law_read_here"] (zb K (sDeedOf cS cL cT cR)):=by
 apply F.okU YI (by walk_at "ln") (λhr=>(zd (zz (zM zU (zY (z7 (K:=K) rfl) (pv 0) zc) zk) (za (zL (uc ag (hr.mono (by decide)) rfl (QA.pa (qc (zY (z7 (K:=K) rfl) (pv 0) zc) qn))))) zV) (zd (zz (zM zU (zY (z7 (K:=K) rfl) (pv 0) zc) zk) (za (zL (jh bn rfl))) zV) (zd (zz (zM zU (zY (z7 (K:=K) rfl) (pv 0) zc) zk) (za (zL (jh bo rfl))) zV) (za (zL (uc ah (hr.mono (by decide)) rfl (QA.pa (qc (zY (z7 (K:=K) rfl) (pv 0) zc) (qc (zY (z7 (K:=K) rfl) (pv 0) zc) qn))))))))))
 .walk_at "ref"
 rintro _ O R ⟨r,rfl,hok,h⟩;cases r with
 |sign c=>
  refine yy (y:=Str.ofString "sign") (ds:=[.str "sign",.str ⟨#[c]⟩]) rfl rfl (λ_=>?_) (λe=>absurd rfl e);show wOp yX (z9 0) (wC (.int 1)) [some (.d (.tuple [.str "sign",.str ⟨#[c]⟩]))] O (λv O1=>∀x dx,O1 x=none->sInitS cS [.own x,v] (updO O1 x (.ins cS dx [])) λw O2=>w=.d .none/\Clo R (.own x) O2);refine x5 (e:=.str ⟨#[c]⟩) rfl rfl (λd dx hd=>?_);exact⟨d,dx,⟨#[c]⟩,rfl,zf,rfl,.inl (h d _ hd ⟨dx,zf⟩ (by rw[yR];exact Old.up hd))⟩
 |line=>
  refine yy (y:=Str.ofString "line") (ds:=[.str "line"]) rfl rfl (λe=>absurd e (by decide +kernel)) (λ_=>?_);refine yy (y:=Str.ofString "line") (ds:=[.str "line"]) rfl rfl (λ_=>?_) (λe=>absurd rfl e);exact λd dx hd=>.inl (h d _ hd ⟨dx,zf⟩ (Old.up hd))
 |tab=>
  refine yy (y:=Str.ofString "tab") (ds:=[.str "tab"]) rfl rfl (λe=>absurd e (by decide +kernel)) (λ_=>?_);refine yy (y:=Str.ofString "tab") (ds:=[.str "tab"]) rfl rfl (λe=>absurd e (by decide +kernel)) (λ_=>?_);refine yy (y:=Str.ofString "tab") (ds:=[.str "tab"]) rfl rfl (λ_=>?_) (λe=>absurd rfl e);exact λd dx hd=>.inl (h d _ hd ⟨dx,zf⟩ (Old.up hd))
 |row c ns=>
  refine yy (y:=Str.ofString "row") (ds:=[.str "row",.str ⟨#[c]⟩,.tuple ns]) rfl rfl (λe=>absurd e (by decide +kernel)) (λ_=>?_);refine yy (y:=Str.ofString "row") (ds:=[.str "row",.str ⟨#[c]⟩,.tuple ns]) rfl rfl (λe=>absurd e (by decide +kernel)) (λ_=>?_);refine yy (y:=Str.ofString "row") (ds:=[.str "row",.str ⟨#[c]⟩,.tuple ns]) rfl rfl (λe=>absurd e (by decide +kernel)) (λ_=>?_);show wOp yX (z9 0) (wC (.int 1)) [some (.d (.tuple [.str "row",.str ⟨#[c]⟩,.tuple ns]))] O (λv O1=>wOp yX (z9 0) (wC (.int 2)) [some (.d (.tuple [.str "row",.str ⟨#[c]⟩,.tuple ns]))] O1 (λu O2=>∀x dx,O2 x=none->sInitR cR [.own x,v,u] (updO O2 x (.ins cR dx [])) λw O3=>w=.d .none/\Clo R (.own x) O3));refine x5 (e:=.str ⟨#[c]⟩) rfl rfl ?_;refine x5 (e:=.tuple ns) rfl rfl (λd dx hd=>?_);exact⟨d,dx,⟨#[c]⟩,ns,rfl,zf,rfl,.inl (h d _ hd ⟨dx,zf⟩ (by rw[yR];exact Old.up hd))⟩
seal PE PS PSs PT PA in
theorem Zb(F:Fun K "_law_class_right" "_law_class_right" (top 111) f fd)(T:Txt P w K mg C bw)(D:Dds K mg cD cS cL cT cR):FnOk P w K mg base CX0 1 f fd ["_law_deed","_law_read_here"] (zb K (sRight cS cL cT cR)):=by
 have nd:=vE.nd;apply F.okU vE (by walk_at "ln") (λhr=>(zd (zz (uQ (yL (yf (kG (K:=K) rfl) (by rfl) T.n_isinstance (by rfl) (QA.pa (qc (pv 0) (qc (Yy rfl D.m_Deed) qn)))))) (za (zL yq)) zV) (zd (zZ 2 nd (yJ (qc (yf (kG (K:=K) rfl) (by rfl) T.n_isinstance (by rfl) (QA.pa (qc (pv 0) (qc (Yy rfl D.m_Sign) qn)))) (qc (yf (kG (K:=K) rfl) (by rfl) T.n_isinstance (by rfl) (QA.pa (qc (pv 0) (qc (Yy rfl D.m_Line) qn)))) (qc (yf (kG (K:=K) rfl) (by rfl) T.n_isinstance (by rfl) (QA.pa (qc (pv 0) (qc (Yy rfl D.m_Tab) qn)))) (qc (yf (kG (K:=K) rfl) (by rfl) T.n_isinstance (by rfl) (QA.pa (qc (pv 0) (qc (Yy rfl D.m_Row) qn)))) qn)))))) (zd (zz (zM (Ur (K:=K) rfl hr.units) (pv 2) (vV (xB (N:=["_law_word","_law_read_here"]) (n:=1) (js:=[1])) rfl (xv (K:=K) rfl (yJ (qc zk (qc zk (qc zk (qc zk qn)))))) (λ_ _ _ _=>(z6 (i:=0) (show List.Nodup (["_law_word","_law_read_here"]:List Str)by decide +kernel) rfl (Or.inl rfl))) (λ_ _ _ _=>yN) (λ_ _ _ _=>(xT zU (zY (z7 (K:=K) rfl) (pv 1) zc) (pv 0))))) (za (zL yq)) zV) (zd (zz (zM zU (zY (z7 (K:=K) rfl) (pv 1) zc) zk) (za (zL (xT zU (fl K (pv 0)) (zY (z7 (K:=K) rfl) (pv 1) zc)))) zV) (za (zL (zeg (xT Vx (zY (z7 (K:=K) rfl) (pv 1) zc) zk) (j4 (xT (Yp (K:=K) rfl hr.units) (yb (qc (fl K (pv 0)) (qc (fl K (pv 0)) qn))) (x0 (zin (K:=K) rfl) (pv 1) (va zc) uL)))))))))))
 .walk_at "ref"
 rintro _ O R ⟨r,d,rfl,hd,hok,h⟩;obtain⟨E,dd,fs,b1,b2,b3,b4,hd',hk,hD,h1,h2,h3,h4,hb⟩:=zjh D hd;rw[zjf];refine zje rfl hd' hk hD ?_;refine xa [some (.own d),some (.d (.tuple (.str (Xl r)::tlD r))),some (.d (.list [.bool b1,.bool b2,.bool b3,.bool b4]))] (λR1 hR1=>?_) ?_
 .refine JS ?_
  refine jF rfl hd' hk h1 ?_;refine jF rfl hd' hk h2 ?_;refine jF rfl hd' hk h3 ?_;refine jF rfl hd' hk h4 ?_;exact⟨_,rfl,(by decide:4<=1000),hR1⟩
 refine zd0 rfl rfl hb ?_;cases r with
 |sign c=>
  obtain⟨dx,hd⟩:=hd;refine yy (y:=Str.ofString "sign") (ds:=[.str "sign",.str ⟨#[c]⟩]) rfl rfl (λ_=>?_) (λe=>absurd rfl e);refine YA ?_;show xh K (z9 0) "sign" [some (.own d),some (.d (.tuple [.str "sign",.str ⟨#[c]⟩])),some (.d (.list [.bool b1,.bool b2,.bool b3,.bool b4]))] O (λv O1=>wOp yX (z9 1) (wC (.int 1)) [some (.own d),some (.d (.tuple [.str "sign",.str ⟨#[c]⟩])),some (.d (.list [.bool b1,.bool b2,.bool b3,.bool b4]))] O1 (λu O2=>vEq v u O2 (Clo R)));refine xi (v:=.d (.str ⟨#[c]⟩)) rfl hd D.k_S.cl D.n_sign rfl ?_;refine x5 (e:=.str ⟨#[c]⟩) rfl rfl ?_;refine ze5 ?_;rw[decide_eq_true rfl];exact .inl (h O Old.refl)
 |line=>
  refine yy (y:=Str.ofString "line") (ds:=[.str "line"]) rfl rfl (λe=>absurd e (by decide +kernel)) (λ_=>?_);refine YA (zbX (by decide +kernel) rfl ?_);exact .inl (h O Old.refl)
 |tab=>
  refine yy (y:=Str.ofString "tab") (ds:=[.str "tab"]) rfl rfl (λe=>absurd e (by decide +kernel)) (λ_=>?_);refine YA (zbX (by decide +kernel) rfl ?_);exact .inl (h O Old.refl)
 |row c ns=>
  obtain⟨dx,hd⟩:=hd;obtain⟨hc,hns⟩:=hok;refine yy (y:=Str.ofString "row") (ds:=[.str "row",.str ⟨#[c]⟩,.tuple ns]) rfl rfl (λe=>absurd e (by decide +kernel)) (λ_=>?_);refine YA (zgN (y:=Str.ofString "row") rfl rfl ?_);unfold wOp zc4;refine yA (v:=.d (.str ⟨#[c]⟩)) rfl hd D.k_R.cl D.n_letter rfl ?_;refine yA (v:=.d (.tuple ns)) rfl hd D.k_R.cl D.n_numbers rfl ?_;obtain⟨s1,s2⟩:=zbY hc hns;refine⟨[.str ⟨#[c]⟩,.tuple ns],rfl,(by decide:2<=1000),1,rfl,[.str "row",.str ⟨#[c]⟩,.tuple ns],rfl,(by decide:¬(HT.sIx 3 0 (some 1)= 0/\HT.sIx 3 3 none= 3)),?_⟩;refine⟨.tuple [.str ⟨#[c]⟩,.tuple ns],.tuple [.str ⟨#[c]⟩,.tuple ns],rfl,rfl,s1,s1,?_⟩;rw[s2];exact .inl (h O Old.refl)
seal PE PS PSs PT PA in
theorem Vq(F:Fun K "_law_called" "_law_called" (top 109) f fd)(T:Txt P w K mg C bw)(ut:Cal P w K mg base 5 "put_sign" [] (zb K (sPutSign C)))(uq:Cal P w K mg base 4 "line_end" [] (zb K (sLineE C)))(u4:Cal P w K mg base 2 "on_tab" [] (zb K (qC C tabS)))(af:Cal P w K mg base 3 "asked" [] (zb K (sAsked C)))(bp:Cal P w K mg base 6 "_law_by_going" [] (zb K (sDo C lsG λa b ns=>[.d a,.d b])))(bq:Cal P w K mg base 7 "_law_by_cells" [] (zb K (sDo C lsE λa b ns=>[.d a])))(bt:Cal P w K mg base 6 "_law_by_modes" [] (zb K (sDo C lsM λa b ns=>[.d (.tuple ns)]))):FnOk P w K mg base CX0 8 f fd ["_law_state","_law_read_here"] (zb K (sCalled C)):=by
 have nd:=jo.nd;apply F.okU jo (by walk_at "ln") (λhr=>(zd (zz (zM zU (zY (z7 (K:=K) rfl) (pv 1) zc) zk) (za (zq (zj ut hr (qc (pv 0) (qc (zY (z7 (K:=K) rfl) (pv 1) zc) qn))))) (za (zz (zM zU (zY (z7 (K:=K) rfl) (pv 1) zc) zk) (za (zq (zj uq hr (qc (pv 0) qn)))) (za (zz (zM zU (zY (z7 (K:=K) rfl) (pv 1) zc) zk) (za (zq (zj u4 hr (qc (pv 0) (qc zc qn))))) (za (zz (zM zU (zY (z7 (K:=K) rfl) (pv 1) zc) zk) (za (zL (zj af hr (qc (pv 0) (qc (zY (z7 (K:=K) rfl) (pv 1) zc) qn))))) (zd (vZ (x0 (kd (K:=K) rfl) (zu (V5 (K:=K) rfl) (yB (Vz (K:=K) rfl) (by rfl) T.n_list rfl (QA.pa (qc (zY (z7 (K:=K) rfl) (pv 1) zc) qn))) (yJ (qc yF qn))) uL (va zc)) (zgM (K:=K) (n:=2) rfl rfl (yI (z6 (i:=2) nd rfl (Or.inl rfl)) (yI (z6 (i:=3) nd rfl (Or.inl rfl)) vF)))) (zd (zq (zj bp hr (qc (pv 0) (qc (zY (z7 (K:=K) rfl) (pv 1) zc) (qc (pv 2) (qc (pv 3) qn)))))) (zd (zq (zj bq hr (qc (pv 0) (qc (zY (z7 (K:=K) rfl) (pv 1) zc) (qc (pv 2) qn))))) (za (zq (zj bt hr (qc (pv 0) (qc (zY (z7 (K:=K) rfl) (pv 1) zc) (qc (zY (z7 (K:=K) rfl) (pv 1) zc) qn)))))))))))))))) (za (zL (yJ qn)))))
 .walk_at "ref"
 rintro _ O R ⟨r,n,x,dx,p,st,kp,S,rfl,hok,hn,hn6,hs,hG,h⟩;refine zjd ?_;cases r with
 |sign c=>
  refine vy (y:=Str.ofString "sign") (ds:=[.str "sign",.str ⟨#[c]⟩]) rfl rfl (λ_=>?_) (λe=>absurd rfl e);refine zgO (e:=.str ⟨#[c]⟩) (v:=.own x) (ds:=[.str "sign",.str ⟨#[c]⟩]) rfl rfl rfl ?_;exact⟨⟨#[c]⟩,x,dx,p,st,kp,S,rfl,hs,hG.b,λO' q1 q2=>⟨[],rfl,by decide,.inl (h _ st kp O' rfl (.xp q1 q2))⟩⟩
 |line=>
  refine vy (y:=Str.ofString "line") (ds:=[.str "line"]) rfl rfl (λe=>absurd e (by decide +kernel)) (λ_=>?_);refine vy (y:=Str.ofString "line") (ds:=[.str "line"]) rfl rfl (λ_=>?_) (λe=>absurd rfl e);exact⟨x,dx,p,st,kp,S,rfl,hs,hG.b,λO' q1 q2=>⟨[],rfl,by decide,.inl (h _ st kp O' rfl (.xp q1 q2))⟩⟩
 |tab=>
  refine vy (y:=Str.ofString "tab") (ds:=[.str "tab"]) rfl rfl (λe=>absurd e (by decide +kernel)) (λ_=>?_);refine vy (y:=Str.ofString "tab") (ds:=[.str "tab"]) rfl rfl (λe=>absurd e (by decide +kernel)) (λ_=>?_);refine vy (y:=Str.ofString "tab") (ds:=[.str "tab"]) rfl rfl (λ_=>?_) (λe=>absurd rfl e);exact⟨.int 1,⟨by decide,by decide⟩,x,dx,p,st,kp,S,rfl,hs,⟨hG.b,by have:=hG.s;omega⟩,λO' q1 q2=>⟨[],rfl,by decide,.inl (h _ st kp O' rfl (.xp q1 q2))⟩⟩
 |row c ns=>
  obtain⟨hc,hns⟩:=hok;have ha:NumD (nmA ns 0):=kH hns.n;have hb:NumD (nmA ns 1):=kH hns.n;refine vy (y:=Str.ofString "row") (ds:=[.str "row",.str ⟨#[c]⟩,.tuple ns]) rfl rfl (λe=>absurd e (by decide +kernel)) (λ_=>?_);refine vy (y:=Str.ofString "row") (ds:=[.str "row",.str ⟨#[c]⟩,.tuple ns]) rfl rfl (λe=>absurd e (by decide +kernel)) (λ_=>?_);refine vy (y:=Str.ofString "row") (ds:=[.str "row",.str ⟨#[c]⟩,.tuple ns]) rfl rfl (λe=>absurd e (by decide +kernel)) (λ_=>?_);refine vy (y:=⟨#[c]⟩) (ds:=[.str "row",.str ⟨#[c]⟩,.tuple ns]) rfl rfl (λe=>?_) (λne=>?_)
  .have e':c= 113:=by rw[show Str.ofString "q" =⟨#[113]⟩by decide +kernel,K3]at e;exact e
   subst e';show wOp yX (z9 1) (wC (.int 2)) [some (.own x),some (.d (.tuple [.str "row",.str ⟨#[113]⟩,.tuple ns])),none,none] O (λy O2=>sAsked C [.own x,y] O2 (Clo R));refine x5 (e:=.tuple ns) rfl rfl ?_;exact⟨x,dx,p,st,kp,S,ns,rfl,hns.l,hns.n,hs,hG.b,λq O' q1 q2 q3=>.inl (h _ st kp O' (U4 q2) ((Nxt.refl hs).old q3))⟩
  have ne':c≠113:=λz=>ne (by rw[z];decide +kernel);rw[show rdA (.row c ns) S=[]from if_neg ne',show rdS' (.row c ns) S=_ from if_neg ne',<-zgI]at h;refine xa [some (.own x),some (.d (.tuple [.str "row",.str ⟨#[c]⟩,.tuple ns])),some (.d (nmA ns 0)),some (.d (nmA ns 1))] (λR1 hR1=>?_) ?_
  .walk_at "wd"
   refine⟨_,rfl,_,rfl,ns,rfl,ns.map W.d,rfl,[W.d PyData.none],rfl,ns,yz ns,[PyData.none],rfl,by have:=hns.l;simp;omega,(ns++[PyData.none]).map W.d,rfl,ns++[PyData.none],yz _,?_⟩;rw[zji hns.o];exact⟨rfl,_,_,rfl,_,_,rfl,rfl,hR1⟩
  refine ye (λρ' O'=>ρ'=[some (.own x),some (.d (.tuple [.str "row",.str ⟨#[c]⟩,.tuple ns])),some (.d (nmA ns 0)),some (.d (nmA ns 1))]/\∃st' kp',Nxt O O' C x dx p st kp st' kp' (opt lsG c (actS c (nmA ns 0) (nmA ns 1) ns) S)) (λR1 hR1=>?_) ?_
  .show wOp yX (z9 1) (wC (.int 1)) [some (.own x),some (.d (.tuple [.str "row",.str ⟨#[c]⟩,.tuple ns])),some (.d (nmA ns 0)),some (.d (nmA ns 1))] O (λy O2=>sDo C lsG (λa b ns=>[.d a,.d b]) [.own x,y,.d (nmA ns 0),.d (nmA ns 1)] O2 (λ_ O3=>R1 [some (.own x),some (.d (.tuple [.str "row",.str ⟨#[c]⟩,.tuple ns])),some (.d (nmA ns 0)),some (.d (nmA ns 1))] O3))
   refine x5 (e:=.str ⟨#[c]⟩) rfl rfl ?_;exact⟨n,c,nmA ns 0,nmA ns 1,ns,x,dx,p,st,kp,S,rfl,by omega,hc,ha,hb,hns.n,hs,hG,λst' kp' O' N=>hR1 _ _ ⟨rfl,st',kp',N⟩⟩
  rintro _ O1 ⟨rfl,st1,kp1,N1⟩;have hG1:Good (n+1) _:=hG.opt (L:=lsG) (c:=c) (b:=nmA ns 1) (ns:=ns) hn6 ha;refine ye (λρ' O'=>ρ'=[some (.own x),some (.d (.tuple [.str "row",.str ⟨#[c]⟩,.tuple ns])),some (.d (nmA ns 0)),some (.d (nmA ns 1))]/\∃st' kp',Nxt O1 O' C x dx p st1 kp1 st' kp' (opt lsE c (actS c (nmA ns 0) (nmA ns 1) ns) (opt lsG c (actS c (nmA ns 0) (nmA ns 1) ns) S))) (λR1 hR1=>?_) ?_
  .show wOp yX (z9 1) (wC (.int 1)) [some (.own x),some (.d (.tuple [.str "row",.str ⟨#[c]⟩,.tuple ns])),some (.d (nmA ns 0)),some (.d (nmA ns 1))] O1 (λy O2=>sDo C lsE (λa b ns=>[.d a]) [.own x,y,.d (nmA ns 0)] O2 (λ_ O3=>R1 [some (.own x),some (.d (.tuple [.str "row",.str ⟨#[c]⟩,.tuple ns])),some (.d (nmA ns 0)),some (.d (nmA ns 1))] O3))
   refine x5 (e:=.str ⟨#[c]⟩) rfl rfl ?_;exact⟨n+1,c,nmA ns 0,nmA ns 1,ns,x,dx,p,st1,kp1,_,rfl,by omega,hc,ha,hb,hns.n,N1.s,hG1,λst' kp' O' N=>hR1 _ _ ⟨rfl,st',kp',N⟩⟩
  rintro _ O2 ⟨rfl,st2,kp2,N2⟩;have hG2:Good (n+1+1) _:=hG1.opt (L:=lsE) (c:=c) (b:=nmA ns 1) (ns:=ns) (by omega) ha;show wOp yX (z9 1) (wC (.int 1)) [some (.own x),some (.d (.tuple [.str "row",.str ⟨#[c]⟩,.tuple ns])),some (.d (nmA ns 0)),some (.d (nmA ns 1))] O2 (λy O3=>wOp yX (z9 1) (wC (.int 2)) [some (.own x),some (.d (.tuple [.str "row",.str ⟨#[c]⟩,.tuple ns])),some (.d (nmA ns 0)),some (.d (nmA ns 1))] O3 (λu O4=>sDo C lsM (λa b ns=>[.d (.tuple ns)]) [.own x,y,u] O4 (λ_ O5=>Uk (Y5 qz) { nx:=λ_ O'=>Clo R (.d .none) O',rt:=Clo R } [some (.own x),some (.d (.tuple [.str "row",.str ⟨#[c]⟩,.tuple ns])),some (.d (nmA ns 0)),some (.d (nmA ns 1))] O5)));refine x5 (e:=.str ⟨#[c]⟩) rfl rfl ?_;refine x5 (e:=.tuple ns) rfl rfl ?_;exact⟨n+1+1,c,nmA ns 0,nmA ns 1,ns,x,dx,p,st2,kp2,_,rfl,by omega,hc,ha,hb,hns.n,N2.s,hG2,λst' kp' O' N=>⟨[],rfl,by decide,.inl (h _ st' kp' O' rfl (N1.trans (N2.trans N)))⟩⟩
theorem Jj(F:Fun K "_law_told" "_law_told" (top 105) f fd)(T:Txt P w K mg C bw):FnOk P w K mg base CX0 1 f fd ["_law_state"] (zb K (sTold21 C)):=by
 have nd:=k8.nd;apply F.okU k8 (by walk_at "ln") (λhr=>(zd (zZ 1 nd (yJ (qc (fl K (pv 0)) (qc (fl K (pv 0)) (qc (fl K (pv 0)) (qc (fl K (pv 0)) (qc (fl K (pv 0)) (qc (fl K (pv 0)) (qc (fl K (pv 0)) (qc (fl K (pv 0)) qn)))))))))) (zd (zZ 1 nd (zu (V5 (K:=K) rfl) (pv 1) (yJ (qc (fl K (pv 0)) (qc (fl K (pv 0)) (qc (fl K (pv 0)) (qc (fl K (pv 0)) (qc (fl K (pv 0)) (qc (yf (zgs rfl) (by rfl) T.n_sorted (by rfl) (QA.pa (qc (fl K (pv 0)) qn))) (qc (fl K (pv 0)) qn)))))))))) (za (zL (zu (V5 (K:=K) rfl) (pv 1) (yJ (qc (vV (xB (N:=["_law_row_here"]) (n:=1) (js:=[])) rfl (xv (K:=K) rfl (fl K (pv 0))) (λ_ _ _ _=>(z6 (i:=0) (show List.Nodup (["_law_row_here"]:List Str)by decide +kernel) rfl (Or.inl rfl))) (λ_ _ _ _=>yN) (λ_ _ _ _=>(yB (Vz (K:=K) rfl) (by rfl) T.n_list rfl (QA.pa (qc (pv 0) qn))))) (qc (yf (je (K:=K) rfl) (by rfl) T.n_len (by rfl) (QA.pa (qc (fl K (pv 0)) qn))) qn)))))))))
 .walk_at "ref"
 rintro _ O R ⟨n,x,dx,p,st,kp,S,rfl,hs,hG,hn,h⟩;have hx:=hs.x;have hc:=T.st.cl;refine xa [some (.own x),some (.d (.list (toldA S)))] (λR1 hR1=>?_) ?_
 .refine JS ?_
  refine yA rfl hx hc T.st.n_wide zA ?_;refine yA rfl hx hc T.st.n_high zB ?_;refine yA rfl hx hc T.st.n_row zQ ?_;refine yA rfl hx hc T.st.n_column zm ?_;refine yA rfl hx hc T.st.n_late zC ?_;refine yA rfl hx hc T.st.n_ink zN ?_;refine yA rfl hx hc T.st.n_wrap zD ?_;refine yA rfl hx hc T.st.n_putting zi ?_;exact⟨_,rfl,(by decide:8<=1000),hR1⟩
 refine xa [some (.own x),some (.d (.list (toldA S++toldB S)))] (λR1 hR1=>?_) ?_
 .refine zkz ?_
  refine JT rfl ?_;refine yA rfl hx hc T.st.n_home zE ?_;refine yA rfl hx hc T.st.n_top zR ?_;refine yA rfl hx hc T.st.n_bottom zn ?_;refine yA rfl hx hc T.st.n_left zF ?_;refine yA rfl hx hc T.st.n_right zr ?_;refine zdW rfl hx hc T.st.n_stops zp hs.st (Nat.lt_of_le_of_lt hG.s hn) ?_;refine yA rfl hx hc T.st.n_last zG ?_;exact⟨_,rfl,(by decide:7<=1000),ze9 (by decide:8<=1000) (by decide:7<=1000) (hR1)⟩
 refine YA ?_;refine JT rfl ?_;refine zdZ rfl hx hc T.st.n_picture zh hs.p (by have:=hG.b.h2;rw[show(genG S.h S.w S.pic).length=S.h by simp[genG]];omega) ?_;refine zdX rfl hx hc T.st.n_kept zw hs.kp ?_;refine⟨_,rfl,(by decide:2<=1000),ze9 (by decide:15<=1000) (by decide:2<=1000) (.inl ?_)⟩;have e:(((S.kept.map kpT).map W.d).length:Int)=(S.kept.length:Int):=by simp
 rw[e];exact h
end
inductive sNum3 (ws:List W) (O:OM) (R:WK):Prop
 |mk:∀c:Int,ws=[.d (.int c)]->0<=c->(∀n,Num3 n->R (.d n) O)->sNum3 ws O R
inductive sNums3 (ws:List W) (O:OM) (R:WK):Prop
 |mk:∀c:Int,ws=[.d (.int c)]->0<=c->(∀ns,Ok3 ns->R (.d (.tuple ns)) O)->sNums3 ws O R
inductive sRow3 (ws:List W) (O:OM) (R:WK):Prop
 |mk:∀c:Int,ws=[.d (.int c)]->0<=c->(∀k ns,isLet k->Ok3 ns->R (.d (.tuple [.str ⟨#[k]⟩,.tuple ns])) O)->sRow3 ws O R
inductive sSgn3 (ws:List W) (O:OM) (R:WK):Prop
 |mk:∀k ns,ws=[.d (.str ⟨#[k]⟩),.d (.tuple ns)]->OkNs ns->R (.d (.str (rowT k ns))) O->sSgn3 ws O R
inductive sRd3 (ws:List W) (O:OM) (R:WK):Prop
 |mk:∀c:Int,ws=[.d (.int c)]->0<=c->(∀r,OkQ r->R (.d (.tuple [rdD r,.str (rdT r)])) O)->sRd3 ws O R
theorem QI{L:List Nat}{P:Nat->Prop}(h:∀x∈L,P x){k:Int}(h0:0<=k)(h1:k<L.length):∃c,atI L k=some c/\P c:=by
 obtain⟨m,rfl⟩:=Int.eq_ofNat_of_zero_le h0;have hm:m<L.length:=by omega
 exact⟨L[m],uM (List.getElem?_eq_getElem hm),h _ (List.getElem_mem hm)⟩
theorem qg{L:List PyData}{P:PyData->Prop}(h:∀x∈L,P x){k:Int}(h0:0<=k)(h1:k<L.length):∃d,atI (L.map W.d) k=some (.d d)/\P d:=by
 obtain⟨m,rfl⟩:=Int.eq_ofNat_of_zero_le h0;have hm:m<L.length:=by omega
 exact⟨L[m],uM (by rw[List.getElem?_map,List.getElem?_eq_getElem hm];rfl),h _ (List.getElem_mem hm)⟩
noncomputable def Dig(d:PyData):Prop:=∃i:Int,d=.int i/\0<=i/\i<10
noncomputable def Pw(d:PyData):Prop:=∃i:Int,d=.int i/\0<i/\i<1000000
noncomputable instance:DecidablePred Num3:=λn=>match n with
 |.none=>isTrue trivial
 |.int i=>inferInstanceAs (Decidable (0<=i/\i<=999))
 |.bool _=>isFalse id
 |.str _=>isFalse id
 |.list _=>isFalse id
 |.tuple _=>isFalse id
 |.dict _=>isFalse id
theorem YR:vk O (.d (.list ds))=some ds:=by simp only[vk,yS,yc,Option.bind_some,yz]
theorem zd8{q:Int}(h:∀d∈ds,Num3 d)(hl:ds.length= 6)(hq:1<=q):Ok3 (x4 ds none (some q)):=by
 have e:(x4 ds none (some q)).length=min q.toNat 6:=by
  unfold x4;rw[List.length_take,List.length_drop,hl];show min ((if q<0 then(q+(6:Nat)).toNat else min q.toNat 6)-0) (6-0)=_;rw[if_neg (by omega)];omega
 refine⟨λm hm=>h m ?_,by rw[e];omega,by rw[e];omega⟩;unfold x4 at hm;exact List.mem_of_mem_drop (List.mem_of_mem_take hm)
theorem zgZ:∀x∈[97,98,126,32,35,122],MulOk ⟨#[x]⟩ (1+if(⟨#[x]⟩:Str)=Str.ofString "~" then 1 else 0)/\Txt.mul ⟨#[x]⟩ (1+if(⟨#[x]⟩:Str)=Str.ofString "~" then 1 else 0)=rdT (.sign x):=by
 unfold MulOk;decide +kernel
theorem cdv{a b:Int}(h:0<=a)(hb:0<b/\b<1000000):zcv a b:=⟨by omega,by omega⟩
section
variable {w:World}{bw cD cS cL cT cR:Addr}
theorem zcd(F:Fun K "_law_at" "_law_at" (top 98) f fd)(T:Txt P w K mg C bw):FnOk P w K mg base CX0 1 f fd ["_law_script","_law_k"] (zb K Y9):=by
 apply F.okU zaf (by walk_at "ln") (λhr=>(zd (zz (zM qm (pv 1) (yf (je (K:=K) rfl) (by rfl) T.n_len (by rfl) (QA.pa (qc (pv 0) qn)))) (za (zL (zY (yP (K:=K) rfl) (pv 0) (pv 1)))) zV) (za (zL zc))))
 .walk_at "ref"
 rintro _ O R ⟨ns,k,rfl,h⟩;walk_at "wd";simp[ZP,yS,yc];split
 .rename_i hk
  refine⟨_,uM (by rw[List.getElem?_map,List.getElem?_eq_getElem hk];rfl),.inl ?_⟩;rw[List.getD_eq_getElem?_getD,List.getElem?_eq_getElem hk]at h;exact h
 .rename_i hk
  rw[List.getD_eq_getElem?_getD,List.getElem?_eq_none (by omega)]at h;exact .inl h
theorem QJ(F:Fun K "_law_mixed" "_law_mixed" (top 99) f fd)(T:Txt P w K mg C bw):FnOk P w K mg base CX0 1 f fd ["_law_cell","_law_k"] (zb K sMixM):=by
 have nd:=jY.nd;apply F.okU jY (by walk_at "ln") (λhr=>(zd (zZ 2 nd (zu yd (zu yl (zu xm (zu yd (pv 0) zc) zc) zc) (zu xm zc (pv 1)))) (za (zL (zu yw (zu yl (zu xm (pv 2) (zu yd zc (zu xm (zu xm zc (pv 1)) (pv 1)))) zc) zc)))))
 .walk_at "ref"
 rintro _ O R ⟨c,k,rfl,k0,k1,h⟩;walk_at "wd";have kk0:0<=k*k:=Int.mul_nonneg k0 k0;have kk1:k*k<=1000*1000:=Int.mul_le_mul k1 k1 k0 (by decide);have ea:1021*k*k= 1021*(k*k):=Int.mul_assoc _ _ _;have q1:IntMulOk ((c+11)*48271%2147483647+5*k) (16807+1021*k*k):=mulR (by omega) (by omega);have y0:=Int.emod_nonneg (((c+11)*48271%2147483647+5*k)*(16807+1021*k*k)) (show(2147483629:Int)≠0 by decide);have y1:=Int.emod_lt_of_pos (((c+11)*48271%2147483647+5*k)*(16807+1021*k*k)) (show(0:Int)<2147483629 by decide);refine⟨mulR (by decide) (by decide),mulL (by decide) (by decide),mulL (by decide) (by decide),mulR (by omega) (by omega),q1,?_⟩
 generalize((c+11)*48271%2147483647+5*k)*(16807+1021*k*k)%2147483629 =y at y0 y1 ⊢
 exact⟨⟨by omega,by omega⟩,.inl (h _ (by omega) (by omega))⟩
seal PE PS PSs PT PA in
theorem Jk(F:Fun K "_law_size" "_law_size" (top 100) f fd)(T:Txt P w K mg C bw):FnOk P w K mg base CX0 1 f fd ["_law_cell"] (zb K sSizeM):=by
 have nd:=k7.nd;apply F.okU k7 (by walk_at "ln") (λhr=>(zd (zZ 1 nd (zY (yP (K:=K) rfl) (yJ (qc (zu yd zc (zu yl (pv 0) zc)) (qc (zu yd zc (zu yl (pv 0) zc)) (qc (zu yd zc (zu yl (pv 0) zc)) (qc zc qn))))) (zu yl (zu yw (pv 0) zc) zc))) (za (zL (yb (qc (pv 1) (qc (zY (yP (K:=K) rfl) (yJ (qc (zu yd zc (zu yl (zu yw (pv 0) zc) zc)) (qc (zu yd zc (zu yl (zu yw (pv 0) zc) zc)) (qc (zu yd zc (zu yl (zu yw (pv 0) zc) zc)) qn)))) (zu yl (zu yw (pv 0) zc) zc)) qn)))))))
 .walk_at "ref"
 rintro _ O R ⟨c,rfl,c0,h⟩;walk_at "wd";obtain⟨wv,w0,w1,hwv⟩:∃wv:Nat,1<=wv/\wv<=24/\atI ([PyData.int (1+c%24),PyData.int (2+c%7),PyData.int (5+c%5),PyData.int 9].map W.d) (c / 24%4)=some (.d (.int wv)):=by
  rcases(by omega:c / 24%4=0\/c / 24%4=1\/c / 24%4=2\/c / 24%4=3)with e|e|e|e<;>rw[e]
  .exact⟨(1+c%24).toNat,by omega,by omega,by rw[show(((1+c%24).toNat:Nat):Int)= 1+c%24 by omega];rfl⟩
  .exact⟨(2+c%7).toNat,by omega,by omega,by rw[show(((2+c%7).toNat:Nat):Int)= 2+c%7 by omega];rfl⟩
  .exact⟨(5+c%5).toNat,by omega,by omega,by rw[show(((5+c%5).toNat:Nat):Int)= 5+c%5 by omega];rfl⟩
  .exact⟨9,by omega,by omega,rfl⟩
 obtain⟨hv,v0,v1,hhv⟩:∃hv:Nat,1<=hv/\hv<=12/\atI ([PyData.int (1+c / 96%12),PyData.int (1+c / 96%4),PyData.int (3+c / 96%3)].map W.d) (c / 1152%3)=some (.d (.int hv)):=by
  rcases(by omega:c / 1152%3=0\/c / 1152%3=1\/c / 1152%3=2)with e|e|e<;>rw[e]
  .exact⟨(1+c / 96%12).toNat,by omega,by omega,by rw[show(((1+c / 96%12).toNat:Nat):Int)= 1+c / 96%12 by omega];rfl⟩
  .exact⟨(1+c / 96%4).toNat,by omega,by omega,by rw[show(((1+c / 96%4).toNat:Nat):Int)= 1+c / 96%4 by omega];rfl⟩
  .exact⟨(3+c / 96%3).toNat,by omega,by omega,by rw[show(((3+c / 96%3).toNat:Nat):Int)= 3+c / 96%3 by omega];rfl⟩
 exact⟨⟨by omega,by omega⟩,_,rfl,_,hwv,⟨by omega,by omega⟩,⟨by omega,by omega⟩,_,rfl,_,hhv,_,rfl,by show 2<=1000;omega,.inl (h wv hv w0 w1 v0 v1)⟩
seal PE PS PSs PT PA in
theorem Vr(F:Fun K "_law_number" "_law_number" (top 101) f fd)(T:Txt P w K mg C bw):FnOk P w K mg base CX0 1 f fd ["_law_cell"] (zb K sNum3):=by
 apply F.okU Xu (by walk_at "ln") (λhr=>(za (zL (zY (yP (K:=K) rfl) (Zj rfl) (zu yl (pv 0) zc)))))
 .walk_at "ref"
 rintro _ O R ⟨c,rfl,c0,h⟩;walk_at "wd";obtain⟨d,e1,e2⟩:=qg (L:=[.none,.int 0,.int 1,.int 2,.int 3,.int 5,.int 9,.int 4,.int 7,.int 12,.int 1,.int 2,.int 25,.int 999,.int 6,.int 13]) (P:=Num3) (by decide) (k:=c%16) (by omega) (by show c%16<16;omega);exact⟨_,rfl,_,e1,.inl (h d e2)⟩
seal PE PS PSs PT PA in
theorem XA(F:Fun K "_law_numbers" "_law_numbers" (top 102) f fd)(T:Txt P w K mg C bw)(bu:Cal P w K mg base 1 "_law_number" [] (zb K sNum3)):FnOk P w K mg base CX0 2 f fd ["_law_mixed_here"] (zb K sNums3):=by
  have nd:=qw.nd;apply F.okU qw (by walk_at "ln") (λhr=>(zd (zZ 1 nd (zu yd zc (zu xm (zu yl (zu yw (pv 0) zc) zc) (zu yl (zu yw (pv 0) zc) zc)))) (za (zL (yB (ko (K:=K) rfl) (by rfl) T.n_tuple rfl (QA.pa (qc (Yu (xB (N:=["_law_k","_law_mixed_here"]) (n:=1) (js:=[0])) rfl (xF rfl T.n_range (QA.pa (qc (pv 1) qn))) (λ_ _ _ _=>(z6 (i:=0) (show List.Nodup (["_law_k","_law_mixed_here"]:List Str)by decide +kernel) rfl (Or.inl rfl))) (λ_ _ _ _=>yN) (λ_ _ _ _=>(zj bu hr (qc (zu yw (pv 1) (zY (yP (K:=K) rfl) (yJ (qc zc (qc zc (qc zc (qc zc qn))))) (pv 0))) qn)))) qn)))))))
  · walk_at "ref"
  rintro _ O R ⟨c,rfl,c0,h⟩;walk_at "wd";obtain⟨q,hq,q1,q4⟩:∃q:Int,1+c / 65536%4*(c / 262144%2)=q/\1<=q/\q<=4:=by
    rcases(by omega:c / 262144%2=0\/c / 262144%2=1)with e|e<;>rw[e]<;>exact⟨_,rfl,by omega,by omega⟩
  refine⟨cdv c0 (by decide),cdv c0 (by decide),mulR (by omega) (by omega),?_⟩;rw[hq];refine⟨by omega,by omega,by omega,Num3,λa ha us hus=>?_,λds h1 h2=>?_⟩
  · match us,hus with
    |[u],_=>
      obtain⟨d,e1,i,rfl,i0⟩:=qg (L:=[.int 1,.int 16,.int 256,.int 4096]) (P:=Pw) (fun x hx=>by
        simp only[List.mem_cons,List.not_mem_nil,or_false]at hx;rcases hx with rfl|rfl|rfl|rfl<;>exact⟨_,rfl,by decide,by decide⟩) (k:=(a:Int)) (by omega) (by show(a:Int)<4;omega)
      exact⟨rfl,rfl,_,rfl,_,e1,cdv c0 i0,c / i,rfl,Int.ediv_nonneg c0 (Int.le_of_lt i0.1),λn hn=>⟨rfl,n,rfl,hn⟩⟩
  · exact⟨ds,YR,.inl (h ds ⟨h2,by omega,by omega⟩)⟩
seal PE PS PSs PT PA in
theorem zas(F:Fun K "_law_row" "_law_row" (top 103) f fd)(T:Txt P w K mg C bw)(bx:Cal P w K mg base 2 "_law_numbers" [] (zb K sNums3)):FnOk P w K mg base CX0 3 f fd ["_law_mixed_here"] (zb K sRow3):=by
  have nd:=ZI.nd;apply F.okU ZI (by walk_at "ln") (λhr=>(zd (zZ 1 nd (zY VY zk (zu yl (pv 0) zc))) (zd (zZ 2 nd (zu yw (pv 0) zc)) (zd (zZ 3 nd (zj bx hr (qc (pv 2) qn))) (zd (zby (i:=4) nd rfl rfl (xB (N:=["_law_k","_law_more"]) (n:=1) (js:=[2])) rfl (xF rfl T.n_range (QA.pa (qc zc qn))) (λ_ _ _ _=>(z6 (i:=0) (show List.Nodup (["_law_k","_law_more"]:List Str)by decide +kernel) rfl (Or.inl rfl))) (λ_ _ _ _=>yN) (λ_ _ _ _=>(zu yl (zu yw (pv 1) (zY (yP (K:=K) rfl) (yJ (qc zc (qc zc (qc zc (qc zc (qc zc (qc zc qn))))))) (pv 0))) zc))) (zd (zz (zM zU (pv 1) zk) (za (zZ 3 nd (yB (ko (K:=K) rfl) (by rfl) T.n_tuple rfl (QA.pa (qc (x0 (kd (K:=K) rfl) (Yu (xB (N:=["_law_k"]) (n:=1) (js:=[])) rfl (xv (K:=K) rfl (pv 4)) (λ_ _ _ _=>(z6 (i:=0) (show List.Nodup (["_law_k"]:List Str)by decide +kernel) rfl (Or.inl rfl))) (λ_ _ _ _=>yN) (λ_ _ _ _=>(zY (yP (K:=K) rfl) (Zj rfl) (pv 0)))) uL (va (zu yd zc (zu yl (pv 0) zc)))) qn))))) zV) (zd (zz (xx x9 (pv 1) zk (by with_unfolding_all rfl)) (za (zZ 3 nd (yB (ko (K:=K) rfl) (by rfl) T.n_tuple rfl (QA.pa (qc (x0 (kd (K:=K) rfl) (Yu (xB (N:=["_law_k"]) (n:=1) (js:=[])) rfl (xv (K:=K) rfl (pv 4)) (λ_ _ _ _=>(z6 (i:=0) (show List.Nodup (["_law_k"]:List Str)by decide +kernel) rfl (Or.inl rfl))) (λ_ _ _ _=>yN) (λ_ _ _ _=>(zY (yP (K:=K) rfl) (Zj rfl) (pv 0)))) uL (va (zu yd zc (zu yl (pv 0) zc)))) qn))))) zV) (zd (zz (xx x9 (pv 1) zk (by with_unfolding_all rfl)) (za (zZ 3 nd (yB (ko (K:=K) rfl) (by rfl) T.n_tuple rfl (QA.pa (qc (x0 (kd (K:=K) rfl) (Yu (xB (N:=["_law_k"]) (n:=1) (js:=[])) rfl (xv (K:=K) rfl (pv 4)) (λ_ _ _ _=>(z6 (i:=0) (show List.Nodup (["_law_k"]:List Str)by decide +kernel) rfl (Or.inl rfl))) (λ_ _ _ _=>yN) (λ_ _ _ _=>(zY (yP (K:=K) rfl) (Zj rfl) (pv 0)))) uL (va (zu yd zc (zu yl (pv 0) zc)))) qn))))) zV) (zd (zz (PW.pt (j3 (xx x9 (pv 1) zk (by with_unfolding_all rfl)) (qZ (zM Z9 (zu yl (pv 2) zc) zc)))) (za (zZ 3 nd (yb (qc (zu yd zc (zu yl (pv 2) zc)) (qc (zu yd zc (zu yl (zu yw (pv 2) zc) zc)) qn))))) zV) (zd (zz (zM zU (pv 1) zk) (za (zZ 3 nd (yb (qc (zY (yP (K:=K) rfl) (yJ (qc zc (qc zc (qc zc (qc zc (qc zc (qc yF qn))))))) (zu yl (pv 2) zc)) qn)))) zV) (za (zL (yb (qc (pv 1) (qc (pv 3) qn)))))))))))))))
  · walk_at "ref"
  rintro _ O R ⟨n,rfl,n0,h⟩;refine ye (λρ' O'=>∃c,isLet c/\ρ'=[some (.d (.int n)),some (.d (.str ⟨#[c]⟩)),none,none,none]/\O=O') (λR1 hR1=>?_) ?_
  · walk_at "wd"
    obtain⟨c,e1,e2⟩:=QI (L:=(Str.ofString "udlrhgyYtTUmMRDikSsxewpcofvzZqgrdcowmMcpvzi").cps.toList) (P:=isLet) (by decide +kernel) (k:=n%43) (by omega) (by rw[show(Str.ofString "udlrhgyYtTUmMRDikSsxewpcofvzZqgrdcowmMcpvzi").cps.toList.length= 43 by decide +kernel];omega);exact⟨by rw[sizeLine_eq];decide +kernel,c,e1,hR1 _ _ ⟨c,e2,rfl,rfl⟩⟩
  rintro _ _ ⟨c,hc,rfl,rfl⟩;refine ye (λρ' O'=>∃m:Int,0<=m/\ρ'=[some (.d (.int n)),some (.d (.str ⟨#[c]⟩)),some (.d (.int m)),none,none]/\O=O') (λR1 hR1=>?_) ?_
  · walk_at "wd"
    exact⟨cdv n0 (by decide),hR1 _ _ ⟨n / 43,by omega,rfl,rfl⟩⟩
  rintro _ _ ⟨m,m0,rfl,rfl⟩;refine ye (λρ' O'=>∃ns,Ok3 ns/\ρ'=[some (.d (.int n)),some (.d (.str ⟨#[c]⟩)),some (.d (.int m)),some (.d (.tuple ns)),none]/\O=O') (λR1 hR1=>?_) ?_
  · walk_at "wd"
    exact⟨m,rfl,m0,λns hns=>hR1 _ _ ⟨ns,hns,rfl,rfl⟩⟩
  rintro _ _ ⟨ns,hns,rfl,rfl⟩;refine ye (λρ' O'=>∃ts:List PyData,ts.length= 6/\(∀t∈ts,Dig t)/\ρ'=[some (.d (.int n)),some (.d (.str ⟨#[c]⟩)),some (.d (.int m)),some (.d (.tuple ns)),some (.d (.list ts))]/\O=O') (λR1 hR1=>?_) ?_
  · walk_at "wd"
    refine⟨Dig,λa ha us hus=>?_,λds h1 h2=>hR1 _ _ ⟨ds,h1,h2,rfl,rfl⟩⟩
    match us,hus with
    |[u],_=>
      obtain⟨d,e1,i,rfl,i0⟩:=qg (L:=[.int 1,.int 10,.int 100,.int 1000,.int 10000,.int 100000]) (P:=Pw) (fun x hx=>by
        simp only[List.mem_cons,List.not_mem_nil,or_false]at hx;rcases hx with rfl|rfl|rfl|rfl|rfl|rfl<;>exact⟨_,rfl,by decide,by decide⟩) (k:=(a:Int)) (by omega) (by show(a:Int)<6;exact ha)
      exact⟨rfl,rfl,_,rfl,_,e1,cdv m0 i0,m / i%10,rfl,by omega,by omega⟩
  rintro _ _ ⟨ts,tl,hts,rfl,rfl⟩;refine ye (λρ' O'=>∃ns,Ok3 ns/\ρ'=[some (.d (.int n)),some (.d (.str ⟨#[c]⟩)),some (.d (.int m)),some (.d (.tuple ns)),some (.d (.list ts))]/\O=O') (λR1 hR1=>?_) ?_
  · walk_at "wd"
    split
    · refine⟨_,rfl,by rw[List.length_map];omega,Num3,λw hw us hus=>?_,λds h1 h2=>?_⟩
      · obtain⟨t,ht,rfl⟩:=List.mem_map.1 hw
        obtain⟨i,rfl,i0,i1⟩:=hts t ht
        match us,hus with
        |[u],_=>
          obtain⟨d,e1,e2⟩:=qg (L:=[.int 1,.int 2,.int 3,.int 10,.int 21,.int 7,.int 0,.int 13,.int 24,.int 5]) (P:=Num3) (by decide) (k:=i) i0 i1;exact⟨rfl,rfl,_,rfl,_,e1,d,rfl,e2⟩
      · rw[List.length_map]at h1
        exact⟨_,rfl,_,yz _,_,YR,hR1 _ _ ⟨_,zd8 h2 (h1.trans tl) (by omega),rfl,rfl⟩⟩
    · exact hR1 _ _ ⟨ns,hns,rfl,rfl⟩
  rintro _ _ ⟨ns,hns,rfl,rfl⟩;refine ye (λρ' O'=>∃ns,Ok3 ns/\ρ'=[some (.d (.int n)),some (.d (.str ⟨#[c]⟩)),some (.d (.int m)),some (.d (.tuple ns)),some (.d (.list ts))]/\O=O') (λR1 hR1=>?_) ?_
  · walk_at "wd"
    split
    · refine⟨_,rfl,by rw[List.length_map];omega,Num3,λw hw us hus=>?_,λds h1 h2=>?_⟩
      · obtain⟨t,ht,rfl⟩:=List.mem_map.1 hw
        obtain⟨i,rfl,i0,i1⟩:=hts t ht
        match us,hus with
        |[u],_=>
          obtain⟨d,e1,e2⟩:=qg (L:=[.int 1,.int 2,.int 3,.int 2,.int 1,.int 3,.none,.int 0,.int 1,.int 2]) (P:=Num3) (by decide) (k:=i) i0 i1;exact⟨rfl,rfl,_,rfl,_,e1,d,rfl,e2⟩
      · rw[List.length_map]at h1
        exact⟨_,rfl,_,yz _,_,YR,hR1 _ _ ⟨_,zd8 h2 (h1.trans tl) (by omega),rfl,rfl⟩⟩
    · exact hR1 _ _ ⟨ns,hns,rfl,rfl⟩
  rintro _ _ ⟨ns,hns,rfl,rfl⟩;refine ye (λρ' O'=>∃ns,Ok3 ns/\ρ'=[some (.d (.int n)),some (.d (.str ⟨#[c]⟩)),some (.d (.int m)),some (.d (.tuple ns)),some (.d (.list ts))]/\O=O') (λR1 hR1=>?_) ?_
  · walk_at "wd"
    split
    · refine⟨_,rfl,by rw[List.length_map];omega,Num3,λw hw us hus=>?_,λds h1 h2=>?_⟩
      · obtain⟨t,ht,rfl⟩:=List.mem_map.1 hw
        obtain⟨i,rfl,i0,i1⟩:=hts t ht
        match us,hus with
        |[u],_=>
          obtain⟨d,e1,e2⟩:=qg (L:=[.none,.int 0,.int 1,.int 2,.int 3,.int 4,.int 5,.int 1,.int 3,.int 6]) (P:=Num3) (by decide) (k:=i) i0 i1;exact⟨rfl,rfl,_,rfl,_,e1,d,rfl,e2⟩
      · rw[List.length_map]at h1
        exact⟨_,rfl,_,yz _,_,YR,hR1 _ _ ⟨_,zd8 h2 (h1.trans tl) (by omega),rfl,rfl⟩⟩
    · exact hR1 _ _ ⟨ns,hns,rfl,rfl⟩
  rintro _ _ ⟨ns,hns,rfl,rfl⟩;refine ye (λρ' O'=>∃ns,Ok3 ns/\ρ'=[some (.d (.int n)),some (.d (.str ⟨#[c]⟩)),some (.d (.int m)),some (.d (.tuple ns)),some (.d (.list ts))]/\O=O') (λR1 hR1=>?_) ?_
  · walk_at "wd"
    split
    · refine⟨cdv m0 (by decide),hR1 _ _ ⟨[.int (1+m%6),.int (1+m / 6%12)],⟨λx hx=>?_,(by decide:2<=6),(by decide:1<=2)⟩,rfl,rfl⟩⟩
      simp only[List.mem_cons,List.not_mem_nil,or_false]at hx;rcases hx with rfl|rfl
      · exact⟨by omega,by omega⟩
      · exact⟨by omega,by omega⟩
    · exact hR1 _ _ ⟨ns,hns,rfl,rfl⟩
  rintro _ _ ⟨ns,hns,rfl,rfl⟩;refine ye (λρ' O'=>∃ns,Ok3 ns/\ρ'=[some (.d (.int n)),some (.d (.str ⟨#[c]⟩)),some (.d (.int m)),some (.d (.tuple ns)),some (.d (.list ts))]/\O=O') (λR1 hR1=>?_) ?_
  · walk_at "wd"
    split
    · obtain⟨d,e1,e2⟩:=qg (L:=[.int 1,.int 2,.int 5,.int 9,.int 30,.none]) (P:=Num3) (by decide) (k:=m%6) (by omega) (by show m%6<6;omega)
      refine⟨_,rfl,_,e1,_,rfl,(by decide:1<=1000),hR1 _ _ ⟨[d],⟨λx hx=>?_,(by decide:1<=6),(by decide:1<=1)⟩,rfl,rfl⟩⟩;cases List.mem_singleton.mp hx;exact e2
    · exact hR1 _ _ ⟨ns,hns,rfl,rfl⟩
  rintro _ _ ⟨ns,hns,rfl,rfl⟩;walk_at "wd";exact .inl (h c ns hc hns)
theorem QK(F:Fun K "_law_signs" "_law_signs" (top 104) f fd)(T:Txt P w K mg C bw):FnOk P w K mg base CX0 1 f fd ["_law_letter","_law_numbers_here"] (zb K sSgn3):=by
 have nd:=jZ.nd;apply F.okU jZ (by walk_at "ln") (λhr=>(zd (uT (i:=2) nd rfl rfl (xB (N:=["_law_number_here"]) (n:=1) (js:=[])) rfl (uN (K:=K) rfl (pv 1)) (λ_ _ _ _=>(z6 (i:=0) (show List.Nodup (["_law_number_here"]:List Str)by decide +kernel) rfl (Or.inl rfl))) (λ_ _ _ _=>yN) (λ_ _ _ _=>(yr (zM uR (pv 0) yF) zk (yB X1 (by rfl) T.n_str rfl (QA.pa (qc (pv 0) qn)))))) (za (zL (zu uE (zu uE zk (y8 (K:=K) rfl PySem.F.plainAttrs_str PySem.F.slot_str_join PySem.F.type_str_join (Zq (K:=K) rfl) zk (QA.pa (qc (pv 2) qn)))) (pv 0))))))
 .walk_at "ref"
 rintro _ O R ⟨k,ns,rfl,hns,h⟩;have hl:=hns.l;have hsum:=jE hns.n;walk_at "wd";refine⟨by omega,zdU,λm hm us hu=>?_,.inr (.inl ⟨rfl,_,rfl⟩),?_⟩
 .match us,hu with
  |[u],_=>
   have q:=hns.n m hm;cases m with
   |none=>exact⟨rfl,rfl,rfl⟩
   |int i=>exact⟨rfl,rfl,i,rfl,by have:=q.1;omega,by have:=q.2;omega,rfl⟩
   |_=>exact q.elim
 rw[kI hns.n];have jl:=U3 hns;have l1:(Str.ofString "~").length= 1:=by decide +kernel
 refine⟨ns.map numT,U2 _,by decide +kernel,by rw[List.length_map];omega,by rw[sizeLine_eq];omega,?_,.inl h⟩;have l3:(Str.ofString "~" ++ Txt.join (Str.ofString ";") (ns.map numT)).length=(Str.ofString "~").length+(Txt.join (Str.ofString ";") (ns.map numT)).length:=by
  rw[xo,xn,List.length_append];rfl
 have l2:(⟨#[k]⟩:Str).length= 1:=rfl;rw[l3,sizeLine_eq,l2];omega
seal PE PS PSs PT PA in
theorem Jl(F:Fun K "_law_read" "_law_read" (top 110) f fd)(T:Txt P w K mg C bw)(bz:Cal P w K mg base 3 "_law_row" [] (zb K sRow3))(c6:Cal P w K mg base 1 "_law_signs" [] (zb K sSgn3)):FnOk P w K mg base CX0 4 f fd ["_law_mixed_here"] (zb K sRd3):=by
 have nd:=k9.nd;apply F.okU k9 (by walk_at "ln") (λhr=>(zd (zZ 1 nd (zu yl (pv 0) zc)) (zd (zz (zM zU (pv 1) zc) (zd (zZ 2 nd (zY VY zk (zu yl (zu yw (pv 0) zc) zc))) (za (zL (yb (qc (yb (qc zk (qc (pv 2) qn))) (qc (zu zgf (pv 2) (zu yd zc (yB zaE (by rfl) T.n_int rfl (QA.pa (qc (xT zU (pv 2) zk) qn))))) qn)))))) zV) (zd (zz (zM zU (pv 1) zc) (za (zL (zY (yP (K:=K) rfl) (yJ (qc (yb (qc (yb (qc zk qn)) (qc zk qn))) (qc (yb (qc (yb (qc zk qn)) (qc zk qn))) qn))) (zu yl (zu yw (pv 0) zc) zc)))) zV) (zd (vZ (zj bz hr (qc (zu yw (pv 0) zc) qn)) (uO (K:=K) (n:=2) rfl rfl (yI (z6 (i:=3) nd rfl (Or.inl rfl)) (yI (z6 (i:=4) nd rfl (Or.inl rfl)) vF)))) (zd (zz (zM zU (pv 1) zc) (za (zZ 3 nd (zY VY zk (zu yl (zu yw (pv 0) zc) zc)))) zV) (za (zL (yb (qc (yb (qc zk (qc (pv 3) (qc (pv 4) qn)))) (qc (zj c6 hr (qc (pv 3) (qc (pv 4) qn))) qn)))))))))))
 .walk_at "ref"
 rintro _ O R ⟨n,rfl,n0,h⟩;refine xa [some (.d (.int n)),some (.d (.int (n%8))),none,none,none] (λR1 hR1=>?_) ?_
 .walk_at "wd"
  exact hR1
 refine Yw (λρ' O'=>ρ'=[some (.d (.int n)),some (.d (.int (n%8))),none,none,none]/\O=O') (λR1 hR1=>?_) ?_
 .walk_at "wd"
  split
  .obtain⟨x,e1,e2⟩:=QI (L:=(Str.ofString "ab~ #~z").cps.toList) (P:=λx=>x∈[97,98,126,32,35,122]) (by decide +kernel) (k:=n / 8%7) (by omega) (by rw[show(Str.ofString "ab~ #~z").cps.toList.length= 7 by decide +kernel];omega)
   obtain⟨g1,g2⟩:=zgZ x e2;refine⟨cdv n0 (by decide),by rw[sizeLine_eq];decide +kernel,x,e1,g1,?_⟩;rw[g2];have hx:∀x∈[97,98,126,32,35,122],x<128/\32<=x:=by decide
   exact .inl (h (.sign x) (hx x e2))
  .split
   .refine⟨cdv n0 (by decide),_,rfl,?_⟩
    rcases(by omega:n / 8%2=0\/n / 8%2=1)with e|e<;>rw[e]
    .exact⟨_,rfl,.inl (h .line trivial)⟩
    .exact⟨_,rfl,.inl (h .tab trivial)⟩
   .exact hR1 _ _ ⟨rfl,rfl⟩
 rintro _ _ ⟨rfl,rfl⟩;refine Yw (λρ' O'=>∃c ns,isLet c/\Ok3 ns/\ρ'=[some (.d (.int n)),some (.d (.int (n%8))),none,some (.d (.str ⟨#[c]⟩)),some (.d (.tuple ns))]/\O=O') (λR1 hR1=>?_) ?_
 .walk_at "wd"
  refine⟨cdv n0 (by decide),n / 8,rfl,by omega,λc ns hc hns=>⟨_,rfl,rfl,_,_,rfl,_,_,rfl,rfl,?_⟩⟩;split
  .obtain⟨x,e1,e2⟩:=QI (L:=(Str.ofString "abjnABCEFGHIJKLNOPQSVWX").cps.toList) (P:=isLet) (by decide +kernel) (k:=n / 8%23) (by omega) (by rw[show(Str.ofString "abjnABCEFGHIJKLNOPQSVWX").cps.toList.length= 23 by decide +kernel];omega)
   exact⟨cdv n0 (by decide),by rw[sizeLine_eq];decide +kernel,x,e1,hR1 _ _ ⟨x,ns,e2,hns,rfl,rfl⟩⟩
  .exact hR1 _ _ ⟨c,ns,hc,hns,rfl,rfl⟩
 rintro _ _ ⟨c,ns,hc,hns,rfl,rfl⟩;walk_at "wd";exact⟨c,ns,rfl,hns.ns,_,⟨_,rfl,rfl⟩,(by decide:2<=1000),.inl (h (.row c ns) ⟨hc,hns⟩)⟩
end
theorem uP{i:Int}(h0:-32<=i)(h1:i<32):PyData.strOk (strI i)=true:=by
 have key:∀k:_root_.Fin 64,PyData.strOk (strI ((k.val:Int)-32))=true:=by decide +kernel
 have q:=key ⟨(i+32).toNat,by omega⟩;have e:(((i+32).toNat:Nat):Int)-32 =i:=by omega
 rw[<-e];exact q
theorem vh{a b:Str}(ha:PyData.strOk a=true)(hb:PyData.strOk b=true):PyData.strOk (a++b)=true:=by
 unfold PyData.strOk at ha hb ⊢;rw[<-Array.all_toList]at ha hb ⊢;rw[xn,List.all_append,ha,hb];rfl
theorem zce :∀k:_root_.Fin 64,PyData.strOk (inkT (0+k.val))=true:=by decide +kernel
theorem zcf :∀k:_root_.Fin 64,PyData.strOk (inkT (64+k.val))=true:=by decide +kernel
theorem zcg :∀k:_root_.Fin 64,PyData.strOk (inkT (128+k.val))=true:=by decide +kernel
theorem zch :∀k:_root_.Fin 64,PyData.strOk (inkT (192+k.val))=true:=by decide +kernel
theorem zci :∀k:_root_.Fin 64,PyData.strOk (inkT (256+k.val))=true:=by decide +kernel
theorem zcj :∀k:_root_.Fin 64,PyData.strOk (inkT (320+k.val))=true:=by decide +kernel
theorem zck :∀k:_root_.Fin 64,PyData.strOk (inkT (384+k.val))=true:=by decide +kernel
theorem zcl :∀k:_root_.Fin 64,PyData.strOk (inkT (448+k.val))=true:=by decide +kernel
theorem zg0(h:n<512):PyData.strOk (inkT n)=true:=by
 have e:n=64*(n/64)+n%64:=by omega
 have hk:n%64<64:=by omega
 rcases(by omega:n/64=0\/n/64=1\/n/64=2\/n/64=3\/n/64=4\/n/64=5\/n/64=6\/n/64=7)with q|q|q|q|q|q|q|q<;>rw[e,q]
 .exact zce ⟨n%64,hk⟩
 .exact zcf ⟨n%64,hk⟩
 .exact zcg ⟨n%64,hk⟩
 .exact zch ⟨n%64,hk⟩
 .exact zci ⟨n%64,hk⟩
 .exact zcj ⟨n%64,hk⟩
 .exact zck ⟨n%64,hk⟩
 .exact zcl ⟨n%64,hk⟩
theorem zcm(hb:Bds S):PyData.strOk (plT S)=true:=by
 have b1:=hb.r0;have b2:=hb.r1;have b3:=hb.c0;have b4:=hb.c1;have b5:=hb.t0;have b6:=hb.tb;have b7:=hb.b1;have b8:=hb.l0;have b9:=hb.lr;have b10:=hb.rr;have b11:=hb.w2;have b12:=hb.h2;have s0:PyData.strOk (Str.ofString ";")=true:=by decide +kernel
 unfold plT;split
 .exact vh (vh (uP (by omega) (by omega)) s0) (uP (by omega) (by omega))
 .exact vh (vh (uP (by omega) (by omega)) s0) (uP (by omega) (by omega))
theorem zjG(hb:Bds S):PyData.strOk (szT S)=true:=by
 have b11:=hb.w2;have b12:=hb.h2;have s0:PyData.strOk (Str.ofString "x")=true:=by decide +kernel
 exact vh (vh (uP (by omega) (by omega)) s0) (uP (by omega) (by omega))
theorem zg1(hb:Bds S)(n:PyData):∀z∈ansD S n,PyData.strOk z=true:=by
 have i0:=hb.i0;have i1:=hb.i1;intro z hz;unfold ansD at hz;split at hz
 .cases List.mem_singleton.1 hz;exact zcm hb
 .split at hz
  .cases List.mem_singleton.1 hz;exact zcm hb
  .split at hz
   .cases List.mem_singleton.1 hz;exact zjG hb
   .split at hz
    .cases List.mem_singleton.1 hz;exact zg0 (by omega)
    .cases hz
 .cases hz
theorem zg2(hb:Bds S)(ns:List PyData):∀z∈ansL S ns,PyData.strOk z=true:=by
 intro z hz;unfold ansL at hz;obtain⟨l,hl,hz⟩:=List.mem_flatten.1 hz;obtain⟨n,_,rfl⟩:=List.mem_map.1 hl;exact zg1 hb n z hz
theorem zjH{r:Rea}(h:Good n S)(hr:OkR r):(∀z∈rdA r S,PyData.strOk z=true)/\(rdA r S).length<=6:=by
 cases r with
 |row c ns=>
  show(∀z∈(if c= 113 then ansL S ns else[]),PyData.strOk z=true)/\(if c= 113 then ansL S ns else[]).length<=6;split
  .exact⟨zg2 h.b ns,Nat.le_trans (Z6 ns) hr.2.l⟩
  .exact⟨λz hz=>(by cases hz),Nat.zero_le _⟩
 |_=>exact⟨λz hz=>(by cases hz),Nat.zero_le _⟩
theorem zg3{m k:Str}{v:W}{fs:List (Str×W)}(e:fs=[(k,v)])(h:(m==k)=false):fs.lookup m=none:=by
 rw[e];simp[List.lookup,h]
theorem zd9{m k j:Str}{v u:W}{fs:List (Str×W)}(e:fs=[(k,v),(j,u)])(h:(m==k)=false)(h':(m==j)=false):fs.lookup m=none:=by
 rw[e];simp[List.lookup,h,h']
theorem JX(h:Good n S):Lv 4 (.list (toldL S)):=by
 have hp:=h.a.1;have hl:Lv 3 S.last:=by
  rcases h.l with e|⟨c,e,hc⟩
  .rw[e];exact .none
  .rw[e];exact .str hc
 have up:∀{d:PyData},Lv 1 d->Lv 3 d:=λq=>⟨q.lay,Nat.le_trans q.dep (by decide),q.eq⟩;exact .list (.cons .int (.cons .int (.cons .int (.cons .int (.cons .bool (.cons .int (.cons .bool (.cons .bool (.cons .bool (.cons .int (.cons .int (.cons .int (.cons .int (.cons (up .ints) (.cons hl (.cons (.grid hp) (.cons .int .nil)))))))))))))))))
inductive sDoes (C cS cL cT cR:Addr) (ws:List W) (O:OM) (R:WK):Prop
 |mk:∀r n d A B S,ws=[.own d,.d (rdD r),.own A.x,.own B.x]->DAt cS cL cT cR O d r->OkR r->n<=60->6<=n->At O C A S->At O C B S->Dj A.l B.l->Good n S->(∀A' B' O',A'.x=A.x->B'.x=B.x->At O' C A' (rdS' r S)->At O' C B' (rdS' r S)->Dj A'.l B'.l->Fr O O' (A.l++B.l) (A'.l++B'.l)->R (.d (.bool true)) O')->sDoes C cS cL cT cR ws O R
section
variable {w:World}{bw cD cS cL cT cR:Addr}
seal PE PS PSs PT PA in
theorem Jm(F:Fun K "_law_does" "_law_does" (top 113) f fd)(T:Txt P w K mg C bw)(D:Dds K mg cD cS cL cT cR)(zlt:CalT P w K mg base 6 "do" cS (zb K (sDeedDo C (aS cS))))(zll:CalT P w K mg base 5 "do" cL (zb K (sDeedDo C (aL cL))))(zlw:CalT P w K mg base 3 "do" cT (zb K (sDeedDo C (aT cT))))(zlr:CalT P w K mg base 8 "do" cR (zb K (sDeedDo C (aR cR))))(c7:Cal P w K mg base 8 "_law_called" [] (zb K (sCalled C)))(w8:Cal P w K mg base 1 "_law_told" [] (zb K (sTold21 C))):FnOk P w K mg base CX0 9 f fd ["_law_deed","_law_read_here","_law_state","_law_other"] (zb K (sDoes C cS cL cT cR)):=by
 have nd:=Za.nd;apply F.okU Za (by walk_at "ln") (λhr=>(zd (zZ 4 nd (ji (qt zlt hr (pv 0) (qc (pv 2) qn)) (ji (qt zll hr (pv 0) (qc (pv 2) qn)) (ji (qt zlw hr (pv 0) (qc (pv 2) qn)) (qt zlr hr (pv 0) (qc (pv 2) qn)))))) (zd (zz (PW.pt (uC (uQ (yL (yf (ziO (K:=K) rfl) (by rfl) T.n_isinstance (by rfl) (QA.pa (qc (pv 4) (qc (YW (v:=.ty "list") (u:=.type "list") rfl T.n_list rfl rfl) qn)))))) (vY (zM (Ur (K:=K) rfl hr.units) (pv 4) (zj c7 hr (qc (pv 3) (qc (pv 1) qn))))))) (za (zL yq)) zV) (zd (zq (y8 (K:=K) rfl PySem.F.plainAttrs_list PySem.F.slot_list_append PySem.F.type_list_append xq (pv 4) (QA.pa (qc zk qn)))) (za (zL (xT (Yp (K:=K) rfl hr.units) (zj w8 hr (qc (pv 2) qn)) (zj w8 hr (qc (pv 3) qn)))))))))
 .walk_at "ref"
 rintro _ O R ⟨r,n,d,A,B,S,rfl,hd,hok,hn,hn6,hA,hB,hAB,hG,h⟩;refine ye (λρ' O'=>∃q st' kp',ρ'=[some (.own d),some (.d (rdD r)),some (.own A.x),some (.own B.x),some (.own q)]/\O q=none/\O' q=some (.lst (((rdA r S).map .str).map .d))/\q≠kp'/\Nxt O O' C A.x A.dx A.p A.st A.kp st' kp' (rdS' r S)) (λR1 hR1=>?_) ?_
 .have go:∀q st' kp' O',O q=none->O' q=some (.lst (((rdA r S).map .str).map .d))->q≠kp'->Nxt O O' C A.x A.dx A.p A.st A.kp st' kp' (rdS' r S)->R1 [some (.own d),some (.d (rdD r)),some (.own A.x),some (.own B.x),some (.own q)] O':=λq st' kp' O' a1 a2 a3 a4=>hR1 _ _ ⟨q,st',kp',rfl,a1,a2,a3,a4⟩
  cases r with
  |sign c=>
   obtain⟨dx,hd⟩:=hd;exact .inl ⟨d,dx,_,rfl,hd,zg3 rfl (by decide +kernel),.sign c,n,d,A.x,A.dx,A.p,A.st,A.kp,S,rfl,⟨c,dx,rfl,hd⟩,hok,by omega,hn6,hA,hG,go⟩
  |line=>
   obtain⟨dx,hd⟩:=hd;exact .inr (.inl ⟨d,dx,_,rfl,hd,rfl,.line,n,d,A.x,A.dx,A.p,A.st,A.kp,S,rfl,⟨dx,rfl,hd⟩,hok,by omega,hn6,hA,hG,go⟩)
  |tab=>
   obtain⟨dx,hd⟩:=hd;exact .inr (.inr (.inl ⟨d,dx,_,rfl,hd,rfl,.tab,n,d,A.x,A.dx,A.p,A.st,A.kp,S,rfl,⟨dx,rfl,hd⟩,hok,by omega,hn6,hA,hG,go⟩))
  |row c ns=>
   obtain⟨dx,hd⟩:=hd;exact .inr (.inr (.inr ⟨d,dx,_,rfl,hd,zd9 rfl (by decide +kernel) (by decide +kernel),.row c ns,n,d,A.x,A.dx,A.p,A.st,A.kp,S,rfl,⟨c,ns,dx,rfl,hd⟩,hok,by omega,hn6,hA,hG,go⟩))
 rintro _ O1 ⟨q,st1,kp1,rfl,hq0,hq1,nqk,N1⟩;obtain⟨okA,lenA⟩:=zjH hG hok;have lvA:=Lv.strs okA;have hG1:=hG.rd hn6 hok;have f1:=N1.fr;obtain⟨hB1,dB1⟩:=f1.at hB hAB.symm;have nqA:q∉Sd.l ⟨A.x,A.dx,A.p,st1,kp1⟩:=by
  show q∉[A.x,A.p,st1,kp1];simp only[List.mem_cons,List.not_mem_nil,or_false,not_or];exact⟨λe=>(by rw[e,hA.x]at hq0;cases hq0),λe=>(by rw[e,hA.p]at hq0;cases hq0),neW hq1 N1.s.st (by intro h;cases h),nqk⟩
 have nqB:q∉B.l:=λz=>by
  obtain⟨o,e⟩:=hB.nn q z;rw[hq0]at e;cases e
 refine ye (λρ' O'=>∃st2 kp2,ρ'=[some (.own d),some (.d (rdD r)),some (.own A.x),some (.own B.x),some (.own q)]/\Nxt O1 O' C B.x B.dx B.p B.st B.kp st2 kp2 (rdS' r S)) (λR1 hR1=>?_) ?_
 .walk_at "wd"
  refine⟨⟨_,hq1⟩,r,n,B.x,B.dx,B.p,B.st,B.kp,S,rfl,hok,by omega,hn6,hB1,hG,λv st2 kp2 O2 dv N2=>?_⟩;have hq2:=(N2.fr q _ hq1 nqB).1;refine⟨_,U4 hq2,_,dv,lvA.sh (by decide),lvA.sh (by decide),?_⟩;rw[if_pos lvA.eq];exact hR1 _ _ ⟨st2,kp2,rfl,N2⟩
 rintro _ O2 ⟨st2,kp2,rfl,N2⟩;have f2:=N2.fr;obtain⟨hq2,nqB2⟩:=f2 q _ hq1 nqB;obtain⟨hA2,dA2⟩:=f2.at (U:=⟨A.x,A.dx,A.p,st1,kp1⟩) N1.s dB1.symm;refine ye (λρ' O'=>ρ'=[some (.own d),some (.d (rdD r)),some (.own A.x),some (.own B.x),some (.own q)]/\O'=updO O2 q (.lst (((rdA r S++[Str.ofString "more"]).map .str).map .d))) (λR1 hR1=>?_) ?_
 .walk_at "wd"
  refine⟨.inl ⟨rfl,by simp[yc,hq2]⟩,_,?_,hR1 _ _ ⟨rfl,rfl⟩⟩;simp only[ZQ,hq2];rw[if_pos (by simp;omega)];simp
 rintro _ _ ⟨rfl,rfl⟩;have hA3:=hA2.upd (o:=.lst (((rdA r S++[Str.ofString "more"]).map .str).map .d)) nqA;have hB3:At (updO O2 q (.lst (((rdA r S++[Str.ofString "more"]).map .str).map .d))) C ⟨B.x,B.dx,B.p,st2,kp2⟩ (rdS' r S):=At.upd (A:=⟨B.x,B.dx,B.p,st2,kp2⟩) N2.s nqB2;have tl:=JX hG1;walk_at "wd";have eo:List.map (W.d∘PyData.str) (rdA r S)++[W.d (PyData.str (Str.ofString "more"))]=((rdA r S++[Str.ofString "more"]).map PyData.str).map W.d:=by
  rw[List.map_map,List.map_append];rfl
 rw[eo];refine⟨n+1,A.x,A.dx,A.p,st1,kp1,_,rfl,hA3,hG1,by omega,n+1,B.x,B.dx,B.p,st2,kp2,_,rfl,hB3,hG1,by omega,_,rfl,_,rfl,tl.sh (by decide),tl.sh (by decide),?_⟩;rw[tl.eq];refine .inl (h ⟨A.x,A.dx,A.p,st1,kp1⟩ ⟨B.x,B.dx,B.p,st2,kp2⟩ _ rfl rfl hA3 hB3 dA2 ?_);have g1:Fr O O1 (A.l++B.l) (Sd.l ⟨A.x,A.dx,A.p,st1,kp1⟩++B.l):=Fr.app f1 hB.nn hAB.symm;have g2:Fr O1 O2 (B.l++Sd.l ⟨A.x,A.dx,A.p,st1,kp1⟩) (Sd.l ⟨B.x,B.dx,B.p,st2,kp2⟩++Sd.l ⟨A.x,A.dx,A.p,st1,kp1⟩):=Fr.app f2 (At.nn (A:=⟨A.x,A.dx,A.p,st1,kp1⟩) N1.s) dB1.symm;exact(g1.trans g2.sw).upd hq0
end
structure TxtR (K:W.Frag) (mg:Str->Option Value) (C:Addr):Prop where
 n_len:mg "len" =none
 n_int:mg "int" =none
 n_any:mg "any" =none
 n_tuple:mg "tuple" =none
 g_MOST_NUMBERS:∃t,mg "MOST_NUMBERS" =some (.int 6 t)
 g_MOST_FIGURES:∃t,mg "MOST_FIGURES" =some (.int 3 t)
 g_OPENING:∃t,mg "OPENING" =some (.str "~" t)
 mgC:mg "Reader" =some (.ref C)
 st:Rdr K C
section
variable {w:World}
theorem zcn(F:Fun K "parted" "parted" (top 94) f fd)(T:TxtR K mg C):FnOk P w K mg base CX0 1 f fd ["body"] (zb K zbw):=by
  have nd:=X7.nd;apply F.okU X7 (by walk_at "ln") (λhr=>(zd (zZ 1 nd (y8 (K:=K) rfl PySem.F.plainAttrs_str PySem.F.slot_str_split PySem.F.type_str_split zdy (pv 0) (QA.pa (qc zk qn)))) (zd (zz (PW.pt (uC (zM Z9 (yf (je (K:=K) rfl) (by rfl) T.n_len (by rfl) (QA.pa (qc (pv 1) qn))) (qo rfl T.g_MOST_NUMBERS)) (vY (yL (yf (ziy (K:=K) rfl rfl) (by rfl) T.n_any (by rfl) (QA.pa (qc (vV (xB (N:=["part"]) (n:=1) (js:=[])) rfl (xv (K:=K) rfl (pv 1)) (λ_ _ _ _=>(z6 (i:=0) (show List.Nodup (["part"]:List Str)by decide +kernel) rfl (Or.inl rfl))) (λ_ _ _ _=>yN) (λ_ _ _ _=>(xT Z9 (yf V1 (by rfl) T.n_len (by rfl) (QA.pa (qc (pv 0) qn))) (qo rfl T.g_MOST_FIGURES)))) qn))))))) (za (zL yF)) zV) (za (zL (yB (ko (K:=K) rfl) (by rfl) T.n_tuple rfl (QA.pa (qc (vV (xB (N:=["part"]) (n:=1) (js:=[])) rfl (xv (K:=K) rfl (pv 1)) (λ_ _ _ _=>(z6 (i:=0) (show List.Nodup (["part"]:List Str)by decide +kernel) rfl (Or.inl rfl))) (λ_ _ _ _=>yN) (λ_ _ _ _=>(yr (xJ (K:=K) rfl (pv 0) (λ_=>rfl)) (yB zbp (by rfl) T.n_int rfl (QA.pa (qc (pv 0) qn))) yF))) qn))))))))
  · walk_at "ref"
  rintro _ O R ⟨z,rfl,hz,h⟩;have hsp:=PyProof.Rows.split_le z xU;have es:Str.ofString ";" =xU:=rfl;have hz1:=hz.1;refine xa [some (.d (.str z)),some (.d (.list ((Txt.split z xU).map .str)))] (λR1 hR1=>?_) ?_
  · walk_at "wd"
    refine⟨.inr (.inl ⟨rfl,_,rfl⟩),?_⟩;rw[es];exact⟨by decide,by omega,hR1⟩
  have hw:=QY z;have hok:∀p∈Txt.split z xU,okD p/\p.length<=100000:=λp hp=>zdG hz hp;have hpd:vv z=qr ((Txt.split z xU).map (·.cps.toList)):=by unfold vv;rw[hw]
  rw[hpd]at h
  generalize Txt.split z xU=ps at *
  have e1:(ps.map PyData.str).map W.d=ps.map λp=>W.d (.str p):=by rw[List.map_map];rfl
  have mem:∀{w:W},w∈(ps.map PyData.str).map W.d->∃p∈ps,w=.d (.str p):=λ{w} hw=>by
    rw[e1]at hw;obtain⟨p,hp,rfl⟩:=List.mem_map.1 hw;exact⟨p,hp,rfl⟩
  walk_at "wd";refine⟨ps.length,by simp[ZP,yS,yc],?_⟩;by_cases h6:6<ps.length
  · rw[if_pos (by omega)]
    have h0:=h;unfold qr at h0;rw[if_pos (.inl (by simpa using h6))]at h0;exact .inl h0
  rw[if_neg (by omega)];refine⟨_,rfl,by simp;omega,λv=>match v with|.d (.str p)=>some (.bool (decide (3<(p.length:Int))))|_=>none,?_,ps.map (λp=>decide (3<(p.length:Int))),?_,?_⟩
  · intro w hw us hu
    obtain⟨u,rfl⟩:=List.length_eq_one_iff.1 hu;obtain⟨p,hp,rfl⟩:=mem hw;exact⟨rfl,rfl,p,rfl,by have:=(hok p hp).2;rw[sizeLine_eq];omega,rfl⟩
  · rw[e1,zbt ps _ _ (λp=>.bool (decide (3<(p.length:Int)))) (λ_=>rfl)]
    show some (List.map W.d _)=_;rw[List.map_map,List.map_map];rfl
  split
  · rename_i ht
    obtain⟨p,hp,e⟩:=List.mem_map.1 ht;have h0:=h;unfold qr at h0;rw[if_pos (.inr (List.any_eq_true.mpr ⟨p.cps.toList,List.mem_map.2 ⟨p,hp,rfl⟩,by have:=of_decide_eq_true e;rw[<-xo];exact decide_eq_true (by omega)⟩))]at h0;exact .inl h0
  · rename_i ht
    have hs:∀p∈ps,p.length<=3:=λp hp=>by
      rcases Nat.lt_or_ge 3 p.length with z|z
      · exact absurd (List.mem_map.2 ⟨p,hp,decide_eq_true (by omega)⟩) ht
      · exact z
    have h0:=h;unfold qr at h0;rw [if_neg (by
      rintro(z|z)
      · exact h6 (by simpa using z)
      · obtain⟨w,hw,e⟩:=List.any_eq_true.mp z
        obtain⟨p,hp,rfl⟩:=List.mem_map.1 hw;have:=hs p hp;have:=of_decide_eq_true e;rw[<-xo]at this;omega)]at h0
    refine⟨_,rfl,by simp;omega,λv=>match v with|.d (.str p)=>some (ul p.cps.toList)|_=>none,?_,?_⟩
    · intro w hw us hu
      obtain⟨u,rfl⟩:=List.length_eq_one_iff.1 hu;obtain⟨p,hp,rfl⟩:=mem hw;obtain⟨hd,hl⟩:=hok p hp;have hls:p.length<=sizeLine:=by rw[sizeLine_eq];omega
      have hs3:=hs p hp;refine⟨rfl,rfl,?_⟩;by_cases hp0:p.cps.toList=[]
      · have z0:p.length= 0:=by rw[xo,hp0];rfl
        refine .inl ⟨?_,hls,?_⟩
        · show some (p.length != 0)=some false
          rw[z0];rfl
        · show some (W.d PyData.none)=some (W.d (ul p.cps.toList))
          unfold ul;rw[if_pos hp0]
      · have z0:p.length≠0:=λe=>hp0 (List.length_eq_zero_iff.mp (by rw[<-xo];exact e))
        have hn:=PySem.intText_digits (x:=p) hd hp0 (by omega);refine .inr ⟨?_,hls,?_⟩
        · show some (p.length != 0)=some true
          simp[z0]
        · refine⟨p,rfl,_,hn,by omega,?_⟩
          show some (W.d (PyData.int _))=some (W.d (ul p.cps.toList));unfold ul;rw[if_neg hp0]
    · refine⟨ps.map λp=>ul p.cps.toList,?_,?_⟩
      · rw[e1,zbt ps _ _ (λp=>ul p.cps.toList) (λ_=>rfl)]
        simp only[vk,yS,yc,Option.bind_some,yz]
      · rw[List.map_map]at h0
        exact .inl h0
theorem QL(F:Fun K "is_figure" "is_figure" (top 92) f fd)(T:TxtR K mg C):FnOk P w K mg base CX0 1 f fd ["sign"] (zb K ze0):=by
 have nd:=k4.nd;apply F.okU k4 (by walk_at "ln") (λhr=>(za (zL (vG vg vg zk (pv 0) zk))))
 .walk_at "ref"
 rintro _ O R ⟨c,rfl,h⟩;have c0:(Str.ofString "0").cps= #[48]:=by decide +kernel
 have c9:(Str.ofString "9").cps= #[57]:=by decide +kernel
 walk_at "wd";rw[c0,c9];simp only[leA,ltA];by_cases q:48<=c
 .rw[if_pos q,show(!decide (57<c))=decide (vw c)by unfold vw;by_cases z:57<c<;>simp[z,q]<;>omega]
  exact .inl h
 .rw[if_neg q,show false=decide (vw c)from(decide_eq_false λz=>by have:=z.1;omega).symm]
  exact .inl h
theorem QM(F:Fun K "is_letter" "is_letter" (top 93) f fd)(T:TxtR K mg C):FnOk P w K mg base CX0 1 f fd ["sign"] (zb K zeZ):=by
 have nd:=k5.nd;apply F.okU k5 (by walk_at "ln") (λhr=>(za (zL (zeg (vG vg vg zk (pv 0) zk) (j4 (vG vg vg zk (pv 0) zk))))))
 .walk_at "ref"
 rintro _ O R ⟨c,rfl,h⟩;have ca:(Str.ofString "a").cps= #[97]:=by decide +kernel
 have cz:(Str.ofString "z").cps= #[122]:=by decide +kernel
 have cA':(Str.ofString "A").cps= #[65]:=by decide +kernel
 have cZ:(Str.ofString "Z").cps= #[90]:=by decide +kernel
 walk_at "wd";rw[ca,cz,cA',cZ];simp only[leA,ltA];have fin:∀k:Bool,k=decide (isLet c)->Clo R (.d (.bool k)) O:=λk e=>.inl (by rw[e];exact h);by_cases q:97<=c
 .rw[if_pos q]
  by_cases q2:122<c
  .refine .inl ⟨q2,?_⟩
   rw[if_pos (by omega)];exact fin _ (by rw[decide_eq_true (show 90<c by omega)];exact(decide_eq_false λz=>by rcases z with z|z<;>omega).symm)
  .exact .inr ⟨by omega,fin _ (decide_eq_true (Or.inl ⟨q,by omega⟩)).symm⟩
 .rw[if_neg q]
  by_cases q2:65<=c
  .rw[if_pos q2]
   by_cases z:90<c
   .exact fin _ (by rw[decide_eq_true z];exact(decide_eq_false λz=>by rcases z with z|z<;>omega).symm)
   .exact fin _ (by rw[decide_eq_false z];exact(decide_eq_true (Or.inr ⟨q2,by omega⟩)).symm)
  .rw[if_neg q2]
   exact fin _ (decide_eq_false λz=>by rcases z with z|z<;>omega).symm
theorem Vs(F:Fun K "sign_alone" "sign_alone" (top 95) f fd)(T:TxtR K mg C):FnOk P w K mg base CX0 1 f fd ["sign"] (zb K Xd):=by
 have nd:=jX.nd;apply F.okU jX (by walk_at "ln") (λhr=>(zd (zz (zM zU (pv 0) zk) (za (zL (yb (qc zk qn)))) zV) (zd (zz (zM zU (pv 0) zk) (za (zL (yb (qc zk qn)))) zV) (za (zL (yb (qc zk (qc (pv 0) qn))))))))
 .walk_at "ref"
 rintro _ O R ⟨c,rfl,h⟩;have en:Str.ofString "\n" =⟨#[10]⟩:=by decide +kernel
 have et:Str.ofString "\t" =⟨#[9]⟩:=by decide +kernel
 walk_at "wd";unfold ue at h;rw[en,et];simp only[UK];by_cases q:c= 10
 .rw[if_pos q]at h ⊢;exact .inl h
 .rw[if_neg q]at h ⊢
  by_cases q2:c= 9
  .rw[if_pos q2]at h ⊢;exact .inl h
  .rw[if_neg q2]at h ⊢;exact .inl h
theorem XB(F:Fun K "__init__" "Reader.__init__" xV f fd)(T:TxtR K mg C):FnOk P w K mg base CX0 1 f fd ["self"] (zb K (zbx C)):=by
 have nd:=uf.nd;apply F.okU uf (by walk_at "ln") (λhr=>(za (fs K (pv 0) (yD qn))))
 .walk_at "ref"
 rintro _ O R ⟨x,dx,rfl,hx,h⟩;walk_at "wd";intro p hp;have e1:p≠x:=λe=>by rw[e,hx]at hp;cases hp
 refine⟨C,dx,[],by rw[ze (Ne.symm e1)];exact hx,T.st.cl,T.st.n_begun,by decide,.inl (h p _ hp ⟨zf,by rw[ze e1,zf];rfl⟩ λa ha hpp=>by rw[ze ha,ze hpp])⟩
theorem Zc(F:Fun K "open_row" "Reader.open_row" xW f fd)(T:TxtR K mg C):FnOk P w K mg base CX0 1 f fd ["self"] (zb K (UH C)):=by
 have nd:=ug.nd;apply F.okU ug (by walk_at "ln") (λhr=>(za (zL (y8 (K:=K) rfl PySem.F.plainAttrs_str PySem.F.slot_str_join PySem.F.type_str_join (Zq (K:=K) rfl) zk (QA.pa (qc (fl K (pv 0)) qn))))))
 .walk_at "ref"
 rintro _ O R ⟨x,dx,p,b,rfl,hx,hl,h⟩;walk_at "wd";refine⟨.inr (.inl ⟨rfl,_,rfl⟩),C,dx,_,hx.x,T.st.cl,T.st.n_begun,_,xL,b.map sgS,?_,by decide,?_,?_⟩
 .simp only[yc,hx.p,List.map_map]
  rfl
 .rw[JJ λx hx=>by obtain⟨c,_,rfl⟩:=List.mem_map.1 hx;rfl,List.length_map]
  omega
 .have e:Txt.join (Str.ofString "") (b.map sgS)=⟨b.toArray⟩:=zdI b
  rw[e];exact .inl h
theorem Zy(F:Fun K "end_row" "Reader.end_row" x8 f fd)(T:TxtR K mg C)(c8:Cal P w K mg base 1 "parted" [] (zb K zbw))(zlo:CalT P w K mg base 1 "open_row" C (zb K (UH C))):FnOk P w K mg base CX0 2 f fd ["self","letter"] (zb K (KL C)):=by
 have nd:=uB.nd;apply F.okU uB (by walk_at "ln") (λhr=>(zd (zZ 2 nd (zj c8 hr (qc (x0 zgh (vc zlo (hr.mono (by decide)) (pv 0)) (va zc) uL) qn))) (zd (fs K (pv 0) (yD qn)) (za (zL (yr (zM uR (pv 2) yF) (yD qn) (yD (qc (yb (qc zk (qc (pv 1) (qc (pv 2) qn)))) qn))))))))
 .walk_at "ref"
 rintro _ O R ⟨x,dx,p,b,c,rfl,hx,hb,hg,hl,h⟩;have hz:zdF ⟨(b.drop 1).toArray⟩:=⟨by show(b.drop 1).toArray.size<=100000;rw[List.size_toArray,List.length_drop];omega,hg⟩;have hlen:(⟨b.toArray⟩:Str).length<=sizeLine:=by show b.toArray.size<=sizeLine;rw[List.size_toArray,sizeLine_eq];omega
 have hsl:=KM hb;walk_at "wd";refine⟨dx,_,hx.x,by simp;decide,x,dx,p,b,rfl,hx,hl,_,rfl,hlen,?_⟩;rw[hsl];refine⟨_,rfl,hz,λp' hp'=>?_⟩;have e1:p'≠x:=λe=>by rw[e,hx.x]at hp';cases hp'
 refine⟨C,dx,_,by rw[ze (Ne.symm e1)];exact hx.x,T.st.cl,T.st.n_begun,by simp,?_⟩;have ep:yo (Str.ofString "begun") (W.own p') [(Str.ofString "begun",W.own p)]=[(Str.ofString "begun",.own p')]:=by simp[yo]
 rw[ep];obtain⟨n1,n2,n3⟩:=zbz hx hp' [] rfl;have hrw:rwD b c=if ziJ (vv ⟨(b.drop 1).toArray⟩)=true then[]else[.tuple [.str (Str.ofString "row"),.str (sgS c),vv ⟨(b.drop 1).toArray⟩]]:=rfl
 rcases zdC ⟨(b.drop 1).toArray⟩with e|⟨ds,e,_,_⟩
 .rw[e]at hrw ⊢
  have hrw2:rwD b c=[]:=hrw;rw[if_pos rfl];intro q hq;obtain⟨r1,r2,r3,r4,r5⟩:=kz (L:=[]) n1 n2 n3 hq;exact .inl (h q p' _ r1 r2 hp' r3 r4 (by rw[hrw2];exact r5))
 .rw[e]at hrw ⊢
  have hrw2:rwD b c=[.tuple [.str (Str.ofString "row"),.str (sgS c),.tuple ds]]:=hrw;rw[if_neg (by intro z;cases z)];refine⟨_,⟨_,rfl,rfl⟩,by show 3<=1000;omega,λq hq=>?_⟩;obtain⟨r1,r2,r3,r4,r5⟩:=kz (L:=[.d (.tuple [.str (Str.ofString "row"),.str (sgS c),.tuple ds])]) n1 n2 n3 hq;exact .inl (h q p' _ r1 r2 hp' r3 r4 (by rw[hrw2];exact r5))
theorem j0(F:Fun K "read_sign" "Reader.read_sign" xM f fd)(T:TxtR K mg C)(cb:Cal P w K mg base 1 "is_letter" [] (zb K zeZ))(zln:CalT P w K mg base 2 "end_row" C (zb K (KL C)))(ce:Cal P w K mg base 1 "is_figure" [] (zb K ze0))(cf:Cal P w K mg base 1 "sign_alone" [] (zb K Xd)):FnOk P w K mg base CX0 3 f fd ["self","sign"] (zb K (UI C)):=by
 have nd:=vD.nd;apply F.okU vD (by walk_at "ln") (λhr=>(zd (zz (PW.pt (j3 (xJ (K:=K) rfl (fl K (pv 0)) (λ_=>rfl)) (qZ (yL (zj cb hr (qc (pv 1) qn)))))) (za (zL (qt zln hr (pv 0) (qc (pv 1) qn)))) zV) (zd (zz (PW.pt (j3 (xJ (K:=K) rfl (fl K (pv 0)) (λ_=>rfl)) (qZ (PW.pt (uC (yL (zj ce hr (qc (pv 1) qn))) (vY (zM zU (pv 1) zk))))))) (zd (zq (y8 (K:=K) rfl PySem.F.plainAttrs_list PySem.F.slot_list_append PySem.F.type_list_append JR (fl K (pv 0)) (QA.pa (qc (pv 1) qn)))) (za (zL (yD qn)))) zV) (zd (zZ 2 nd (xT zU (yf (je (K:=K) rfl) (by rfl) T.n_len (by rfl) (QA.pa (qc (fl K (pv 0)) qn))) zc)) (zd (fs K (pv 0) (yD qn)) (zd (zz (PW.pt (uC (zM Vx (pv 1) (zkn rfl T.g_OPENING)) (vY (yL (pv 2))))) (za (zL (yD (qc (zj cf hr (qc (pv 1) qn)) qn)))) zV) (zd (zq (y8 (K:=K) rfl PySem.F.plainAttrs_list PySem.F.slot_list_append PySem.F.type_list_append JR (fl K (pv 0)) (QA.pa (qc (pv 1) qn)))) (za (zL (yD qn))))))))))
 .walk_at "ref"
 rintro _ O R ⟨x,dx,p,b,c,rfl,hx,hg,hl,h⟩;have hT:∀{a:W}{k:Bool},a=.own p->(!decide (b=[]))=k->Y4 O a=some k:=λe1 e2=>by
  subst e1 e2;simp only[Y4,hx.p];cases b<;>rfl
 refine ye (λρ' O'=>¬(b≠[]/\isLet c)/\ρ'=[some (.own x),some (sgW c),none]/\O=O') (λR1 hR1=>?_) ?_
 .by_cases hb:b=[]
  .walk_at "wd"
   exact⟨C,dx,_,hx.x,T.st.cl,T.st.n_begun,_,xL,.inl ⟨by simp[hx.p,hb],trivial,hR1 _ _ ⟨λz=>z.1 hb,rfl,rfl⟩⟩⟩
  .walk_at "wd"
   refine⟨C,dx,_,hx.x,T.st.cl,T.st.n_begun,_,xL,.inr ⟨by simp[hx.p,hb],trivial,c,rfl,?_⟩⟩;show if decide (isLet c)=true then _ else _
   by_cases hlc:isLet c
   .have hS:rdS b c=([],rwD b c):=if_pos ⟨hb,hlc⟩
    rw[hS]at h;rw[if_pos (decide_eq_true hlc)];exact⟨dx,_,hx.x,by simp;decide,x,dx,p,b,c,rfl,hx,hb,hg,by omega,λq p' O' r1 r2 r3 r4 r5 r6=>.inl (h q p' O' r1 r2 (.inr r3) r4 r5 r6)⟩
   .rw[if_neg (by simpa using hlc)]
    exact hR1 _ _ ⟨λz=>hlc z.2,rfl,rfl⟩
 rintro _ _ ⟨q1,rfl,rfl⟩;have es:Str.ofString ";" =⟨#[59]⟩:=by decide +kernel
 have eo:Str.ofString "~" =⟨#[126]⟩:=by decide +kernel
 refine ye (λρ' O'=>¬(b≠[]/\(vw c\/c= 59))/\ρ'=[some (.own x),some (sgW c),none]/\O=O') (λR1 hR1=>?_) ?_
 .by_cases hb:b=[]
  .walk_at "wd"
   exact⟨C,dx,_,hx.x,T.st.cl,T.st.n_begun,_,xL,.inl ⟨by simp[hx.p,hb],trivial,hR1 _ _ ⟨λz=>z.1 hb,rfl,rfl⟩⟩⟩
  .walk_at "wd"
   refine⟨C,dx,_,hx.x,T.st.cl,T.st.n_begun,_,xL,.inr ⟨by simp[hx.p,hb],trivial,c,rfl,?_⟩⟩;have put:=zbA hx (b++[c]);have ea:ZS O (.own p) (sgW c)=some (updO O p (.lst ((b++[c]).map sgW))):=by
    simp only[ZS,hx.p];rw[if_pos (by rw[List.length_map];omega),List.map_append];rfl
   have yes:(vw c\/c= 59)->∃C dx fs,O x=some (.ins C dx fs)/\Cls K C/\NoAttr K C (Str.ofString "begun")/\∃w,List.lookup (Str.ofString "begun") fs=some w/\tyW "list" O w/\∃x,ZS O w (sgW c)=some x/\∀(p:Addr),x p=none->Clo R (.own p) (updO x p (.lst [])):=λz=>by
    have hS:rdS b c=(b++[c],[]):=by unfold rdS;rw[if_neg q1,if_pos ⟨hb,z⟩]
    rw[hS]at h;refine⟨C,dx,_,hx.x,T.st.cl,T.st.n_begun,_,xL,.inl ⟨rfl,by simp[yc,hx.p]⟩,_,ea,λq hq=>?_⟩;obtain⟨r1,r2,r3,r4,r5⟩:=kz (L:=[]) put.1 put.2.1 put.2.2 hq;exact .inl (h q p _ r1 r2 (.inl rfl) r3 r4 r5)
   show if decide (vw c)=true then _ else _
   by_cases hf:vw c
   .rw[if_pos (decide_eq_true hf)];exact yes (.inl hf)
   .rw[if_neg (by simpa using hf),es]
    simp only[UK];by_cases h59:c= 59
    .rw[if_pos h59];exact yes (.inr h59)
    .rw[if_neg h59]
     refine hR1 _ _ ⟨λz=>?_,rfl,rfl⟩;rcases z.2 with z|z
     .exact hf z
     .exact h59 z
 rintro _ _ ⟨q2,rfl,rfl⟩;have hS:rdS b c=if c≠126\/b.length= 1 then([],[ue c])else([126],[]):=by
  unfold rdS;rw[if_neg q1,if_neg q2]
 rw[hS]at h;refine Yw (λρ' O'=>ρ'=[some (.own x),some (sgW c),some (.d (.bool (decide (b.length= 1))))]/\∃p',O p'=none/\O'=updO (updO O p' (.lst [])) x (.ins C dx [(Str.ofString "begun",.own p')])) (λR1 hR1=>?_) ?_
 .walk_at "wd"
  refine⟨C,dx,_,hx.x,T.st.cl,T.st.n_begun,_,xL,b.length,by simp[ZP,yS,yc,hx.p],λp' hp'=>?_⟩;have e1:p'≠x:=λe=>by rw[e,hx.x]at hp';cases hp'
  refine⟨C,dx,_,by rw[ze (Ne.symm e1)];exact hx.x,T.st.cl,T.st.n_begun,by simp,?_⟩;have ep:yo (Str.ofString "begun") (W.own p') [(Str.ofString "begun",W.own p)]=[(Str.ofString "begun",.own p')]:=by simp[yo]
  rw[ep];exact hR1 _ _ ⟨by rw[show decide ((b.length:Int)= 1)=decide (b.length= 1)from decide_eq_decide.mpr (by omega)],p',hp',rfl⟩
 rintro _ O1 ⟨rfl,p',hp',e1⟩;obtain⟨n1,n2,n3⟩:=zbz hx hp' [] e1;walk_at "wd";have al:(c≠126\/b.length= 1)->Xd [sgW c] O1 λx O1=>∀(p:Addr),O1 p=none->Clo R (.own p) (updO O1 p (.lst [x])):=λz=>by
  rw[if_pos z]at h;refine⟨c,rfl,λq hq=>?_⟩;obtain⟨r1,r2,r3,r4,r5⟩:=kz (L:=[.d (ue c)]) n1 n2 n3 hq;exact .inl (h q p' _ r1 r2 (.inr hp') r3 r4 r5)
 rw[eo];simp only[UK];by_cases hc:c= 126
 .rw[if_pos hc]
  by_cases hl1:b.length= 1
  .rw[if_pos hl1];exact al (.inr hl1)
  .rw[if_neg hl1]
   rw[if_neg (by rintro(z|z);exact z hc;exact hl1 z)]at h;have ea:ZS O1 (.own p') (sgW c)=some (updO O1 p' (.lst ([126].map sgW))):=by
    simp only[ZS,n1.p];rw[if_pos (by simp),hc];rfl
   obtain⟨m1,m2,m3⟩:=zbA n1 [126];refine⟨C,dx,_,n1.x,T.st.cl,T.st.n_begun,_,xL,.inl ⟨rfl,by simp[yc,n1.p]⟩,_,ea,λq hq=>?_⟩;have m4:Ho O (updO O1 p' (.lst ([126].map sgW))) x p:=λa ha h1 h2=>by
    rw[ze (λe=>ha (by rw[e];exact hp'))];exact n2 a ha h1 h2
   obtain⟨r1,r2,r3,r4,r5⟩:=kz (L:=[]) m1 m4 (λa ha=>n3 a (m3 a ha)) hq;exact .inl (h q p' _ r1 r2 (.inr hp') r3 r4 r5)
 .rw[if_neg hc];exact al (.inl hc)
theorem XC(F:Fun K "read" "Reader.read" uy f fd)(T:TxtR K mg C)(zlq:CalT P w K mg base 3 "read_sign" C (zb K (UI C))):FnOk P w K mg base CX0 4 f fd ["self","text"] (zb K (UJ C)):=by
 have nd:=jn.nd;apply F.okU jn (by walk_at "ln") (λhr=>(zd (zZ 2 nd (yD qn)) (zd (y9 PassesOwn.never rfl (zix (pv 1)) (z6 (i:=3) nd rfl (Or.inl rfl)) (za (zq (y8 (K:=K) rfl PySem.F.plainAttrs_list PySem.F.slot_list_extend PySem.F.type_list_extend zaO (pv 2) (QA.pa (qc (qt zlq hr (pv 0) (qc (pv 3) qn)) qn)))))) (za (zL (pv 2))))))
 .walk_at "ref"
 rintro _ O R ⟨x,dx,p,b,z,rfl,hx,hg,hz,hl,h⟩;have hsg:∀i w,(jC z)[i]? =some w->∃c,z.cps.toList[i]? =some c/\w=sgW c:=λi w e=>by
  unfold jC at e;rw[List.getElem?_map]at e;obtain⟨c,e1,rfl⟩:=Option.map_eq_some_iff.mp e;exact⟨c,e1,rfl⟩
 have hsl:(jC z).length=z.cps.toList.length:=by unfold jC;rw[List.length_map]
 have hzl:z.length=z.cps.toList.length:=rfl;have hz':=hz;walk_at "wd";refine λfo hfo=>⟨by simpa using hz',?_⟩;have e0:fo≠x:=λe=>by rw[e,hx.x]at hfo;cases hfo
 have e1:fo≠p:=λe=>by rw[e,hx.p]at hfo;cases hfo
 refine yU.by (λi ρ O'=>(∃v3,ρ=[some (.own x),some (.d (.str z)),some (.own fo),v3])/\O' fo=some (.lst ((rdF b (z.cps.toList.take i)).2.map .d))/\Ho O O' x p/\∃p',RdAt C O' x dx p' (rdF b (z.cps.toList.take i)).1/\(p'=p\/O p'=none)/\fo≠p') ⟨⟨_,rfl⟩,zf,λa ha _ _=>by rw[ze (λe=>ha (by rw[e];exact hfo))],p,⟨by rw[ze (Ne.symm e0)];exact hx.x,by rw[ze (Ne.symm e1)];exact hx.p⟩,.inl rfl,e1⟩ (λi ρ O' h=>trivial) ?_ ?_
 .rintro i w _ O2 e ⟨⟨v3,rfl⟩,hf2,ho2,p2,hx2,hp2,hfp⟩ R2 hR2
  obtain⟨c,hc,rfl⟩:=hsg i w e;have hi:=(List.getElem?_eq_some_iff.mp hc).1;have et:z.cps.toList.take (i+1)=z.cps.toList.take i++[c]:=by rw[List.take_succ,hc];rfl
  obtain⟨g1,g2,g3⟩:=zbv (z.cps.toList.take i) hg;rw[List.length_take]at g2 g3;have hsn:=UG b (z.cps.toList.take i) c;rw[<-et]at hsn;obtain⟨g4,g5,g6⟩:=zbu g1 c;simp only[vn];walk_at "wd";refine⟨.inl ⟨rfl,by simp[yc,hf2]⟩,dx,_,hx2.x,by simp;decide,x,dx,p2,_,c,rfl,hx2,g1,by omega,λq p3 O3 r1 r2 r3 r4 r5 r6=>?_⟩;have hf3:O3 fo=_:=(r2 fo (by rw[hf2];simp) e0 hfp).trans hf2;have ff:fo≠p3:=λe=>by
   rcases r3 with z|z
   .exact hfp (e.trans z)
   .rw[<-e,hf2]at z;cases z
  refine⟨q,rfl,_,hf3,_,r6,by rw[List.length_map,List.length_map];omega,hR2 _ _ ⟨⟨_,rfl⟩,?_,λa ha h1 h2=>?_,p3,⟨?_,?_⟩,?_,ff⟩⟩
  .rw[zf,hsn,List.map_append]
  .have n1:a≠fo:=λe=>ha (by rw[e];exact hfo)
   have n2:O2 a=O a:=ho2 a ha h1 h2;have n3:a≠p2:=λe=>by
    rcases hp2 with z|z
    .exact h2 (e.trans z)
    .exact ha (by rw[e];exact z)
   rw[ze n1,r2 a (by rw[n2];exact ha) h1 n3,n2]
  .rw[ze (Ne.symm e0)];exact r1.x
  .rw[ze (Ne.symm ff),hsn];exact r1.p
  .rcases r3 with z|z
   .rw[z];exact hp2
   .by_cases y:p3=p
    .exact .inl y
    .refine .inr (Classical.byContradiction λn=>?_)
     have nx:p3≠x:=λe=>by rw[e,hx2.x]at z;cases z
     rw[ho2 p3 n nx y]at z;exact n z
 .rintro _ O2 ⟨⟨v3,rfl⟩,hf2,ho2,p2,hx2,hp2,hfp⟩
  rw[hsl,List.take_length]at hf2 hx2;walk_at "wd";have d1:∀a,a≠fo->del O2 fo a=O2 a:=λa ha=>by unfold del;rw[if_neg ha]
  exact .inr ⟨_,_,rfl,hf2,h p2 _ ⟨by rw[d1 _ (Ne.symm e0)];exact hx2.x,by rw[d1 _ (Ne.symm hfp)];exact hx2.p⟩ (λa ha h1 h2=>by rw[d1 a (λe=>ha (by rw[e];exact hfo))];exact ho2 a ha h1 h2) hp2⟩
end
theorem zfg{wd hg:Nat}(w1:1<=wd)(w2:wd<=24)(h1:1<=hg)(h2:hg<=12):Good 6 (st0 wd hg λ_ _=>blank 0):=by
 refine⟨?_,⟨Nat.zero_le _,λk hk=>by cases hk⟩,⟨λi j _ _=>(by decide +kernel:PyData.strOk (blank 0).1 =true),rfl,rfl⟩,.inl rfl,Yz w2⟩;constructor<;>simp only[st0]<;>first|decide|omega
noncomputable def sLaw21:SpW:=λws O R=>∃ns:List Int,ws=[.d (.list (ns.map .int))]/\ns.length<=63/\∀O',R (.d (.bool true)) O'
inductive Iv (C x y sl:Addr) (n:Nat) (ρ:WS) (O:OM):Prop
 |mk:∀A B U V S T v0 v1 v2 v6 v7 v8 v9 v10 v11 v12 v13,A.x=x->B.x=y->ρ=[v0,v1,v2,some (.own x),some (.own y),some (.own sl),v6,v7,v8,v9,v10,v11,v12,v13]->Q4 O C A B U V sl S T->Good n S->Good n T->Iv C x y sl n ρ O
section
variable {w:World}{bw cD cS cL cT cR cQ:Addr}
seal PE PS PSs PT PA in
theorem zjI(F:Fun K "law" "law" (top 114) f fd)(T:Txt P w K mg C bw)(D:Dds K mg cD cS cL cT cR)(cg:Cal P w K mg base 1 "_law_size" [] (zb K sSizeM))(aq:Cal P w K mg base 1 "_law_mixed" [] (zb K sMixM))(ci:Cal P w K mg base 1 "_law_at" [] (zb K Y9))(ai:CalM P w K mg base 4 "State" C (zb K (sInit C)))(cj:Cal P w K mg base 4 "_law_read" [] (zb K sRd3))(ck:Cal P w K mg base 3 "deed_of" [] (zb K (sDeedOf cS cL cT cR)))(cm:Cal P w K mg base 3 "_law_by_hand" [] (zb K (sDeedOf cS cL cT cR)))(cn:Cal P w K mg base 1 "_law_class_right" [] (zb K (sRight cS cL cT cR)))(zlu:CalT P w K mg base 1 "signs" cS (zb K (sSigns (aS cS))))(zlm:CalT P w K mg base 1 "signs" cL (zb K (sSigns (aL cL))))(zlx:CalT P w K mg base 1 "signs" cT (zb K (sSigns (aT cT))))(zls:CalT P w K mg base 1 "signs" cR (zb K (sSigns (aR cR))))(cp:CalM P w K mg base 1 "Reader" cQ (zb K (zbx cQ)))(zlp:CalT P w K mg base 4 "read" cQ (zb K (UJ cQ)))(am:Cal P w K mg base 9 "_law_does" [] (zb K (sDoes C cS cL cT cR)))(cr:CalN K mg "Deed" cD)(zlj:CalT P w K mg base 1 "do" cD (zb K sNoDo))(zlk:CalT P w K mg base 1 "signs" cD (zb K sNoSigns))(w8:Cal P w K mg base 1 "_law_told" [] (zb K (sTold21 C))):FnOk P w K mg base CX0 10 f fd ["_law_script"] (zb K sLaw21):=by
 have nd:=zb6.nd;apply F.okU zb6 (by walk_at "ln") (λhr=>(zd (vZ (zj cg hr (qc (zj aq hr (qc (zj ci hr (qc (pv 0) (qc zc qn))) (qc zc qn))) qn)) (uO (K:=K) (n:=2) rfl rfl (yI (z6 (i:=1) nd rfl (Or.inl rfl)) (yI (z6 (i:=2) nd rfl (Or.inl rfl)) vF)))) (zd (zZ 3 nd (uc ai (hr.mono (by decide)) rfl (QA.pa (qc (pv 1) (qc (pv 2) qn))))) (zd (zZ 4 nd (uc ai (hr.mono (by decide)) rfl (QA.pa (qc (pv 1) (qc (pv 2) qn))))) (zd (zZ 5 nd (yD (qc (uc ai (hr.mono (by decide)) rfl (QA.pa (qc zc (qc zc qn)))) (qc (uc ai (hr.mono (by decide)) rfl (QA.pa (qc zc (qc zc qn)))) qn)))) (zd (y9 PassesOwn.never rfl (zdm (K:=K) rfl rfl T.n_enumerate (QA.pa (qc (x0 (kd (K:=K) rfl) (pv 0) (va zc) (va zc)) qn))) (uO (K:=K) (n:=2) rfl rfl (yI (z6 (i:=6) nd rfl (Or.inl rfl)) (yI (z6 (i:=7) nd rfl (Or.inl rfl)) vF))) (zd (zZ 8 nd (zj aq hr (qc (pv 7) (qc (pv 6) qn)))) (zd (vZ (zj cj hr (qc (pv 8) qn)) (uO (K:=K) (n:=2) rfl rfl (yI (z6 (i:=9) nd rfl (Or.inl rfl)) (yI (z6 (i:=10) nd rfl (Or.inl rfl)) vF)))) (zd (zZ 11 nd (yD (qc (zj ck hr (qc (pv 9) qn)) (qc (zj cm hr (qc (pv 9) qn)) qn)))) (zd (y9 PassesOwn.never rfl (xv (K:=K) rfl (pv 11)) (z6 (i:=12) nd rfl (Or.inl rfl)) (za (zz (PW.pt (uC (uQ (yL (zj cn hr (qc (pv 12) (qc (pv 9) qn))))) (vY (zM (Ur (K:=K) rfl hr.units) (ji (vc zlu (hr.mono (by decide)) (pv 12)) (ji (vc zlm (hr.mono (by decide)) (pv 12)) (ji (vc zlx (hr.mono (by decide)) (pv 12)) (vc zls (hr.mono (by decide)) (pv 12))))) (pv 10))))) (za (zL yq)) zV))) (zd (zz (zM Vx (yf (JL (K:=K) rfl hr.gd hr.units) (by rfl) T.n_repr (by rfl) (QA.pa (qc (qt zlp hr (zgk cp (hr.mono (by decide)) rfl) (qc (pv 10) qn)) qn))) (yf (JL (K:=K) rfl hr.gd hr.units) (by rfl) T.n_repr (by rfl) (QA.pa (qc (yJ (qc (pv 9) qn)) qn)))) (za (zL yq)) zV) (zd (zZ 12 nd (zY (yP (K:=K) rfl) (pv 11) (zu yl (zu yw (pv 8) zc) zc))) (zd (zz (PW.pt (uC (uQ (yL (zj am hr (qc (pv 12) (qc (pv 9) (qc (pv 3) (qc (pv 4) qn))))))) (vY (uQ (yL (zj am hr (qc (pv 12) (qc (pv 9) (qc (zY (yP (K:=K) rfl) (pv 5) zc) (qc (zY (yP (K:=K) rfl) (pv 5) zc) qn)))))))))) (za (zL yq)) zV) (za (zz (PW.pt (j3 (zM zU (zu yl (zu yw (pv 8) zc) zc) zc) (qZ (uQ (yL (zj am hr (qc (pv 12) (qc (pv 9) (qc (pv 3) (qc (pv 4) qn)))))))))) (za (zL yq)) zV)))))))))) (zd (zZ 13 nd (jh cr rfl)) (za (zL (j5 (xT (Yp (K:=K) rfl hr.units) (qt zlj hr (pv 13) (qc (pv 3) qn)) (yJ qn)) (j5 (xT zU (vc zlk (hr.mono (by decide)) (pv 13)) zk) (j4 (xT (Yp (K:=K) rfl hr.units) (zj w8 hr (qc (pv 3) qn)) (zj w8 hr (qc (pv 4) qn)))))))))))))))
 .walk_at "ref"
 rintro _ O R ⟨ns,rfl,hlen,h⟩;refine ye (λρ' O'=>∃wd hg:Nat,1<=wd/\wd<=24/\1<=hg/\hg<=12/\ρ'=[some (.d (.list (ns.map .int))),some (.d (.int wd)),some (.d (.int hg)),none,none,none,none,none,none,none,none,none,none,none]/\O=O') (λR1 hR1=>?_) ?_
 .walk_at "wd"
  exact⟨ns,rfl,0,rfl,_,1,rfl,by decide,by decide,λn n0 _=>⟨n,rfl,n0,λwd hg a b c e=>⟨_,rfl,rfl,_,_,rfl,_,_,rfl,rfl,hR1 _ _ ⟨wd,hg,a,b,c,e,rfl,rfl⟩⟩⟩⟩
 rintro _ _ ⟨wd,hg,w1,w2,h1,h2,rfl,rfl⟩;refine ye (λρ' O'=>∃A:Sd,ρ'=[some (.d (.list (ns.map .int))),some (.d (.int wd)),some (.d (.int hg)),some (.own A.x),none,none,none,none,none,none,none,none,none,none]/\At O' C A (st0 wd hg λ_ _=>blank 0)) (λR1 hR1=>?_) ?_
 .walk_at "wd"
  exact λx dx hx=>⟨x,dx,wd,hg,rfl,zf,w1,w2,h1,h2,λp st kp O' _ _ _ hs _=>⟨rfl,hR1 _ _ ⟨⟨x,dx,p,st,kp⟩,rfl,hs⟩⟩⟩
 rintro _ O1 ⟨A,rfl,hA1⟩;refine ye (λρ' O'=>∃B:Sd,ρ'=[some (.d (.list (ns.map .int))),some (.d (.int wd)),some (.d (.int hg)),some (.own A.x),some (.own B.x),none,none,none,none,none,none,none,none,none]/\At O' C B (st0 wd hg λ_ _=>blank 0)/\At O' C A (st0 wd hg λ_ _=>blank 0)/\Dj A.l B.l) (λR1 hR1=>?_) ?_
 .walk_at "wd"
  refine λx dx hx=>⟨x,dx,wd,hg,rfl,zf,w1,w2,h1,h2,λp st kp O' n1 n2 n3 hs hf=>⟨rfl,?_⟩⟩;obtain⟨k1,k2⟩:=ZU (dx:=dx) hx n1 n2 n3 hf;exact hR1 _ _ ⟨⟨x,dx,p,st,kp⟩,rfl,hs,hA1.old k1,(Dj.new k2 hA1.nn).symm⟩
 rintro _ O2 ⟨B,rfl,hB2,hA2,dAB⟩;refine ye (λρ' O'=>∃U V sl,ρ'=[some (.d (.list (ns.map .int))),some (.d (.int wd)),some (.d (.int hg)),some (.own A.x),some (.own B.x),some (.own sl),none,none,none,none,none,none,none,none]/\Q4 O' C A B U V sl (st0 wd hg λ_ _=>blank 0) (st0 6 3 λ_ _=>blank 0)) (λR1 hR1=>?_) ?_
 .walk_at "wd"
  refine λx dx hx=>⟨x,dx,6,3,rfl,zf,by decide,by decide,by decide,by decide,λp st kp O' n1 n2 n3 hs hf=>⟨rfl,λx' dx' hx'=>⟨x',dx',6,3,rfl,zf,by decide,by decide,by decide,by decide,λp' st' kp' O'' m1 m2 m3 hs' hf'=>⟨rfl,λsl hsl=>?_⟩⟩⟩⟩;obtain⟨k1,k2⟩:=ZU (dx:=dx) hx n1 n2 n3 hf;obtain⟨j1,j2⟩:=ZU (dx:=dx') hx' m1 m2 m3 hf';have o1:Old O2 O'':=k1.trans j1;have hU:At O' C ⟨x,dx,p,st,kp⟩ (st0 6 3 λ_ _=>blank 0):=hs;have hV:At O'' C ⟨x',dx',p',st',kp'⟩ (st0 6 3 λ_ _=>blank 0):=hs';have u:Old O'' (updO O'' sl (.lst [.own x,.own x'])):=Old.up hsl;have nin:∀{l:List Addr},(∀a∈l,∃o,O'' a=some o)->sl∉l:=λhl z=>by
   obtain⟨o,e⟩:=hl sl z;rw[hsl]at e;cases e
  have app:∀{l m:List Addr},(∀a∈l,∃o,O'' a=some o)->(∀a∈m,∃o,O'' a=some o)->∀a∈l++m,∃o,O'' a=some o:=λh1 h2 a ha=>(List.mem_append.mp ha).elim (h1 a) (h2 a);have a1:=hA2.old o1;have a2:=hB2.old o1;have a3:=hU.old j1;have dU:Dj (Sd.l ⟨x,dx,p,st,kp⟩) (A.l++B.l):=(kK (Dj.new k2 hA2.nn).symm (Dj.new k2 hB2.nn).symm).symm;have dV:Dj (Sd.l ⟨x',dx',p',st',kp'⟩) (A.l++B.l):=(kK (Dj.new j2 (hA2.old k1).nn).symm (Dj.new j2 (hB2.old k1).nn).symm).symm;exact hR1 _ _ ⟨⟨x,dx,p,st,kp⟩,⟨x',dx',p',st',kp'⟩,sl,rfl,⟨a1.old u,a2.old u,a3.old u,hV.old u,zf,dAB,(Dj.new j2 hU.nn).symm,kK dU dV,nin (app a1.nn a2.nn),nin (app a3.nn hV.nn)⟩⟩
 rintro _ O3 ⟨U,V,sl,rfl,q3⟩;refine ye (λρ' O'=>Iv C A.x B.x sl 40 ρ' O') (λR1 hR1=>?_) ?_
 .walk_at "wd"
  have hcm:∀d∈x4 (ns.map PyData.int) (some 1) (some 17),∃n∈ns,d=.int n:=λd hd=>by
   unfold x4 at hd;obtain⟨n,hn,rfl⟩:=List.mem_map.1 (List.mem_of_mem_drop (List.mem_of_mem_take hd));exact⟨n,hn,rfl⟩
  have hcl:(x4 (ns.map PyData.int) (some 1) (some 17)).length<=16:=by
   unfold x4;rw[List.length_take];have e1:HT.sIx (ns.map PyData.int).length (ns.map PyData.int).length (some 17)=min 17 (ns.map PyData.int).length:=HT.sIx_nat _ _ 17;have e2:HT.sIx (ns.map PyData.int).length 0 (some 1)=min 1 (ns.map PyData.int).length:=HT.sIx_nat _ _ 1;rw[e1,e2];omega
  generalize hcu:x4 (ns.map PyData.int) (some 1) (some 17)=cu at hcl hcm
  refine⟨_,rfl,_,yz _,?_⟩;rw[hcu];refine⟨_,rfl,_,yz _,?_⟩;refine yU.by (λi ρ O'=>Iv C A.x B.x sl (6+2*i) ρ O') ⟨A,B,U,V,_,_,_,_,_,_,_,_,_,_,_,_,_,rfl,rfl,rfl,q3,zfg w1 w2 h1 h2,zfg (by decide) (by decide) (by decide) (by decide)⟩ (λ_ _ _ _=>rfl) ?_ ?_
  .rintro i u _ O5 hu ⟨A,B,U,V,S,T,v0,v1,v2,v6,v7,v8,v9,v10,v11,v12,v13,ex,ey,rfl,q5,hS,hT⟩ R2 hR2
   rw[List.getElem?_zipWith]at hu;cases hr:(List.range cu.length)[i]? with
   |none=>rw[hr]at hu;cases hu
   |some k=>
   rw[hr]at hu;cases hdi:cu[i]? with
   |none=>rw[hdi]at hu;cases hu
   |some dd=>
   rw[hdi]at hu;cases hu;have hk:=List.mem_range.mp (List.mem_of_getElem? hr);have hik:i<cu.length:=(List.getElem?_eq_some_iff.1 hdi).1;have k1:(k:Int)<=1000:=by omega
   obtain⟨c,_,rfl⟩:=hcm dd (List.mem_of_getElem? hdi);simp only[zdc,Kt,zda,vn,yS];refine⟨_,rfl,rfl,_,_,rfl,_,_,rfl,rfl,?_⟩;rw[<-ex,<-ey]at *;clear ex ey;refine ye (λρ' O'=>∃n:Int,0<=n/\ρ'=[v0,v1,v2,some (.own A.x),some (.own B.x),some (.own sl),some (.d (.int k)),some (.d (.int c)),some (.d (.int n)),v9,v10,v11,v12,v13]/\O5=O') (λR3 hR3=>?_) ?_
   .walk_at "wd"
    exact⟨c,k,rfl,by omega,k1,λn n0 _=>hR3 _ _ ⟨n,n0,rfl,rfl⟩⟩
   rintro _ _ ⟨n,n0,rfl,rfl⟩;refine ye (λρ' O'=>∃r,OkQ r/\ρ'=[v0,v1,v2,some (.own A.x),some (.own B.x),some (.own sl),some (.d (.int k)),some (.d (.int c)),some (.d (.int n)),some (.d (rdD r)),some (.d (.str (rdT r))),v11,v12,v13]/\O5=O') (λR3 hR3=>?_) ?_
   .walk_at "wd"
    exact⟨n,rfl,n0,λr hr=>⟨_,rfl,rfl,_,_,rfl,_,_,rfl,rfl,hR3 _ _ ⟨r,hr,rfl,rfl⟩⟩⟩
   rintro _ _ ⟨r,hrq,rfl,rfl⟩;have hok:=hrq.r;refine ye (λρ' O'=>∃d1 d2 dl,ρ'=[v0,v1,v2,some (.own A.x),some (.own B.x),some (.own sl),some (.d (.int k)),some (.d (.int c)),some (.d (.int n)),some (.d (rdD r)),some (.d (.str (rdT r))),some (.own dl),v12,v13]/\DAt cS cL cT cR O' d1 r/\DAt cS cL cT cR O' d2 r/\O' dl=some (.lst [.own d1,.own d2])/\Old O5 O') (λR3 hR3=>?_) ?_
   .walk_at "wd"
    refine⟨r,rfl,hok,λd1 O' n1 g1 o1=>⟨r,rfl,hok,λd2 O'' n2 g2 o2 dl n3=>hR3 _ _ ⟨d1,d2,dl,rfl,(g1.old o2).old (Old.up n3),g2.old (Old.up n3),zf,(o1.trans o2).trans (Old.up n3)⟩⟩⟩
   rintro _ O6 ⟨d1,d2,dl,rfl,hd1,hd2,hdl,o6⟩;refine ye (λρ' O'=>∃v12,ρ'=[v0,v1,v2,some (.own A.x),some (.own B.x),some (.own sl),some (.d (.int k)),some (.d (.int c)),some (.d (.int n)),some (.d (rdD r)),some (.d (.str (rdT r))),some (.own dl),v12,v13]/\Old O6 O') (λR3 hR3=>?_) ?_
   .walk_at "wd"
    have hsl:∀O',Old O6 O'->yc O' (.own dl)=some [.own d1,.own d2]:=λO' o=>by
     have e:=(o dl (by rw[hdl];simp)).trans hdl;simp only[yc,e]
    refine⟨_,hsl O6 Old.refl,?_⟩;refine yU.by (λi ρ O'=>∃v12,ρ=[v0,v1,v2,some (.own A.x),some (.own B.x),some (.own sl),some (.d (.int k)),some (.d (.int c)),some (.d (.int n)),some (.d (rdD r)),some (.d (.str (rdT r))),some (.own dl),v12,v13]/\Old O6 O') ⟨_,rfl,Old.refl⟩ (λi ρ O' h=>by obtain⟨_,_,o⟩:=h;exact hsl O' o) ?_ ?_
    .rintro j u _ O7 hu ⟨w12,rfl,o7⟩ R4 hR4
     obtain⟨d,rfl,hd6⟩:∃d,u=.own d/\DAt cS cL cT cR O6 d r:=by
      have:=List.mem_of_getElem? hu;simp only[List.mem_cons,List.not_mem_nil,or_false]at this;rcases this with rfl|rfl
      .exact⟨_,rfl,hd1⟩
      .exact⟨_,rfl,hd2⟩
     have hd7:=hd6.old o7;simp only[vn];walk_at "wd";have lv:Lv 1 (.str (rdT r)):=.str (zb0 (U9 hrq).1);have sh:=lv.sh (by decide);refine⟨r,d,rfl,hd7,hok,λO' o=>(iff_of_eq (if_pos rfl)).mpr ?_⟩;have hd':=hd7.old o;cases r with
     |sign cc=>
      obtain⟨dd,e⟩:=hd';exact .inl ⟨dd,_,e,λa b hab=>by cases List.mem_singleton.mp hab;decide +kernel,.sign cc,d,rfl,⟨cc,dd,rfl,e⟩,hok,λO'' o'=>⟨_,rfl,_,rfl,sh,sh,(iff_of_eq (if_pos lv.eq)).mpr (hR4 _ _ ⟨_,rfl,(o7.trans o).trans o'⟩)⟩⟩
     |line=>
      obtain⟨dd,e⟩:=hd';exact .inr (.inl ⟨dd,_,e,λa b hab=>(by cases hab),.line,d,rfl,⟨dd,rfl,e⟩,hok,λO'' o'=>⟨_,rfl,_,rfl,sh,sh,(iff_of_eq (if_pos lv.eq)).mpr (hR4 _ _ ⟨_,rfl,(o7.trans o).trans o'⟩)⟩⟩)
     |tab=>
      obtain⟨dd,e⟩:=hd';exact .inr (.inr (.inl ⟨dd,_,e,λa b hab=>(by cases hab),.tab,d,rfl,⟨dd,rfl,e⟩,hok,λO'' o'=>⟨_,rfl,_,rfl,sh,sh,(iff_of_eq (if_pos lv.eq)).mpr (hR4 _ _ ⟨_,rfl,(o7.trans o).trans o'⟩)⟩⟩))
     |row cc ms=>
      obtain⟨dd,e⟩:=hd';refine .inr (.inr (.inr ⟨dd,_,e,λa b hab=>?_,.row cc ms,d,rfl,⟨cc,ms,dd,rfl,e⟩,hok,λO'' o'=>⟨_,rfl,_,rfl,sh,sh,(iff_of_eq (if_pos lv.eq)).mpr (hR4 _ _ ⟨_,rfl,(o7.trans o).trans o'⟩)⟩⟩));rcases List.mem_cons.mp hab with z|z
      .cases z;decide +kernel
      .cases List.mem_singleton.mp z;decide +kernel
    .rintro _ O7 ⟨w12,rfl,o7⟩
     exact hR3 _ _ ⟨w12,rfl,o7⟩
   rintro _ O7 ⟨w12,rfl,o7⟩;refine ye (λρ' O'=>ρ'=[v0,v1,v2,some (.own A.x),some (.own B.x),some (.own sl),some (.d (.int k)),some (.d (.int c)),some (.d (.int n)),some (.d (rdD r)),some (.d (.str (rdT r))),some (.own dl),w12,v13]/\Old O7 O') (λR3 hR3=>?_) ?_
   .walk_at "wd"
    refine λx dx hx=>⟨x,dx,rfl,zf,λp O' n1 g1 g2=>⟨rfl,?_⟩⟩;obtain⟨i1,i2,i3⟩:=zgn hx n1 g2;refine⟨dx,_,g1.x,λa b hab=>by cases List.mem_singleton.mp hab;decide +kernel,x,dx,p,[],rdT r,rfl,g1,Xc,(U9 hrq).1,by have:=(U9 hrq).2;show 0+_<=_;omega,λp' O'' g3 g4 g5=>?_⟩;obtain⟨j1,j2⟩:=ziL i1 hx i2 g1 g4 g5;rw[zgP hrq];obtain⟨z1,z2,z3,z4⟩:=(zfc hrq).rep (by decide) (by decide);rw[Bool.and_eq_true]at z1;have z5:PyData.hasDict (.list [rdD r])=false:=(zfc hrq).hd;refine⟨_,rfl,z1.1,z5,z2,z3,z4,_,rfl,z1.1,z5,z2,z3,z4,?_⟩;rw[if_pos rfl];exact hR3 _ _ ⟨rfl,j1⟩
   rintro _ O8 ⟨rfl,o8⟩;have o68:=o7.trans o8;refine ye (λρ' O'=>∃d,ρ'=[v0,v1,v2,some (.own A.x),some (.own B.x),some (.own sl),some (.d (.int k)),some (.d (.int c)),some (.d (.int n)),some (.d (rdD r)),some (.d (.str (rdT r))),some (.own dl),some (.own d),v13]/\DAt cS cL cT cR O8 d r/\O8=O') (λR3 hR3=>?_) ?_
   .walk_at "wd"
    have e8:yc O8 (.own dl)=some [.own d1,.own d2]:=by
     have e:=(o68 dl (by rw[hdl];simp)).trans hdl;simp only[yc,e]
    refine⟨cdv n0 (by decide),_,e8,?_⟩;rcases(by omega:n / 4096%2=0\/n / 4096%2=1)with e|e<;>rw[e]
    .exact⟨_,rfl,hR3 _ _ ⟨d1,rfl,hd1.old o68,rfl⟩⟩
    .exact⟨_,rfl,hR3 _ _ ⟨d2,rfl,hd2.old o68,rfl⟩⟩
   rintro _ _ ⟨d,rfl,hd8,rfl⟩;have q8:=q5.old (o6.trans o68);refine ye (λρ' O'=>∃A' B' U' V',A'.x=A.x/\B'.x=B.x/\ρ'=[v0,v1,v2,some (.own A.x),some (.own B.x),some (.own sl),some (.d (.int k)),some (.d (.int c)),some (.d (.int n)),some (.d (rdD r)),some (.d (.str (rdT r))),some (.own dl),some (.own d),v13]/\Q4 O' C A' B' U' V' sl (rdS' r S) (rdS' r T)/\DAt cS cL cT cR O' d r) (λR3 hR3=>?_) ?_
   .walk_at "wd"
    refine⟨r,6+2*i,d,A,B,S,rfl,hd8,hok,by omega,by omega,q8.a,q8.b,q8.ab,hS,λA' B' O' ex ey a1 a2 a3 f=>?_⟩;have q':=q8.one a1 a2 a3 f;have hd':=hd8.fr f (by rw[List.mem_append,not_or];exact⟨hd8.nin q8.a,hd8.nin q8.b⟩);have e:yc O' (.own sl)=some [.own U.x,.own V.x]:=by simp only[yc,q'.ls]
    refine(iff_of_eq (if_pos rfl)).mpr ⟨_,e,_,rfl,_,e,_,rfl,r,6+2*i,d,U,V,T,rfl,hd',hok,by omega,by omega,q'.c,q'.d,q'.uv,hT,λU' V' O'' ux vx b1 b2 b3 g=>?_⟩;exact(iff_of_eq (if_pos rfl)).mpr (hR3 _ _ ⟨A',B',U',V',ex,ey,rfl,q'.two b1 b2 b3 g ux vx,hd'.fr g (by rw[List.mem_append,not_or];exact⟨hd'.nin q'.c,hd'.nin q'.d⟩)⟩)
   rintro _ O9 ⟨A',B',U',V',ex,ey,rfl,q9,hd9⟩;have gS:=hS.rd (by omega) hok;have gT:=hT.rd (by omega) hok;have up2:∀{S:ST},Good (6+2*i+1+1) S->Good (6+2*(i+1)) S:=λg=>⟨g.b,g.k,g.a,g.l,by have:=g.s;omega⟩;walk_at "wd";refine⟨cdv n0 (by decide),?_⟩;split
   .refine⟨r,6+2*i+1,d,A',B',rdS' r S,by rw[ex,ey],hd9,hok,by omega,by omega,q9.a,q9.b,q9.ab,gS,λA'' B'' O' ex' ey' a1 a2 a3 f=>?_⟩
    exact(iff_of_eq (if_pos rfl)).mpr (hR2 _ _ ⟨A'',B'',U',V',_,_,_,_,_,_,_,_,_,_,_,_,_,ex'.trans ex,ey'.trans ey,rfl,q9.one a1 a2 a3 f,up2 (gS.rd (by omega) hok),up2 gT.up⟩)
   .exact hR2 _ _ ⟨A',B',U',V',_,_,_,_,_,_,_,_,_,_,_,_,_,ex,ey,rfl,q9,up2 gS.up,up2 gT.up⟩
  .rintro ρ O5 ⟨A,B,U,V,S,T,v0,v1,v2,v6,v7,v8,v9,v10,v11,v12,v13,ex,ey,rfl,q5,hS,hT⟩
   have le:∀{n:Nat}{S:ST},Good n S->n<=40->Good 40 S:=λg hn=>⟨g.b,g.k,g.a,g.l,Nat.le_trans g.s hn⟩;have hz:(List.zipWith (λ(a:Nat) b=>W.d (.tuple [.int a,b])) (List.range cu.length) cu).length<=16:=by simp;omega
   exact hR1 _ _ ⟨A,B,U,V,S,T,v0,v1,v2,v6,v7,v8,v9,v10,v11,v12,v13,ex,ey,rfl,q5,le hS (by omega),le hT (by omega)⟩
 rintro _ O5 ⟨A',B',U',V',S,T',v0,v1,v2,v6,v7,v8,v9,v10,v11,v12,v13,ex,ey,rfl,q5,hS,hT⟩;refine ye (λρ' O'=>∃z dz,ρ'=[v0,v1,v2,some (.own A.x),some (.own B.x),some (.own sl),v6,v7,v8,v9,v10,v11,v12,some (.own z)]/\O' z=some (.ins cD dz [])/\Q4 O' C A' B' U' V' sl S T') (λR1 hR1=>?_) ?_
 .walk_at "wd"
  exact λz dz hz=>hR1 _ _ ⟨z,dz,rfl,zf,q5.old (Old.up hz)⟩
 rintro _ O6 ⟨z,dz,rfl,hz,q6⟩;rw[<-ex,<-ey]at *;walk_at "wd";refine⟨dz,[],hz,λa b h=>(by cases h),_,_,rfl,λp hp=>⟨_,by simp only[datW,zf];rfl,_,rfl,rfl,rfl,?_⟩⟩;have hz7:updO O6 p (.lst []) z=some (.ins cD dz []):=by rw[ze (λe=>by rw[<-e,hz]at hp;cases hp)];exact hz
 have q7:=q6.old (Old.up (o:=.lst []) hp);refine(iff_of_eq (if_pos (show PyData.eqv (.list []) (.list [])=true from rfl))).mpr ?_;have tl:=JX hS;refine⟨dz,[],hz7,λa b h=>(by cases h),_,rfl,rfl,rfl,rfl,?_⟩;refine(iff_of_eq (if_pos (by decide +kernel))).mpr ?_;refine⟨40,A'.x,A'.dx,A'.p,A'.st,A'.kp,S,rfl,q7.a,hS,by decide,40,B'.x,B'.dx,B'.p,B'.st,B'.kp,S,rfl,q7.b,hS,by decide,_,rfl,_,rfl,tl.sh (by decide),tl.sh (by decide),?_⟩;rw[tl.eq];exact .inl (h _)
end
section
variable {w:World}{bw:Addr}
theorem Zd{d:Value}(F:FunD K "blank_row" "blank_row" (top 22) [d] f fd)(T:Txt P w K mg C bw):FnOk P w K mg base CX0 1 f fd ["wide","ink"] (zb K sBlankRow):=by
 apply F.okU Qd (by walk_at "ln") (λhr=>(za (zL (zih (xB (N:=["column","ink"]) (n:=1) (js:=[1])) rfl (xF rfl T.n_range (QA.pa (qc (pv 0) qn))) (λ_ _ _ _=>(z6 (i:=0) (show List.Nodup (["column","ink"]:List Str)by decide +kernel) rfl (Or.inl rfl))) (λ_ _ _ _=>yN) (λ_ _ _ _=>(yb (qc zk (qc (pv 1) qn))))))))
 .walk_at "ref"
 rintro _ O R ⟨a,i,rfl,ha,h⟩;walk_at "wd";refine⟨by omega,by omega,λ_=>some (celD (blank i)),?_,λp hp=>.inl ?_⟩
 .intro k hk us hus
  match us,hus with
  |[u],_=>simp[yH,celD,blank]
 .have:=h p hp
  simpa[List.filterMap_map,Function.comp_def]using this
theorem qh{d:Value}(F:FunD K "blank_picture" "blank_picture" (top 23) [d] f fd)(T:Txt P w K mg C bw)(ar:Cal P w K mg base 2 "is_size" [] (zb K zeQ))(zlA:Cal P w K mg base 1 "blank_row" [] (zb K sBlankRow)) :
  FnOk P w K mg base CX0 3 f fd ["wide","high","ink"] (zb K sBlankPic):=by
 apply F.okU ZV (by walk_at "ln") (λhr=>(zd (zz (uQ (yL (zj ar hr (qc (pv 0) (qc (pv 1) qn))))) (za zcq) zV) (za (zL (zii (xB (N:=["row","wide","ink"]) (n:=1) (js:=[0,2])) rfl (xF rfl T.n_range (QA.pa (qc (pv 1) qn))) (λ_ _ _ _=>(z6 (i:=0) (show List.Nodup (["row","wide","ink"]:List Str)by decide +kernel) rfl (Or.inl rfl))) (λ_ _ _ _=>yN) (λ_ _ _ _=>(zj zlA hr (qc (pv 1) (qc (pv 2) qn)))))))))
 .walk_at "ref"
 rintro _ O R ⟨a,b,i,rfl,a1,a2,b1,b2,h⟩;walk_at "wd";refine⟨a,b,rfl,a1,a2,b1,b2,?_⟩;simp;refine⟨by omega,by omega,λ_=>(List.range a).map λ_=>celD (blank i),?_,λp hp=>.inl ?_⟩
 .intro k hk us hus
  match us,hus with
  |[u],_=>
   simp;exact⟨a,i,rfl,a2,λp hp=>⟨p,hp,rfl,by simp⟩⟩
 .have:=h p hp
  simpa[genG,Function.comp_def]using this
theorem XD(F:Fun K "first_stops" "first_stops" (top 28) f fd)(T:Txt P w K mg C bw):FnOk P w K mg base CX0 1 f fd ["wide"] (zb K sStops):=by
 apply F.okU Xn (by walk_at "ln") (λhr=>(za (zL (yB (zga (K:=K) rfl rfl) (by rfl) T.n_dict rfl (QA.pa (qc (vV (xB (N:=["column"]) (n:=1) (js:=[])) rfl (zaX rfl T.n_range (QA.pa (qc (qo rfl T.g_TAB_STEP) (qc (pv 0) (qc (qo rfl T.g_TAB_STEP) qn))))) (λ_ _ _ _=>(z6 (i:=0) (show List.Nodup (["column"]:List Str)by decide +kernel) rfl (Or.inl rfl))) (λ_ _ _ _=>yN) (λ_ _ _ _=>(yb (qc (pv 0) (qc yq qn))))) qn))))))
 .walk_at "ref"
 rintro _ O R ⟨a,rfl,a1,a2,h⟩;walk_at "wd";refine⟨_,r3w a1 a2,by omega,λv=>match v with|.d (.int k)=>some (.tuple [.int k,.bool true])|_=>none,?_,?_⟩
 .intro k hk us hus
  match us,hus with
  |[u],_=>simp[yH]
 .have e1:∀(g:Nat->Int) (l:List Nat),List.filterMap ((λv=>match v with|W.d (PyData.int k)=>some (PyData.tuple [PyData.int k,PyData.bool true])|_=>none)∘λk=>W.d (PyData.int (g k))) l=l.map λk=>PyData.tuple [.int (g k),.bool true]:=λg l=>congrFun (List.filterMap_eq_map (f:=λk=>PyData.tuple [.int (g k),.bool true])) l
  have e2:∀(g:Nat->Int) (l:List Nat),vt (l.map λk=>PyData.tuple [.int (g k),.bool true])=some (l.map λk=>(Sum.inl (g k),PyData.bool true)):=λg l=>by
   induction l with
   |nil=>rfl
   |cons k l ih=>simp[vt,ih]
  rw[e1 (λk=>4+(k:Int)*4)];refine⟨_,rfl,_,e2 _ _,by simp;omega,λp hp=>.inl ?_⟩;have:=h p hp;rw[List.map_map,Yq (by have:=zdt a2;simpa[stopsW,stK,stopsI,Function.comp_def]using this)];simpa[stopsW,stK,stopsI,Function.comp_def]using this
theorem XE(F:Fun K "begin" "State.begin" um f fd)(T:Txt P w K mg C bw)(cq:Cal P w K mg base 1 "first_stops" [] (zb K sStops)):FnOk P w K mg base CX0 2 f fd ["self"] (zb K (Zt C)):=by
 apply F.okU Xm (by rintro _ _ _ (⟨x,dx,p,w,h,rfl,_⟩|⟨x,dx,p,st,kp,S,rfl,_⟩)<;>rfl) (λhr=>(zd (fs K (pv 0) zc) (zd (fs K (pv 0) zc) (zd (fs K (pv 0) yq) (zd (fs K (pv 0) zc) (zd (fs K (pv 0) yq) (zd (fs K (pv 0) yq) (zd (fs K (pv 0) yq) (zd (fs K (pv 0) zc) (zd (fs K (pv 0) (zu yM (fl K (pv 0)) zc)) (zd (fs K (pv 0) zc) (zd (fs K (pv 0) (zu yM (fl K (pv 0)) zc)) (zd (fs K (pv 0) (zj cq hr (qc (fl K (pv 0)) qn))) (zd (fs K (pv 0) (yD qn)) (za (fs K (pv 0) yF))))))))))))))))
 .walk_at "ref"
 rintro _ O R (⟨x,dx,p,a,b,rfl,hx,a1,a2,h⟩|⟨x,dx,p,st,kp,S,rfl,hs,a1,a2,h⟩)
 .rw[jg hx]
  refine yj T.st.cl T.st.n_row zkV (λ_ h=>h) (by show 3<1000;decide) rfl ?_;refine yj T.st.cl T.st.n_column zkW (λ_ h=>h) (by show 4<1000;decide) rfl ?_;refine yj T.st.cl T.st.n_late zkX (λ_ h=>h) (by show 5<1000;decide) rfl ?_;refine yj T.st.cl T.st.n_ink zkY (λ_ h=>h) (by show 6<1000;decide) rfl ?_;refine yj T.st.cl T.st.n_wrap zkZ (λ_ h=>h) (by show 7<1000;decide) rfl ?_;refine yj T.st.cl T.st.n_putting zk0 (λ_ h=>h) (by show 8<1000;decide) rfl ?_;refine yj T.st.cl T.st.n_home zk1 (λ_ h=>h) (by show 9<1000;decide) rfl ?_;refine yj T.st.cl T.st.n_top zj8 (λ_ h=>h) (by show 10<1000;decide) rfl ?_;refine yj T.st.cl T.st.n_bottom zj9 (λ_ h=>by walk_at "wd";walk_at "!zf KA";exact h) (by show 11<1000;decide) rfl ?_;refine yj T.st.cl T.st.n_left zka (λ_ h=>h) (by show 12<1000;decide) rfl ?_;refine yj T.st.cl T.st.n_right zkb (λ_ h=>by walk_at "wd";walk_at "!zf KB";exact h) (by show 13<1000;decide) rfl ?_;walk_at "wd";walk_at "!zf KC zeR";refine⟨a,rfl,a1,a2,λst hst=>?_⟩;have nsx:st≠x:=λe=>by rw[e,zf]at hst;cases hst
  rw[ze nsx]at hst;simp[ze (Ne.symm nsx),zf,zeR,zeS,and_assoc,zJ,T.st.cl,T.st.n_picture,T.st.n_wide,T.st.n_high,T.st.n_row,T.st.n_column,T.st.n_late,T.st.n_ink,T.st.n_wrap,T.st.n_putting,T.st.n_home,T.st.n_top,T.st.n_bottom,T.st.n_left,T.st.n_right,T.st.n_stops,T.st.n_kept,T.st.n_last,zh,zA,zB,zQ,zm,zC,zN,zD,zi,zE,zR,zn,zF,zr,zp,zw,zG,zO,zl,zx,zP,zy,zg,zH,zS,zo,zI,zt,zK];intro kp hkp;have nkx:kp≠x:=λe=>by rw[e,zf]at hkp;cases hkp
  rw[ze nkx]at hkp;have nks:kp≠st:=λe=>by rw[e,zf]at hkp;cases hkp
  rw[ze nks,ze nkx]at hkp;simp[ze (Ne.symm nkx),zf,yR,zeS,zkc,and_assoc,zJ,T.st.cl,T.st.n_picture,T.st.n_wide,T.st.n_high,T.st.n_row,T.st.n_column,T.st.n_late,T.st.n_ink,T.st.n_wrap,T.st.n_putting,T.st.n_home,T.st.n_top,T.st.n_bottom,T.st.n_left,T.st.n_right,T.st.n_stops,T.st.n_kept,T.st.n_last,zh,zA,zB,zQ,zm,zC,zN,zD,zi,zE,zR,zn,zF,zr,zp,zw,zG,zO,zl,zx,zP,zy,zg,zH,zS,zo,zI,zt,zK];refine .inl (h st kp _ hst hkp zf ?_ ?_ λb h1 h2 h3=>?_)
  .rw[ze nsx,ze (Ne.symm nks),ze nsx,zf]
  .rw[ze nkx,zf]
  .rw[ze h1,ze h3,ze h1,ze h2,ze h1]
 .rw[jg hs.x]
  refine yj T.st.cl T.st.n_row zO (λ_ h=>h) (by show 17<1000;decide) rfl ?_;refine yj T.st.cl T.st.n_column zl (λ_ h=>h) (by show 17<1000;decide) rfl ?_;refine yj T.st.cl T.st.n_late zx (λ_ h=>h) (by show 17<1000;decide) rfl ?_;refine yj T.st.cl T.st.n_ink zP (λ_ h=>h) (by show 17<1000;decide) rfl ?_;refine yj T.st.cl T.st.n_wrap zy (λ_ h=>h) (by show 17<1000;decide) rfl ?_;refine yj T.st.cl T.st.n_putting zg (λ_ h=>h) (by show 17<1000;decide) rfl ?_;refine yj T.st.cl T.st.n_home zH (λ_ h=>h) (by show 17<1000;decide) rfl ?_;refine yj T.st.cl T.st.n_top zS (λ_ h=>h) (by show 17<1000;decide) rfl ?_;refine yj T.st.cl T.st.n_bottom zo (λ_ h=>by walk_at "wd";walk_at "!zf";exact h) (by show 17<1000;decide) rfl ?_;refine yj T.st.cl T.st.n_left zI (λ_ h=>h) (by show 17<1000;decide) rfl ?_;refine yj T.st.cl T.st.n_right zt (λ_ h=>by walk_at "wd";walk_at "!zf";exact h) (by show 17<1000;decide) rfl ?_;walk_at "wd";walk_at "!zf";refine⟨S.w,rfl,a1,a2,λst' hst=>?_⟩;have nsx:st'≠x:=λe=>by rw[e,zf]at hst;cases hst
  rw[ze nsx]at hst;refine⟨C,dx,_,(ze (Ne.symm nsx)).trans zf,T.st.cl,T.st.n_stops,by show 17<1000;omega,λkp' hkp=>?_⟩;have nkx:kp'≠x:=λe=>by rw[e,zf]at hkp;cases hkp
  rw[ze nkx]at hkp;have nks:kp'≠st':=λe=>by rw[e,zf]at hkp;cases hkp
  rw[ze nks,ze nkx]at hkp;have nps:p≠st':=λe=>by rw[<-e,hs.p]at hst;cases hst
  have npk:p≠kp':=λe=>by rw[<-e,hs.p]at hkp;cases hkp
  refine⟨C,dx,_,(ze (Ne.symm nkx)).trans zf,T.st.cl,T.st.n_kept,by show 17<1000;omega,T.st.cl,T.st.n_last,by show 17<1000;omega,.inl (h st' kp' _ hst hkp ⟨zf,?_,?_,?_⟩ λb h1 h2 h3=>?_)⟩
  .rw[ze (Ne.symm hs.xp),ze npk,ze (Ne.symm hs.xp),ze nps,ze (Ne.symm hs.xp)];exact hs.p
  .rw[ze nsx,ze (Ne.symm nks),ze nsx,zf];rfl
  .rw[ze nkx,zf];rfl
  .rw[ze h1,ze h3,ze h1,ze h2,ze h1]
theorem Vt(F:Fun K "__init__" "State.__init__" x6 f fd)(T:Txt P w K mg C bw)(zlz:Cal P w K mg base 3 "blank_picture" [.int 0] (zb K sBlankPic))(zlv:CalT P w K mg base 2 "begin" C (zb K (Zt C))):FnOk P w K mg base CX0 4 f fd ["self","wide","high"] (zb K (sInit C)):=by
 apply F.okU Zx (by walk_at "ln") (λhr=>(zd (fs K (pv 0) (zj zlz hr (qc (pv 1) (qc (pv 2) qn)))) (zd (fs K (pv 0) (pv 1)) (zd (fs K (pv 0) (pv 2)) (za (zq (vc zlv (hr.mono (by decide)) (pv 0))))))))
 .walk_at "ref"
 rintro _ O R ⟨x,dx,a,b,rfl,hx,a1,a2,b1,b2,h⟩;walk_at "wd";refine⟨a,b,0,rfl,a1,a2,b1,b2,λp hp=>?_⟩;have npx:p≠x:=λe=>by rw[e,hx]at hp;cases hp
 simp[ze (Ne.symm npx),hx,zkS,zkT,zkU,Kz,and_assoc,zJ,T.st.cl,T.st.n_picture,T.st.n_wide,T.st.n_high,T.st.n_row,T.st.n_column,T.st.n_late,T.st.n_ink,T.st.n_wrap,T.st.n_putting,T.st.n_home,T.st.n_top,T.st.n_bottom,T.st.n_left,T.st.n_right,T.st.n_stops,T.st.n_kept,T.st.n_last,zh,zA,zB,zQ,zm,zC,zN,zD,zi,zE,zR,zn,zF,zr,zp,zw,zG,zO,zl,zx,zP,zy,zg,zH,zS,zo,zI,zt,zK];refine⟨by rintro c d (⟨rfl,_⟩|⟨rfl,_⟩|⟨rfl,_⟩)<;>decide,.inl ⟨x,dx,p,a,b,rfl,zf,a1,a2,λst kp O' hst hkp h1 h2 h3 h4=>.inl ?_⟩⟩;have nsx:st≠x:=λe=>by rw[e,zf]at hst;cases hst
 rw[ze nsx]at hst;have nsp:st≠p:=λe=>by rw[e,zf]at hst;cases hst
 rw[ze nsp]at hst;have nkx:kp≠x:=λe=>by rw[e,zf]at hkp;cases hkp
 rw[ze nkx]at hkp;have nkp:kp≠p:=λe=>by rw[e,zf]at hkp;cases hkp
 rw[ze nkp]at hkp;refine h p st kp O' hp hst hkp ⟨h1,?_,h2,h3⟩ λc q1 q2 q3 q4=>?_
 .rw[h4 p npx (Ne.symm nsp) (Ne.symm nkp),ze npx,zf]
  rfl
 .rw[h4 c q1 q3 q4,ze q1,ze q2]
theorem XF(F:Fun K "wipe_places" "wipe_places" (top 47) f fd)(T:Txt P w K mg C bw)(u7:Cal P w K mg base 1 "blank_of" [] (zb K (sBlankOf C))):FnOk P w K mg base CX0 2 f fd ["state","first","behind"] (zb K (KZ C)):=by
 have nd:=jk.nd;apply F.okU jk (by walk_at "ln") (λhr=>(zd (y9 PassesOwn.never rfl (ql rfl T.n_range (QA.pa (qc (pv 1) (qc (pv 2) qn)))) (z6 (i:=3) nd rfl (Or.inl rfl)) (za (vZ (zj u7 hr (qc (pv 0) qn)) (Z8 (zY (yP (K:=K) rfl) (fl K (pv 0)) (zu yw (pv 3) (fl K (pv 0)))) (zu yl (pv 3) (fl K (pv 0))) jq)))) (za (fs K (pv 0) yq))))
 .walk_at "ref"
 rintro _ O R ⟨a,b,a0,a1,b0,b1,x,dx,p,st,kp,S,rfl,hs,⟨hB,hb⟩,h⟩;have hx:=hs.x;have w1:=hB.w1;have w2:=hB.w2;have h2:=hB.h2;refine ye (λρ' O'=>∃v,ρ'=[some (.own x),some (.d (.int a)),some (.d (.int b)),v]/\But O O' x p/\StAt O' C x dx p st kp { S with pic:=wipP S.pic S.ink S.w a b }) (λR1 hR1=>?_) ?_
 .walk_at "wd"
  refine⟨by omega,by omega,by omega,by omega,?_⟩;refine yU.rng (λi ρ O'=>∃v,ρ=[some (.own x),some (.d (.int a)),some (.d (.int b)),v]/\But O O' x p/\StAt O' C x dx p st kp { S with pic:=wipP S.pic S.ink S.w a (a+i) }) ⟨_,rfl,But.refl,?_⟩ ?_ ?_
  .rw[show a+((0:Nat):Int)=a by omega,UQ]
   exact hs
  .rintro i _ O1 hi ⟨v,rfl,hb1,hs1⟩ R2 hR2
   have hx1:=hs1.x;have e0:=ud hs1.p;rw[uY]at e0;have hlt:a+i<(S.h:Int)*S.w:=by omega
   have q0:0<=(a+i) / (S.w:Int):=Int.ediv_nonneg (by omega) (by omega);have q1:(a+i) / (S.w:Int)<S.h:=Int.ediv_lt_of_lt_mul (by omega) hlt;have q2:0<=(a+i)%(S.w:Int):=Int.emod_nonneg _ (by omega);have q3:(a+i)%(S.w:Int)<S.w:=Int.emod_lt_of_pos _ (by omega);have e1:atI ((List.range S.h).map (W.row p)) ((a+i) / (S.w:Int))=some (W.row p ((a+i) / (S.w:Int)).toNat):=ve q0 q1;have e2:=jA (c:=blank S.ink) hs1.p (i:=((a+i) / (S.w:Int)).toNat) (k:=(a+i)%(S.w:Int)) (by simp only;omega) q2 q3;have e3:=zbH (f:=S.pic) (k:=S.ink) (w:=S.w) (a:=a) (b:=a+i) (by omega) (by omega) w1;walk_at "wd";refine⟨x,dx,p,st,kp,_,rfl,hs1,?_⟩;rw[e3]at e2;have cd:zcv (a+i) (S.w:Int):=⟨by omega,by omega⟩;walk_at "!hx1 e0 e1 e2 cd";refine⟨by omega,hR2 _ _ ⟨_,rfl,hb1.trans But.up,?_⟩⟩;rw[show a+((i+1:Nat):Int)=a+i+1 by omega];exact hs1.pic (f:=wipP S.pic S.ink S.w a (a+i+1))
  .rintro _ O1 ⟨v,rfl,hb1,hs1⟩
   refine hR1 _ _ ⟨_,rfl,hb1,?_⟩;by_cases hab:a<=b
   .rw[show a+(((b-a).toNat:Nat):Int)=b by omega]at hs1
    exact hs1
   .rw[show a+(((b-a).toNat:Nat):Int)=a by omega,UQ]at hs1
    rw[zgu (by omega)];exact hs1
 rintro _ O1 ⟨v,rfl,hb1,hs1⟩;have hx1:=hs1.x;walk_at "wd";walk_at "!hx1 zW";exact .inl (h _ (hs1.fld (S':=wipS a b S) rfl rfl rfl) (hb1.trans But.ux))
theorem zg4(F:Fun K "wipe" "wipe" (top 49) f fd)(T:Txt P w K mg C bw)(aj:Cal P w K mg base 2 "wipe_places" [] (zb K (KZ C))):FnOk P w K mg base CX0 3 f fd ["state","way"] (zb K (Yx C)):=by
 have nd:=JV.nd;apply F.okU JV (by walk_at "ln") (λhr=>(zd (zZ 2 nd (zu xm (fl K (pv 0)) (fl K (pv 0)))) (zd (zZ 3 nd (zu yd (pv 2) (fl K (pv 0)))) (zd (zZ 4 nd (zu yd (pv 2) (fl K (pv 0)))) (zd (zZ 5 nd (zu xm (fl K (pv 0)) (fl K (pv 0)))) (zd (zZ 6 nd (zfA (vJ zc (yb (qc (pv 4) (qc (pv 3) qn))) (vJ zc (yb (qc (pv 2) (qc (zu yd (pv 4) zc) qn))) (vJ zc (yb (qc (pv 2) (qc (pv 3) qn))) (vJ zc (yb (qc (pv 4) (qc (pv 5) qn))) (vJ zc (yb (qc zc (qc (zu yd (pv 4) zc) qn))) (vJ zc (yb (qc zc (qc (pv 5) qn))) zfz)))))) rfl rfl (by decide) (by decide))) (zd (zZ 7 nd (zcQ (zer hr) (pv 6) (yr (zM uR (pv 1) yF) zc (pv 1)) (yb (qc zc (qc zc qn))) ⟨rfl,rfl,rfl,rfl⟩)) (za (zq (zj aj hr (qc (pv 0) (qc (zY (z7 (K:=K) rfl) (pv 7) zc) (qc (zY (z7 (K:=K) rfl) (pv 7) zc) qn)))))))))))))
 .walk_at "ref"
 rintro _ O R ⟨x,dx,p,st,kp,S,m,rfl,hm,hs,hB,h⟩;have hx:=hs.x;obtain⟨q0,q1,q2⟩:=ziU hB;have w2:=hB.w2;have h2:=hB.h2;have r0:=hB.r0;have r1:=hB.r1;refine Yw (λρ' O'=>ρ'=[some (.own x),some (.d m),some (.d (.int (S.row*S.w))),some (.d (.int (S.row*S.w+S.w))),none,none,none,none]/\O=O') (λR1 hR1=>?_) ?_
 .walk_at "wd"
  walk_at "!hx";exact⟨mulL (by omega) (by omega),hR1 _ _ ⟨rfl,rfl⟩⟩
 rintro _ _ ⟨rfl,rfl⟩;refine Yw (λρ' O'=>ρ'=[some (.own x),some (.d m),some (.d (.int (S.row*S.w))),some (.d (.int (S.row*S.w+S.w))),some (.d (.int (S.row*S.w+S.col))),some (.d (.int (S.w*S.h))),none,none]/\O=O') (λR1 hR1=>?_) ?_
 .walk_at "wd"
  walk_at "!hx";exact⟨mulL (by omega) (by omega),hR1 _ _ ⟨rfl,rfl⟩⟩
 rintro _ _ ⟨rfl,rfl⟩;refine ye (λρ' O'=>∃b,O b=none/\ρ'=[some (.own x),some (.d m),some (.d (.int (S.row*S.w))),some (.d (.int (S.row*S.w+S.w))),some (.d (.int (S.row*S.w+S.col))),some (.d (.int (S.w*S.h))),some (.own b),none]/\O'=updO O b (.dK [(Sum.inl 0,.d (.tuple [.int (S.row*S.w+S.col),.int (S.row*S.w+S.w)])),(Sum.inl 1,.d (.tuple [.int (S.row*S.w),.int (S.row*S.w+S.col+1)])),(Sum.inl 2,.d (.tuple [.int (S.row*S.w),.int (S.row*S.w+S.w)])),(Sum.inl 3,.d (.tuple [.int (S.row*S.w+S.col),.int (S.w*S.h)])),(Sum.inl 4,.d (.tuple [.int 0,.int (S.row*S.w+S.col+1)])),(Sum.inl 5,.d (.tuple [.int 0,.int (S.w*S.h)]))])) (λR1 hR1=>?_) ?_
 .walk_at "wd"
  intro b hb;exact⟨_,rfl,by show(6:Nat)<=15;decide,hR1 _ _ ⟨b,hb,rfl,rfl⟩⟩
 rintro _ O1 ⟨b,hb,rfl,rfl⟩;have ob:Old O (updO O b (.dK [(Sum.inl 0,.d (.tuple [.int (S.row*S.w+S.col),.int (S.row*S.w+S.w)])),(Sum.inl 1,.d (.tuple [.int (S.row*S.w),.int (S.row*S.w+S.col+1)])),(Sum.inl 2,.d (.tuple [.int (S.row*S.w),.int (S.row*S.w+S.w)])),(Sum.inl 3,.d (.tuple [.int (S.row*S.w+S.col),.int (S.w*S.h)])),(Sum.inl 4,.d (.tuple [.int 0,.int (S.row*S.w+S.col+1)])),(Sum.inl 5,.d (.tuple [.int 0,.int (S.w*S.h)]))])):=Old.refl.upd hb;refine ye (λρ' O'=>ρ'=[some (.own x),some (.d m),some (.d (.int (S.row*S.w))),some (.d (.int (S.row*S.w+S.w))),some (.d (.int (S.row*S.w+S.col))),some (.d (.int (S.w*S.h))),some (.own b),some (.d (.tuple [.int (spI (wayD m) S).1,.int (spI (wayD m) S).2]))]/\Old O O') (λR1 hR1=>?_) ?_
 .have key:∀y:Int,(kl [((Sum.inl 0:Key),W.d (.tuple [.int (S.row*S.w+S.col),.int (S.row*S.w+S.w)])),(Sum.inl 1,.d (.tuple [.int (S.row*S.w),.int (S.row*S.w+S.col+1)])),(Sum.inl 2,.d (.tuple [.int (S.row*S.w),.int (S.row*S.w+S.w)])),(Sum.inl 3,.d (.tuple [.int (S.row*S.w+S.col),.int (S.w*S.h)])),(Sum.inl 4,.d (.tuple [.int 0,.int (S.row*S.w+S.col+1)])),(Sum.inl 5,.d (.tuple [.int 0,.int (S.w*S.h)]))] (Sum.inl y)).getD (.d (.tuple [.int 0,.int 0]))=.d (.tuple [.int (spI y S).1,.int (spI y S).2]):=λy=>by
   unfold spI kl;by_cases e0:y= 0
   .subst e0;rfl
   by_cases e1:y= 1
   .subst e1;rfl
   by_cases e2:y= 2
   .subst e2;rfl
   by_cases e3:y= 3
   .subst e3;rfl
   by_cases e4:y= 4
   .subst e4;rfl
   by_cases e5:y= 5
   .subst e5;rfl
   simp[e0,e1,e2,e3,e4,e5,List.find?_cons,Ne.symm e0,Ne.symm e1,Ne.symm e2,Ne.symm e3,Ne.symm e4,Ne.symm e5]
  rcases hm.cs with rfl|⟨i,rfl,_,_⟩
  .walk_at "wd"
   simp only[key];exact hR1 _ _ ⟨rfl,ob⟩
  .walk_at "wd"
   simp only[key];exact hR1 _ _ ⟨rfl,ob⟩
 rintro _ O2 ⟨rfl,o2⟩;obtain⟨i0,i1,i2,i3,i4⟩:=ziV hB (wayD m);walk_at "wd";refine⟨_,rfl,_,rfl,_,_,i0,i1,i2,i3,x,dx,p,st,kp,S,rfl,hs.old o2,⟨hB,by rw[Int.mul_comm];exact i4⟩,λO' h1 h2=>.inl (h O' h1 λc c1 c2 c3=>?_)⟩;rw[h2 c c1 c2];exact o2 c c3
theorem QN(F:Fun K "cut_cells" "cut_cells" (top 46) f fd)(T:Txt P w K mg C bw)(u0:Cal P w K mg base 1 "at_least_one" [] (zb K vq))(wf:Cal P w K mg base 2 "move_cells" [] (zb K (sMvC C))):FnOk P w K mg base CX0 3 f fd ["state","many"] (zb K (VH C)):=by
 apply F.okU Qh (by walk_at "ln") (λhr=>(za (zq (zj wf hr (qc (pv 0) (qc (zj u0 hr (qc (pv 1) qn)) qn))))))
 .walk_at "ref"
 rintro _ O R ⟨n,hn,x,dx,p,st,kp,S,rfl,hs,hB,h⟩;have o1:=@yZ n;have o2:=xS hn;walk_at "wd";exact⟨hn,_,by omega,by omega,x,dx,p,st,kp,S,rfl,hs,hB,λO' h1 h2=>.inl (h O' h1 h2)⟩
theorem Vu(F:Fun K "wipe_cells" "wipe_cells" (top 48) f fd)(T:Txt P w K mg C bw)(u0:Cal P w K mg base 1 "at_least_one" [] (zb K vq))(aj:Cal P w K mg base 2 "wipe_places" [] (zb K (KZ C))):FnOk P w K mg base CX0 3 f fd ["state","many"] (zb K (VI C)):=by
 have nd:=jU.nd;apply F.okU jU (by walk_at "ln") (λhr=>(zd (zZ 2 nd (zu xm (fl K (pv 0)) (fl K (pv 0)))) (zd (zZ 3 nd (yf (ua rfl) (by rfl) T.n_min (by rfl) (QA.pa (qc (zu yd (fl K (pv 0)) (zj u0 hr (qc (pv 1) qn))) (qc (fl K (pv 0)) qn))))) (za (zq (zj aj hr (qc (pv 0) (qc (zu yd (pv 2) (fl K (pv 0))) (qc (zu yd (pv 2) (pv 3)) qn)))))))))
 .walk_at "ref"
 rintro _ O R ⟨n,hn,x,dx,p,st,kp,S,rfl,hs,hB,h⟩;have hx:=hs.x;have o1:=@yZ n;have o2:=xS hn;walk_at "wd";walk_at "!hx";have r0:=hB.r0;have r1:=hB.r1;have c0:=hB.c0;have c1:=hB.c1;have w2:=hB.w2;have h2:=hB.h2;have m0:0<=S.row*(S.w:Int):=Int.mul_nonneg r0 (by omega);have m1:(S.row+1)*(S.w:Int)<=(S.h:Int)*S.w:=Int.mul_le_mul_of_nonneg_right (by omega) (by omega);have m2:(S.h:Int)*S.w<=12*24:=Int.mul_le_mul (by omega) (by omega) (by omega) (by omega);rw[Int.add_mul]at m1;refine⟨mulL (by omega) (by omega),hn,_,_,by omega,by omega,by split<;>omega,by split<;>omega,x,dx,p,st,kp,S,rfl,hs,⟨hB,by split<;>omega⟩,λO' h1 h2=>.inl (h O' h1 h2)⟩
theorem QO(F:Fun K "roll_down" "roll_down" (top 61) f fd)(T:Txt P w K mg C bw)(we:Cal P w K mg base 2 "roll_rows" [] (zb K (sRoll C))):FnOk P w K mg base CX0 3 f fd ["state","first","times"] (zb K (sRollD C)):=by
 apply F.okU Ql (by walk_at "ln") (λhr=>(za (zq (zj we hr (qc (pv 0) (qc (pv 1) (qc (J2 zaB (pv 2)) qn)))))))
 .walk_at "ref"
 rintro _ O R ⟨a,s,s1,s2,x,dx,p,st,kp,S,rfl,hs,hp,h⟩;walk_at "wd";exact⟨a,-s,by omega,by omega,x,dx,p,st,kp,S,rfl,hs,hp,λO' h1 h2=>.inl (h O' h1 h2)⟩
theorem QP(F:Fun K "put_lines" "put_lines" (top 63) f fd)(T:Txt P w K mg C bw)(u0:Cal P w K mg base 1 "at_least_one" [] (zb K vq))(ak:Cal P w K mg base 3 "roll_down" [] (zb K (sRollD C))):FnOk P w K mg base CX0 4 f fd ["state","many"] (zb K (sPutL C)):=by
 apply F.okU Qn (by walk_at "ln") (λhr=>(zd (zz (xG yT yT (fl K (pv 0)) (fl K (pv 0)) (fl K (pv 0))) (za (zq (zj ak hr (qc (pv 0) (qc (fl K (pv 0)) (qc (zj u0 hr (qc (pv 1) qn)) qn)))))) zV) (za (fs K (pv 0) yq))))
 .walk_at "ref"
 rintro _ O R ⟨n,hn,x,dx,p,st,kp,S,rfl,hs,hB,h⟩;have hx:=hs.x;have o1:=@yZ n;have o2:=xS hn;have:=hB.r0;simp only[lineS]at h;walk_at "wd";walk_at "!hx hn zW";split
 .rename_i e
  rw[if_pos e]at h;refine⟨_,_,by omega,by omega,x,dx,p,st,kp,S,rfl,hs,⟨hB,by omega,e.2⟩,λO' h1 h2=>?_⟩;have hx1:=h1.x;walk_at "!hx1 zW";exact .inl (h _ (h1.fld rfl rfl rfl) (h2.trans But.ux))
 .rename_i e
  rw[if_neg e]at h;exact .inl (h _ (hs.fld rfl rfl rfl) But.ux)
theorem QQ(F:Fun K "cut_lines" "cut_lines" (top 64) f fd)(T:Txt P w K mg C bw)(u0:Cal P w K mg base 1 "at_least_one" [] (zb K vq))(uo:Cal P w K mg base 3 "roll_up" [] (zb K (sRoll C))):FnOk P w K mg base CX0 4 f fd ["state","many"] (zb K (sCutL C)):=by
 apply F.okU Qo (by walk_at "ln") (λhr=>(zd (zz (xG yT yT (fl K (pv 0)) (fl K (pv 0)) (fl K (pv 0))) (za (zq (zj uo hr (qc (pv 0) (qc (fl K (pv 0)) (qc (zj u0 hr (qc (pv 1) qn)) qn)))))) zV) (za (fs K (pv 0) yq))))
 .walk_at "ref"
 rintro _ O R ⟨n,hn,x,dx,p,st,kp,S,rfl,hs,hB,h⟩;have hx:=hs.x;have o1:=@yZ n;have o2:=xS hn;have:=hB.r0;simp only[lineS]at h;walk_at "wd";walk_at "!hx hn zW";split
 .rename_i e
  rw[if_pos e]at h;refine⟨_,_,by omega,by omega,x,dx,p,st,kp,S,rfl,hs,⟨hB,by omega,e.2⟩,λO' h1 h2=>?_⟩;have hx1:=h1.x;walk_at "!hx1 zW";exact .inl (h _ (h1.fld rfl rfl rfl) (h2.trans But.ux))
 .rename_i e
  rw[if_neg e]at h;exact .inl (h _ (hs.fld rfl rfl rfl) But.ux)
theorem zg5(F:Fun K "roll" "roll" (top 62) f fd)(T:Txt P w K mg C bw)(u0:Cal P w K mg base 1 "at_least_one" [] (zb K vq))(uo:Cal P w K mg base 3 "roll_up" [] (zb K (sRoll C)))(ak:Cal P w K mg base 3 "roll_down" [] (zb K (sRollD C))):FnOk P w K mg base CX0 4 f fd ["state","letter","many"] (zb K (kA C)):=by
 apply F.okU zgR (by walk_at "ln") (λhr=>(zd (zz (zM zU (pv 1) zk) (za (zq (zj uo hr (qc (pv 0) (qc (fl K (pv 0)) (qc (zj u0 hr (qc (pv 2) qn)) qn)))))) (za (zz (zM zU (pv 1) zk) (za (zq (zj ak hr (qc (pv 0) (qc (fl K (pv 0)) (qc (zj u0 hr (qc (pv 2) qn)) qn)))))) zV))) (za (fs K (pv 0) yq))))
 .walk_at "ref"
 rintro _ O R ⟨up,n,hn,x,dx,p,st,kp,S,rfl,hs,hB,h⟩;have hx:=hs.x;have o1:=@yZ n;have o2:=xS hn;have t0:=hB.t0;have tb:=hB.tb;have e1:∀O',StAt O' C x dx p st kp (rollS S.top (if up=true then oneD n else -(oneD n)) S)->StAt (updO O' x (.ins C dx (fldW p st kp (rollT up n S)))) C x dx p st kp (rollT up n S):=λO' h1=>h1.fld rfl rfl rfl;cases up with
 |true=>
  have z1:UR true=Str.ofString "R":=rfl;rw[z1];walk_at "wd";walk_at "!hx hn zW";refine⟨_,_,by omega,by omega,x,dx,p,st,kp,S,rfl,hs,⟨hB,by omega,tb⟩,λO' h1 h2=>?_⟩;have hx1:=h1.x;walk_at "!hx1 zW";exact .inl (h _ (e1 _ h1) (h2.trans But.ux))
 |false=>
  have z1:UR false=Str.ofString "D":=rfl;have z2:¬(Str.ofString "D" =Str.ofString "R"):=by decide
  rw[z1];walk_at "wd";walk_at "!hx hn z2 zW";refine⟨_,_,by omega,by omega,x,dx,p,st,kp,S,rfl,hs,⟨hB,by omega,tb⟩,λO' h1 h2=>?_⟩;have hx1:=h1.x;walk_at "!hx1 zW";exact .inl (h _ (e1 _ h1) (h2.trans But.ux))
end
theorem zlc{wd hg:Nat}{g:PF}(w1:1<=wd)(w2:wd<=24)(h1:1<=hg)(h2:hg<=12):Bds (st0 wd hg g):=by
 constructor<;>simp only[st0]<;>first|decide|omega
section
variable {w:World}{bw:Addr}
theorem Jn(F:Fun K "set_stop" "set_stop" (top 40) f fd)(T:Txt P w K mg C bw):FnOk P w K mg base CX0 1 f fd ["state"] (zb K (sSetStop C)):=by
 apply F.okU Q6 (by walk_at "ln") (λhr=>(za (zcW (zer hr) (fl K (pv 0)) (fl K (pv 0)) yq rfl)))
 .walk_at "ref"
 rintro _ O R ⟨x,dx,p,st,kp,S,rfl,hs,hl,h⟩;have hx:=hs.x;have hst:=hs.st;walk_at "wd";walk_at "!hx hst zW";refine⟨by simp[stK];omega,.inl (h _ ⟨by rw[ze hs.xs];exact hs.x,by rw[ze hs.ps];exact hs.p,by rw[zf,zbI];rfl,by rw[ze (neW hs.kp hs.st (by intro h;cases h))];exact hs.kp⟩ (ButO.upd (by simp)))⟩
theorem Vv(F:Fun K "begin_anew" "begin_anew" (top 54) f fd)(T:Txt P w K mg C bw)(zlv:CalT P w K mg base 2 "begin" C (zb K (Zt C)))(uu:Cal P w K mg base 3 "wipe" [] (zb K (Yx C))):FnOk P w K mg base CX0 4 f fd ["state"] (zb K (sAnew C)):=by
 apply F.okU Vf (by walk_at "ln") (λhr=>(zd (zq (vc zlv (hr.mono (by decide)) (pv 0))) (za (zq (zj uu hr (qc (pv 0) (qc zc qn)))))))
 .walk_at "ref"
 rintro _ O R ⟨x,dx,p,st,kp,S,rfl,hs,hB,h⟩;have hx:=hs.x;walk_at "wd";walk_at "!hx zW";refine⟨?_,.inr ⟨x,dx,p,st,kp,S,rfl,hs,hB.w1,hB.w2,λst' kp' O1 q1 q2 q3 q4=>⟨x,dx,p,st',kp',_,.int 5,rfl,⟨by decide,by decide⟩,q3,zlc hB.w1 hB.w2 hB.h1 hB.h2,λO2 q5 q6=>.inl (h st' kp' O2 q1 q2 q5 λb hb h0=>?_)⟩⟩⟩
 .intro a b hab
  simp only[fldW,List.mem_cons,Prod.mk.injEq,List.not_mem_nil,or_false]at hab;rcases hab with⟨rfl,_⟩|⟨rfl,_⟩|⟨rfl,_⟩|⟨rfl,_⟩|⟨rfl,_⟩|⟨rfl,_⟩|⟨rfl,_⟩|⟨rfl,_⟩|⟨rfl,_⟩|⟨rfl,_⟩|⟨rfl,_⟩|⟨rfl,_⟩|⟨rfl,_⟩|⟨rfl,_⟩|⟨rfl,_⟩|⟨rfl,_⟩|⟨rfl,_⟩<;>decide +kernel
 .have b1:b≠x:=λe=>hb (by simp[e])
  have b2:b≠p:=λe=>hb (by simp[e]);have b3:b≠st':=λe=>h0 (by rw[e];exact q1);have b4:b≠kp':=λe=>h0 (by rw[e];exact q2);have e:=q4 b b1 b3 b4;rw[q6 b b1 b2 (by rw[e];exact h0),e]
theorem YS(F:Fun K "_law_by_going" "_law_by_going" (top 106) f fd)(T:Txt P w K mg C bw)(wq:Cal P w K mg base 2 "go" [] (zb K (UP C)))(u8:Cal P w K mg base 2 "to_left_edge" [] (zb K (sLeft C)))(u5:Cal P w K mg base 3 "to_place" [] (zb K (sPlace C)))(u4:Cal P w K mg base 2 "on_tab" [] (zb K (qC C tabS)))(wt:Cal P w K mg base 2 "back_tab" [] (zb K (qC C bakS)))(wg:Cal P w K mg base 1 "set_stop" [] (zb K (sSetStop C)))(wj:Cal P w K mg base 1 "take_stop" [] (zb K (sStop C cutS)))(wk:Cal P w K mg base 1 "take_stops" [] (zb K (sStop C clrS)))(aa:Cal P w K mg base 5 "set_rows" [] (zb K (sRows C)))(ad:Cal P w K mg base 5 "set_columns" [] (zb K (sCols C))):FnOk P w K mg base CX0 6 f fd ["_law_state","_law_letter","_law_one","_law_other"] (zb K (sDo C lsG λa b ns=>[.d a,.d b])):=by
 apply F.okU Z2 (by walk_at "ln") (λhr=>(za (zz (xx x9 (pv 1) zk (by with_unfolding_all rfl)) (za (zq (zj wq hr (qc (pv 0) (qc (pv 1) (qc (pv 2) qn)))))) (za (zz (zM zU (pv 1) zk) (za (zq (zj u8 hr (qc (pv 0) qn)))) (za (zz (zM zU (pv 1) zk) (za (zq (zj u5 hr (qc (pv 0) (qc (pv 2) (qc (pv 3) qn)))))) (za (zz (zM zU (pv 1) zk) (za (zq (zj u4 hr (qc (pv 0) (qc (pv 2) qn))))) (za (zz (zM zU (pv 1) zk) (za (zq (zj wt hr (qc (pv 0) (qc (pv 2) qn))))) (za (zz (zM zU (pv 1) zk) (za (zq (zj wg hr (qc (pv 0) qn)))) (za (zz (zM zU (pv 1) zk) (za (zq (zj wj hr (qc (pv 0) qn)))) (za (zz (zM zU (pv 1) zk) (za (zq (zj wk hr (qc (pv 0) qn)))) (za (zz (zM zU (pv 1) zk) (za (zq (zj aa hr (qc (pv 0) (qc (pv 2) (qc (pv 3) qn)))))) (za (zz (zM zU (pv 1) zk) (za (zq (zj ad hr (qc (pv 0) (qc (pv 2) (qc (pv 3) qn)))))) zV)))))))))))))))))))))
 .walk_at "ref"
 rintro _ O R ⟨n,c,a,b,ns,x,dx,p,st,kp,S,rfl,hn,hc,ha,hb,hns,hs,hG,h⟩;refine yV (c= 117\/c= 100\/c= 108\/c= 114) (λR4 hR4=>?_) (λe=>?_) (λn_udlr=>?_)
 .walk_at "wd"
  rw[zgJ hc];exact hR4
 .have h':∀st' kp' O',Nxt O O' C x dx p st kp st' kp' (offS (goS c (oneD a) S))->R (.d .none) O':=λst' kp' O' q=>h st' kp' O' (by rcases e with rfl|rfl|rfl|rfl<;>exact q)
  show UP C [.own x,.d (.str ⟨#[c]⟩),.d a] O _;exact⟨c,a,e,ha,x,dx,p,st,kp,S,rfl,hs,trivial,λO' q1 q2=>.inl (h' _ _ O' (.xp q1 q2))⟩
 refine yh (k:=104) (by decide +kernel) rfl (λe=>?_) (λn104=>?_)
 .subst e
  exact zjl hn ha hb hns hs hG h
 refine yh (k:=103) (by decide +kernel) rfl (λe=>?_) (λn103=>?_)
 .subst e
  exact zjB hn ha hb hns hs hG h
 refine yh (k:=121) (by decide +kernel) rfl (λe=>?_) (λn121=>?_)
 .subst e
  exact zjs hn ha hb hns hs hG h
 refine yh (k:=89) (by decide +kernel) rfl (λe=>?_) (λn89=>?_)
 .subst e
  exact zjt hn ha hb hns hs hG h
 refine yh (k:=116) (by decide +kernel) rfl (λe=>?_) (λn116=>?_)
 .subst e
  exact zjm hn ha hb hns hs hG h
 refine yh (k:=84) (by decide +kernel) rfl (λe=>?_) (λn84=>?_)
 .subst e
  exact zjn hn ha hb hns hs hG h
 refine yh (k:=85) (by decide +kernel) rfl (λe=>?_) (λn85=>?_)
 .subst e
  exact zjo hn ha hb hns hs hG h
 refine yh (k:=109) (by decide +kernel) rfl (λe=>?_) (λn109=>?_)
 .subst e
  exact zjC hn ha hb hns hs hG h
 refine yh (k:=77) (by decide +kernel) rfl (λe=>?_) (λn77=>?_)
 .subst e
  exact zjD hn ha hb hns hs hG h
 have e:opt lsG c (actS c a b ns) S=S:=if_neg (by simp only[List.mem_cons,List.not_mem_nil,or_false];omega);rw[e]at h;exact .inl (h _ _ O (.refl hs))
theorem YT(F:Fun K "_law_by_cells" "_law_by_cells" (top 107) f fd)(T:Txt P w K mg C bw)(ww:Cal P w K mg base 4 "roll" [] (zb K (kA C)))(wx:Cal P w K mg base 4 "put_lines" [] (zb K (sPutL C)))(wy:Cal P w K mg base 4 "cut_lines" [] (zb K (sCutL C)))(ur:Cal P w K mg base 3 "put_cells" [] (zb K (sPutC C)))(wz:Cal P w K mg base 3 "cut_cells" [] (zb K (VH C)))(xc:Cal P w K mg base 3 "wipe_cells" [] (zb K (VI C)))(uu:Cal P w K mg base 3 "wipe" [] (zb K (Yx C)))(wu:Cal P w K mg base 6 "again" [] (zb K (YN C))):FnOk P w K mg base CX0 7 f fd ["_law_state","_law_letter","_law_many"] (zb K (sDo C lsE λa b ns=>[.d a])):=by
 apply F.okU Z3 (by walk_at "ln") (λhr=>(za (zz (xx x9 (pv 1) zk (by with_unfolding_all rfl)) (za (zq (zj ww hr (qc (pv 0) (qc (pv 1) (qc (pv 2) qn)))))) (za (zz (zM zU (pv 1) zk) (za (zq (zj wx hr (qc (pv 0) (qc (pv 2) qn))))) (za (zz (zM zU (pv 1) zk) (za (zq (zj wy hr (qc (pv 0) (qc (pv 2) qn))))) (za (zz (zM zU (pv 1) zk) (za (zq (zj ur hr (qc (pv 0) (qc (pv 2) qn))))) (za (zz (zM zU (pv 1) zk) (za (zq (zj wz hr (qc (pv 0) (qc (pv 2) qn))))) (za (zz (zM zU (pv 1) zk) (za (zq (zj xc hr (qc (pv 0) (qc (pv 2) qn))))) (za (zz (zM zU (pv 1) zk) (za (zq (zj uu hr (qc (pv 0) (qc (pv 2) qn))))) (za (zz (zM zU (pv 1) zk) (za (zq (zj wu hr (qc (pv 0) (qc (pv 2) qn))))) zV)))))))))))))))))
 .walk_at "ref"
 rintro _ O R ⟨n,c,a,b,ns,x,dx,p,st,kp,S,rfl,hn,hc,ha,hb,hns,hs,hG,h⟩;refine yV (c= 82\/c= 68) (λR4 hR4=>?_) (λe=>?_) (λn_RD=>?_)
 .walk_at "wd"
  rw[zkx hc];exact hR4
 .have e':∃up:Bool,(⟨#[c]⟩:Str)=UR up/\opt lsE c (actS c a b ns) S=rollT up a S:=by
   rcases e with rfl|rfl
   .exact⟨true,by decide +kernel,rfl⟩
   .exact⟨false,by decide +kernel,rfl⟩
  obtain⟨up,e1,e2⟩:=e';rw[e2]at h;show kA C [.own x,.d (.str ⟨#[c]⟩),.d a] O _;rw[e1];exact⟨up,a,ha,x,dx,p,st,kp,S,rfl,hs,hG.b,λO' q1 q2=>.inl (h _ _ O' (.xp q1 q2))⟩
 refine yh (k:=105) (by decide +kernel) rfl (λe=>?_) (λn105=>?_)
 .subst e
  exact zjv hn ha hb hns hs hG h
 refine yh (k:=107) (by decide +kernel) rfl (λe=>?_) (λn107=>?_)
 .subst e
  exact zjw hn ha hb hns hs hG h
 refine yh (k:=115) (by decide +kernel) rfl (λe=>?_) (λn115=>?_)
 .subst e
  exact zjx hn ha hb hns hs hG h
 refine yh (k:=120) (by decide +kernel) rfl (λe=>?_) (λn120=>?_)
 .subst e
  exact zjy hn ha hb hns hs hG h
 refine yh (k:=101) (by decide +kernel) rfl (λe=>?_) (λn101=>?_)
 .subst e
  exact zjz hn ha hb hns hs hG h
 refine yh (k:=119) (by decide +kernel) rfl (λe=>?_) (λn119=>?_)
 .subst e
  exact zjA hn ha hb hns hs hG h
 refine yh (k:=112) (by decide +kernel) rfl (λe=>?_) (λn112=>?_)
 .subst e
  exact zju hn ha hb hns hs hG h
 have e:opt lsE c (actS c a b ns) S=S:=if_neg (by simp only[List.mem_cons,List.not_mem_nil,or_false];omega);rw[e]at h;exact .inl (h _ _ O (.refl hs))
theorem YU(F:Fun K "_law_by_modes" "_law_by_modes" (top 108) f fd)(T:Txt P w K mg C bw)(ae:Cal P w K mg base 4 "dye" [] (zb K (sDye C)))(w9:Cal P w K mg base 5 "turn_modes" [] (zb K (sModesN C)))(wm:Cal P w K mg base 1 "keep" [] (zb K (sKeep C keepS)))(wn:Cal P w K mg base 1 "take_back" [] (zb K (sKeep C backS)))(wo:Cal P w K mg base 4 "begin_anew" [] (zb K (sAnew C))):FnOk P w K mg base CX0 6 f fd ["_law_state","_law_letter","_law_numbers_here"] (zb K (sDo C lsM λa b ns=>[.d (.tuple ns)])):=by
 apply F.okU Z4 (by walk_at "ln") (λhr=>(za (zz (zM zU (pv 1) zk) (za (zq (zj ae hr (qc (pv 0) (qc (pv 2) qn))))) (za (zz (xx x9 (pv 1) zk (by with_unfolding_all rfl)) (za (zq (zj w9 hr (qc (pv 0) (qc (pv 2) (qc (xT zU (pv 1) zk) qn)))))) (za (zz (zM zU (pv 1) zk) (za (zq (zj wm hr (qc (pv 0) qn)))) (za (zz (zM zU (pv 1) zk) (za (zq (zj wn hr (qc (pv 0) qn)))) (za (zz (zM zU (pv 1) zk) (za (zq (zj wo hr (qc (pv 0) qn)))) zV)))))))))))
 .walk_at "ref"
 rintro _ O R ⟨n,c,a,b,ns,x,dx,p,st,kp,S,rfl,hn,hc,ha,hb,hns,hs,hG,h⟩;refine yh (k:=99) (by decide +kernel) rfl (λe=>?_) (λn99=>?_)
 .subst e
  exact zjE hn ha hb hns hs hG h
 refine yV (c= 111\/c= 102) (λR4 hR4=>?_) (λe=>?_) (λn_of=>?_)
 .walk_at "wd"
  rw[zja hc];exact hR4
 .have e':opt lsM c (actS c a b ns) S=modesS ns (decide (c= 111)) S:=by
   rcases e with rfl|rfl<;>rfl
  rw[e']at h;have e2:decide (vOf (.str ⟨#[c]⟩)=vOf (.str (Str.ofString "o")))=decide (c= 111):=by rcases e with rfl|rfl<;>decide +kernel
  refine⟨rfl,rfl,rfl,?_⟩;show sModesN C [.own x,.d (.tuple ns),.d (.bool (decide (vOf (.str ⟨#[c]⟩)=vOf (.str (Str.ofString "o")))))] O (λ_ O1=>Clo R (.d .none) O1);rw[e2];exact⟨ns,_,hns,x,dx,p,st,kp,S,rfl,hs,trivial,λO' q1 q2=>.inl (h _ _ O' (.xp q1 q2))⟩
 refine yh (k:=118) (by decide +kernel) rfl (λe=>?_) (λn118=>?_)
 .subst e
  exact zjp hn ha hb hns hs hG h
 refine yh (k:=122) (by decide +kernel) rfl (λe=>?_) (λn122=>?_)
 .subst e
  exact zjq hn ha hb hns hs hG h
 refine yh (k:=90) (by decide +kernel) rfl (λe=>?_) (λn90=>?_)
 .subst e
  exact zjr hn ha hb hns hs hG h
 have e:opt lsM c (actS c a b ns) S=S:=if_neg (by simp only[List.mem_cons,List.not_mem_nil,or_false];omega);rw[e]at h;exact .inl (h _ _ O (.refl hs))
end
noncomputable abbrev EF(K:W.Frag)(mg:Str->Option Value)(x:Str)(st:Stmt):Prop:=∃f fd,Fun K x x st f fd/\mg x=some (.ref f)
theorem fk{oc kV doc pm cd ct:Value}{od an:Option Addr}{sl:Array (Option Value)}(X:K.In h)(G:h.Ns mainGlobals mg)
  (a:W.nsIn K mainGlobals x=some (some (.ref f)):=by k_is)(l:K.lookup f=some ⟨oc,od,.func (W.fnOf x x (defArgs st) (defBody st) (defScope st) .none kV doc pm an cd ct),sl⟩:=by k_is)(c:W.codeIn K cd x=true:=by k_is)(k:W.keepIn K (.ref f)=true:=by k_is) :
  EF K mg x st:=⟨f,_,V3 (st:=st) l c k,W.mg_of X G a⟩
theorem fkD{D:Addr}{oc kV doc pm cd ct:Value}{od an:Option Addr}{sl:Array (Option Value)}{oD:Obj}{ds:List Value}(X:K.In h)(G:h.Ns mainGlobals mg)
  (a:W.nsIn K mainGlobals x=some (some (.ref f)):=by k_is)(l:K.lookup f=some ⟨oc,od,.func (W.fnOf x x (defArgs st) (defBody st) (defScope st) (.ref D) kV doc pm an cd ct),sl⟩:=by k_is)(c:W.codeIn K cd x=true:=by k_is)(k:W.keepIn K (.ref f)=true:=by k_is)
  (t:K.lookup D=some oD:=by k_is)(e:oD.data=.seq ds.toArray n:=by rfl):∃f fd,FunD K x x st ds f fd/\mg x=some (.ref f):=⟨f,_,⟨⟨oc,od,kV,doc,pm,an,cd,ct,sl,D,oD,n,rfl,l,c,t,e⟩,k⟩,W.mg_of X G a⟩
theorem zea{q:Str}{ps:List Str}(hl:ps.length= 1)(hb:∀kV doc pm an cdv ct a0,bindArgs (W.fnOf x q (defArgs st) (defBody st) (defScope st) .none kV doc pm an cdv ct) ⟨[a0],[]⟩=pure (ps.zip [a0])):∀kV doc pm an cdv ct us,us.length=ps.length->bindArgs (W.fnOf x q (defArgs st) (defBody st) (defScope st) .none kV doc pm an cdv ct) ⟨us,[]⟩=pure (ps.zip us):=λ_ _ _ _ _ _ us h=>match us,h.trans hl with|[a0],_=>hb _ _ _ _ _ _ _
theorem zeb{q:Str}{ps:List Str}(hl:ps.length= 2)(hb:∀kV doc pm an cdv ct a0 a1,bindArgs (W.fnOf x q (defArgs st) (defBody st) (defScope st) .none kV doc pm an cdv ct) ⟨[a0,a1],[]⟩=pure (ps.zip [a0,a1])):∀kV doc pm an cdv ct us,us.length=ps.length->bindArgs (W.fnOf x q (defArgs st) (defBody st) (defScope st) .none kV doc pm an cdv ct) ⟨us,[]⟩=pure (ps.zip us):=λ_ _ _ _ _ _ us h=>match us,h.trans hl with|[a0,a1],_=>hb _ _ _ _ _ _ _ _
theorem zec{q:Str}{ps:List Str}(hl:ps.length= 3)(hb:∀kV doc pm an cdv ct a0 a1 a2,bindArgs (W.fnOf x q (defArgs st) (defBody st) (defScope st) .none kV doc pm an cdv ct) ⟨[a0,a1,a2],[]⟩=pure (ps.zip [a0,a1,a2])):∀kV doc pm an cdv ct us,us.length=ps.length->bindArgs (W.fnOf x q (defArgs st) (defBody st) (defScope st) .none kV doc pm an cdv ct) ⟨us,[]⟩=pure (ps.zip us):=λ_ _ _ _ _ _ us h=>match us,h.trans hl with|[a0,a1,a2],_=>hb _ _ _ _ _ _ _ _ _
theorem zed{q:Str}{ps:List Str}(hl:ps.length= 4)(hb:∀kV doc pm an cdv ct a0 a1 a2 a3,bindArgs (W.fnOf x q (defArgs st) (defBody st) (defScope st) .none kV doc pm an cdv ct) ⟨[a0,a1,a2,a3],[]⟩=pure (ps.zip [a0,a1,a2,a3])):∀kV doc pm an cdv ct us,us.length=ps.length->bindArgs (W.fnOf x q (defArgs st) (defBody st) (defScope st) .none kV doc pm an cdv ct) ⟨us,[]⟩=pure (ps.zip us):=λ_ _ _ _ _ _ us h=>match us,h.trans hl with|[a0,a1,a2,a3],_=>hb _ _ _ _ _ _ _ _ _ _
theorem zT(P:Program)(w:World)(base:Heap){k:Nat}{ps:List Str}{sp:Sp}(e:EF K mg x st)(ok:∀{f fd},Fun K x x st f fd->FnOk P w K mg base CX0 k f fd ps sp)(hb:∀kV doc pm an cdv ct us,us.length=ps.length->bindArgs (W.fnOf x x (defArgs st) (defBody st) (defScope st) .none kV doc pm an cdv ct) ⟨us,[]⟩=pure (ps.zip us):=by first|exact zea rfl λ_ _ _ _ _ _ _=>rfl|exact zeb rfl λ_ _ _ _ _ _ _ _=>rfl|exact zec rfl λ_ _ _ _ _ _ _ _ _=>rfl|exact zed rfl λ_ _ _ _ _ _ _ _ _ _=>rfl):Cal P w K mg base k x [] sp:=by
 obtain⟨f,fd,F,m⟩:=e;exact⟨f,fd,ps,[],ok F,m,F.kp,F.binds hb,.nil⟩
noncomputable abbrev EM(K:W.Frag)(C:Addr)(x q:Str)(st:Stmt):Prop:=∃f fd,Meth K C x f/\Fun K x q st f fd
noncomputable abbrev EI(K:W.Frag)(C:Addr)(q:Str)(st:Stmt):Prop:=∃f fd,Mk K C f/\Fun K "__init__" q st f fd
theorem yO{w:World}{k:Nat}{q:Str}{ps:List Str}{sp:Sp}(hc:Cls K C)(e:EM K C x q st)(ok:∀{f fd},Fun K x q st f fd->FnOk P w K mg base CX0 k f fd ps sp)(hb:∀kV doc pm an cdv ct us,us.length=ps.length->bindArgs (W.fnOf x q (defArgs st) (defBody st) (defScope st) .none kV doc pm an cdv ct) ⟨us,[]⟩=pure (ps.zip us):=by first|exact zea rfl λ_ _ _ _ _ _ _=>rfl|exact zeb rfl λ_ _ _ _ _ _ _ _=>rfl|exact zec rfl λ_ _ _ _ _ _ _ _ _=>rfl|exact zed rfl λ_ _ _ _ _ _ _ _ _ _=>rfl):CalT P w K mg base k x C sp:=by
 obtain⟨f,fd,M,F⟩:=e;exact⟨f,fd,ps,hc,M,ok F,F.binds hb⟩
theorem Zv(P:Program)(w:World)(base:Heap){k:Nat}{q:Str}{ps:List Str}{sp:Sp}(hm:mg x=some (.ref C))(e:EI K C q st)(ok:∀{f fd},Fun K "__init__" q st f fd->FnOk P w K mg base CX0 k f fd ps sp)(hb:∀kV doc pm an cdv ct us,us.length=ps.length->bindArgs (W.fnOf "__init__" q (defArgs st) (defBody st) (defScope st) .none kV doc pm an cdv ct) ⟨us,[]⟩=pure (ps.zip us):=by first|exact zea rfl λ_ _ _ _ _ _ _=>rfl|exact zeb rfl λ_ _ _ _ _ _ _ _=>rfl|exact zec rfl λ_ _ _ _ _ _ _ _ _=>rfl|exact zed rfl λ_ _ _ _ _ _ _ _ _ _=>rfl):CalM P w K mg base k x C sp:=by
 obtain⟨f,fd,M,F⟩:=e;exact⟨f,fd,ps,M,ok F,hm,F.binds hb⟩
theorem ei_mk{q:Str}{oc kV doc pm cd ct:Value}{od an:Option Addr}{sl:Array (Option Value)}(mk:W.makesIn K C=true:=by k_is)(a1:W.findIn K (.ref C) "__init__" =some (some (.ref f)):=by k_is)(i1:W.isFn K (.ref f)=true:=by k_is)(kc:W.keepIn K (.ref C)=true:=by k_is)
  (l:K.lookup f=some ⟨oc,od,.func (W.fnOf "__init__" q (defArgs st) (defBody st) (defScope st) .none kV doc pm an cd ct),sl⟩:=by k_is)(c:W.codeIn K cd q=true:=by k_is)(k:W.keepIn K (.ref f)=true:=by k_is):EI K C q st:=⟨f,_,⟨mk,a1,i1,kc⟩,V3 (st:=st) l c k⟩
theorem em_mk{q:Str}{oc kV doc pm cd ct:Value}{od an:Option Addr}{sl:Array (Option Value)}(a1:W.findIn K (.ref C) x=some (some (.ref f)):=by k_is)(i1:W.isFn K (.ref f)=true:=by k_is)
  (l:K.lookup f=some ⟨oc,od,.func (W.fnOf x q (defArgs st) (defBody st) (defScope st) .none kV doc pm an cd ct),sl⟩:=by k_is)(c:W.codeIn K cd q=true:=by k_is)(k:W.keepIn K (.ref f)=true:=by k_is):EM K C x q st:=⟨f,_,⟨a1,i1,k⟩,V3 (st:=st) l c k⟩
theorem QR{d:Value}(F:FunD K "blank_row" "blank_row" (top 22) [d] f fd):Binds K fd ["wide","ink"] []:=
 F.binds λT kV doc pm an cdv ct us hl=>match us,hl with|[_,_],_=>⟨_,rfl,rfl⟩
theorem Vw{d:Value}(F:FunD K "blank_row" "blank_row" (top 22) [d] f fd):Binds K fd ["wide","ink"] [d]:=
 F.binds λT kV doc pm an cdv ct us hl=>by
  have h2:us.length= 1:=by simpa using hl
  match us,h2 with
  |[_],_=>exact⟨_,rfl,rfl⟩
theorem Z7{d:Value}(F:FunD K "blank_picture" "blank_picture" (top 23) [d] f fd):Binds K fd ["wide","high","ink"] []:=
 F.binds λT kV doc pm an cdv ct us hl=>match us,hl with|[_,_,_],_=>⟨_,rfl,rfl⟩
theorem Zz{d:Value}(F:FunD K "blank_picture" "blank_picture" (top 23) [d] f fd):Binds K fd ["wide","high","ink"] [d]:=
 F.binds λT kV doc pm an cdv ct us hl=>by
  have h2:us.length= 2:=by simpa using hl
  match us,h2 with
  |[_,_],_=>exact⟨_,rfl,rfl⟩
theorem zco{d:Value}(F:FunD K "ink_of" "ink_of" (top 11) [d] f fd):Binds K fd ["fore","back","marks"] []:=
 F.binds λT kV doc pm an cdv ct us hl=>match us,hl with|[_,_,_],_=>⟨_,rfl,rfl⟩
theorem zat{d:Value}(F:FunD K "ink_of" "ink_of" (top 11) [d] f fd):Binds K fd ["fore","back","marks"] [d]:=
 F.binds λT kV doc pm an cdv ct us hl=>by
  have h2:us.length= 2:=by simpa using hl
  match us,h2 with
  |[_,_],_=>exact⟨_,rfl,rfl⟩
theorem all_mk{w:World}{fa bw cQ cD cS cL cT cR:Addr}(T:Txt P w K mg C bw)(TR:TxtR K mg cQ)(D:Dds K mg cD cS cL cT cR)(n_Line:CalN K mg "Line" cL)(n_Tab:CalN K mg "Tab" cT)(n_Deed:CalN K mg "Deed" cD)(k_Deed:Cls K cD)(hfa:mg "law" =some (.ref fa))
  (zlY:EM K C "begin" "State.begin" um)
  (zlX:EI K C "State.__init__" x6)
  (zlU:EI K cS "Sign.__init__" vz)
  (zlR:EI K cR "Row.__init__" vQ)
  (zlW:EM K cS "signs" "Sign.signs" qa)
  (zlL:EM K cL "signs" "Line.signs" qb)
  (zl0:EM K cT "signs" "Tab.signs" qQ)
  (zlT:EM K cR "signs" "Row.signs" qR)
  (zlM:EI K cQ "Reader.__init__" xV)
  (zlO:EM K cQ "open_row" "Reader.open_row" xW)
  (zlN:EM K cQ "end_row" "Reader.end_row" x8)
  (zlQ:EM K cQ "read_sign" "Reader.read_sign" xM)
  (zlP:EM K cQ "read" "Reader.read" uy)
  (zlV:EM K cS "do" "Sign.do" kW)
  (zlK:EM K cL "do" "Line.do" kX)
  (zlZ:EM K cT "do" "Tab.do" ZZ)
  (zlS:EM K cR "do" "Row.do" Z0)
  (zlI:EM K cD "do" "Deed.do" kU)
  (zlJ:EM K cD "signs" "Deed.signs" u9)
  (zmp:∃t f fd,FunD K "blank_row" "blank_row" (top 22) [.int 0 t] f fd/\mg "blank_row" =some (.ref f))
  (zmo:∃t f fd,FunD K "blank_picture" "blank_picture" (top 23) [.int 0 t] f fd/\mg "blank_picture" =some (.ref f))
  (zmF:∃t f fd,FunD K "ink_of" "ink_of" (top 11) [.int 0 t] f fd/\mg "ink_of" =some (.ref f))
  (zmf:EF K mg "_law_size" (top 100))
  (zl9:EF K mg "_law_mixed" (top 99))
  (zl1:EF K mg "_law_at" (top 98))
  (zmK:EF K mg "is_whole" (top 7))
  (zmJ:EF K mg "is_size" (top 21))
  (zmC:EF K mg "first_stops" (top 28))
  (zma:EF K mg "_law_number" (top 101))
  (zmb:EF K mg "_law_numbers" (top 102))
  (zmd:EF K mg "_law_row" (top 103))
  (zme:EF K mg "_law_signs" (top 104))
  (zmc:EF K mg "_law_read" (top 110))
  (zmu:EF K mg "deed_of" (top 87))
  (zl4:EF K mg "_law_by_hand" (top 112))
  (zl7:EF K mg "_law_class_right" (top 111))
  (zmI:EF K mg "is_letter" (top 93))
  (zmS:EF K mg "parted" (top 94))
  (zmH:EF K mg "is_figure" (top 92))
  (zm3:EF K mg "sign_alone" (top 95))
  (zmB:EF K mg "edges" (top 29))
  (zm9:EF K mg "to_left_edge" (top 34))
  (zmq:EF K mg "copied" (top 24))
  (zmn:EF K mg "blank_of" (top 31))
  (zmY:EF K mg "roll_rows" (top 59))
  (zmZ:EF K mg "roll_up" (top 60))
  (zmN:EF K mg "line_end" (top 73))
  (zmj:EF K mg "at_least_one" (top 30))
  (zmP:EF K mg "move_cells" (top 44))
  (zmT:EF K mg "put_cells" (top 45))
  (zmV:EF K mg "put_sign" (top 74))
  (zmR:EF K mg "on_tab" (top 38))
  (znb:EF K mg "told_place" (top 55))
  (znc:EF K mg "told_size" (top 56))
  (zmD:EF K mg "fore_of" (top 8))
  (zmk:EF K mg "back_of" (top 9))
  (zmG:EF K mg "ink_text" (top 17))
  (zmi:EF K mg "asked" (top 57))
  (zmQ:EF K mg "number_at" (top 77))
  (zm2:EF K mg "set_stop" (top 40))
  (zm6:EF K mg "take_stop" (top 41))
  (zm7:EF K mg "take_stops" (top 42))
  (zmL:EF K mg "keep" (top 52))
  (zm5:EF K mg "take_back" (top 53))
  (znh:EF K mg "wipe_places" (top 47))
  (znf:EF K mg "wipe" (top 49))
  (zmm:EF K mg "begin_anew" (top 54))
  (zmy:EF K mg "do_without_number" (top 78))
  (zmE:EF K mg "go" (top 33))
  (zml:EF K mg "back_tab" (top 39))
  (zmh:EF K mg "again" (top 75))
  (zmX:EF K mg "roll_down" (top 61))
  (zmW:EF K mg "roll" (top 62))
  (zmU:EF K mg "put_lines" (top 63))
  (zmt:EF K mg "cut_lines" (top 64))
  (zms:EF K mg "cut_cells" (top 46))
  (zng:EF K mg "wipe_cells" (top 48))
  (zmw:EF K mg "do_with_one" (top 79))
  (zmr:EF K mg "counted" (top 35))
  (zna:EF K mg "to_place" (top 36))
  (zm4:EF K mg "span" (top 66))
  (zm8:EF K mg "to_home" (top 37))
  (zm1:EF K mg "set_rows" (top 67))
  (zm0:EF K mg "set_columns" (top 68))
  (zmx:EF K mg "do_with_two" (top 80))
  (znk:EF K mg "with_mark" (top 14))
  (znl:EF K mg "without_mark" (top 15))
  (zne:EF K mg "turned_marks" (top 16))
  (zmO:EF K mg "marks_of" (top 10))
  (znj:EF K mg "with_fore" (top 12))
  (zni:EF K mg "with_back" (top 13))
  (zmA:EF K mg "dyed" (top 69))
  (zmz:EF K mg "dye" (top 70))
  (znd:EF K mg "turn_modes" (top 71))
  (zmv:EF K mg "do_with_all" (top 81))
  (zl3:EF K mg "_law_by_going" (top 106))
  (zl2:EF K mg "_law_by_cells" (top 107))
  (zl5:EF K mg "_law_by_modes" (top 108))
  (zl6:EF K mg "_law_called" (top 109))
  (zmg:EF K mg "_law_told" (top 105))
  (zl8:EF K mg "_law_does" (top 113))
  (zmM:EF K mg "law" (top 114)) :
  ∃fd:FuncData,(∀(s:Shared) (v:Value),BindsTo s fd ⟨[v],[]⟩ [("_law_script",v)])/\∀base:Heap,K.In base->base.Ns mainGlobals mg->FnOk P w K mg base CX0 10 fa fd ["_law_script"] (zb K sLaw21):=by
 obtain⟨znp,zlH,zli,znt⟩:=zmM;obtain⟨znv,znn,zlF,zlg,znr⟩:=zmp;obtain⟨znu,znm,zlE,zlf,znq⟩:=zmo;obtain⟨znw,zno,zlG,zlh,zns⟩:=zmF;rw[hfa]at znt;cases znt;refine⟨zlH,λs v=>?_,λbase _ _=>?_⟩
 .obtain⟨oc,od,kV,doc,pm,an,cdv,ct,osl,rfl,_⟩:=zli.ex
  exact .of_eq rfl
 have cg:=zT P w base zmf (Jk · T);have aq:=zT P w base zl9 (QJ · T);have ci:=zT P w base zl1 (zcd · T);have ao:=zT P w base zmK (Q9 · T);have ar:=zT P w base zmJ (zai · T ao);have zlA:Cal P w K mg base 1 "blank_row" [] (zb K sBlankRow):=⟨znn,zlF,_,[],Zd zlg T,znr,zlg.kp,QR zlg,.nil⟩;have zlB:Cal P w K mg base 1 "blank_row" [.int 0] (zb K sBlankRow):=⟨znn,zlF,_,_,Zd zlg T,znr,zlg.kp,Vw zlg,.cons ⟨znv,rfl⟩ .nil⟩;have zly:Cal P w K mg base 3 "blank_picture" [] (zb K sBlankPic):=⟨znm,zlE,_,[],qh zlf T ar zlA,znq,zlf.kp,Z7 zlf,.nil⟩;have zlz:Cal P w K mg base 3 "blank_picture" [.int 0] (zb K sBlankPic):=⟨znm,zlE,_,_,qh zlf T ar zlA,znq,zlf.kp,Zz zlf,.cons ⟨znu,rfl⟩ .nil⟩;have cq:=zT P w base zmC (XD · T);have zlv:CalT P w K mg base 2 "begin" C (zb K (Zt C)):=yO T.st.cl zlY (XE · T cq);have ai:=Zv P w base T.mgC zlX (Vt · T zlz zlv);have bu:=zT P w base zma (Vr · T);have bx:=zT P w base zmb (XA · T bu);have bz:=zT P w base zmd (zas · T bx);have c6:=zT P w base zme (QK · T);have cj:=zT P w base zmc (Jl · T bz c6);have ag:=Zv P w base D.m_Sign zlU (QF · T D);have ah:=Zv P w base D.m_Row zlR (Ji · T D);have ck:=zT P w base zmu (zar · T D ag n_Line n_Tab ah);have cm:=zT P w base zl4 (Xz · T D ag n_Line n_Tab ah);have cn:=zT P w base zl7 (Zb · T D);have zlu:CalT P w K mg base 1 "signs" cS (zb K (sSigns (aS cS))):=yO D.k_S.cl zlW (Vo · T D);have zlm:CalT P w K mg base 1 "signs" cL (zb K (sSigns (aL cL))):=yO D.k_L.cl zlL (Vp · T);have zlx:CalT P w K mg base 1 "signs" cT (zb K (sSigns (aT cT))):=yO D.k_T.cl zl0 (QG · T);have zls:CalT P w K mg base 1 "signs" cR (zb K (sSigns (aR cR))):=yO D.k_R.cl zlT (QH · T D);have cp:=Zv P w base TR.mgC zlM (XB · TR);have cb:=zT P w base zmI (QM · TR);have c8:=zT P w base zmS (zcn · TR);have zlo:CalT P w K mg base 1 "open_row" cQ (zb K (UH cQ)):=yO TR.st.cl zlO (Zc · TR);have zln:CalT P w K mg base 2 "end_row" cQ (zb K (KL cQ)):=yO TR.st.cl zlN (Zy · TR c8 zlo);have ce:=zT P w base zmH (QL · TR);have cf:=zT P w base zm3 (Vs · TR);have zlq:CalT P w K mg base 3 "read_sign" cQ (zb K (UI cQ)):=yO TR.st.cl zlQ (j0 · TR cb zln ce cf);have zlp:CalT P w K mg base 4 "read" cQ (zb K (UJ cQ)):=yO TR.st.cl zlP (XC · TR zlq);have u3:=zT P w base zmB (zd4 · T);have u8:=zT P w base zm9 (YM · T u3);have bd:=zT P w base zmq (zb7 · T);have u7:=zT P w base zmn (Jb · T);have we:=zT P w base zmY (Qx · T bd u7);have uo:=zT P w base zmZ (zam · T we);have uq:=zT P w base zmN (Je · T u8 uo);have u0:=zT P w base zmj (YJ · T);have wf:=zT P w base zmP (Vj · T u3 u7);have ur:=zT P w base zmT (Qy · T u0 wf);have ut:=zT P w base zmV (Jf · T uq ur u3);have zlt:CalT P w K mg base 6 "do" cS (zb K (sDeedDo C (aS cS))):=yO D.k_S.cl zlV (zap · T D ut);have zll:CalT P w K mg base 5 "do" cL (zb K (sDeedDo C (aL cL))):=yO D.k_L.cl zlK (zaq · T uq);have u4:=zT P w base zmR (zb8 · T u3 u0);have zlw:CalT P w K mg base 3 "do" cT (zb K (sDeedDo C (aT cT))):=yO D.k_T.cl zlZ (zcb · T u4);have be:=zT P w base znb (Vm · T);have bf:=zT P w base znc (QD · T);have uz:=zT P w base zmD (zaj · T);have uw:=zT P w base zmk (zak · T);have bg:=zT P w base zmG (Jh · T uz uw);have af:=zT P w base zmi (zd7 · T be bf bg);have ap:=zT P w base zmQ (QE · T);have wg:=zT P w base zm2 (Jn · T);have wj:=zT P w base zm6 (Qz · T);have wk:=zT P w base zm7 (Vl · T);have wm:=zT P w base zmL (zgY · T);have wn:=zT P w base zm5 (QC · T);have aj:=zT P w base znh (XF · T u7);have uu:=zT P w base znf (zg4 · T aj);have wo:=zT P w base zmm (Vv · T zlv uu);have bh:=zT P w base zmy (jR · T u8 wg wj wk wm wn wo);have wq:=zT P w base zmE (zkC · T u0 u3);have wt:=zT P w base zml (Jg · T u3 u0);have wu:=zT P w base zmh (zd5 · T u0 ut);have ak:=zT P w base zmX (QO · T we);have ww:=zT P w base zmW (zg5 · T u0 uo ak);have wx:=zT P w base zmU (QP · T u0 ak);have wy:=zT P w base zmt (QQ · T u0 uo);have wz:=zT P w base zms (QN · T u0 wf);have xc:=zT P w base zng (Vu · T u0 aj);have bi:=zT P w base zmw (Xw · T wq u4 wt wu ww wx wy ur wz xc uu);have wb:=zT P w base zmr (zah · T u0);have u5:=zT P w base zna (Jc · T wb);have wc:=zT P w base zm4 (zgT · T u0);have u6:=zT P w base zm8 (zal · T u5);have aa:=zT P w base zm1 (Jd · T wc u6);have ad:=zT P w base zm0 (Xv · T wc u6);have bj:=zT P w base zmx (Xx · T u5 aa ad);have aw:=zT P w base znk (Qu · T);have ax:=zT P w base znl (YL · T);have ay:=zT P w base zne (YK · T);have zlC:Cal P w K mg base 1 "ink_of" [] (zb K jf):=⟨zno,zlG,_,[],X8 zlh T,zns,zlh.kp,zco zlh,.nil⟩;have zlD:Cal P w K mg base 1 "ink_of" [.int 0] (zb K jf):=⟨zno,zlG,_,_,X8 zlh T,zns,zlh.kp,zat zlh,.cons ⟨znw,rfl⟩ .nil⟩;have wa:=zT P w base zmO (Ja · T);have az:=zT P w base znj (Qv · T zlC uw wa);have ba:=zT P w base zni (Qw · T zlC uz wa);have bc:=zT P w base zmA (zgU · T aw ax ay az ba);have ae:=zT P w base zmz (zjk · T bc);have w9:=zT P w base znd (Vk · T u6);have bm:=zT P w base zmv (Xy · T ae w9);have zlr:CalT P w K mg base 8 "do" cR (zb K (sDeedDo C (aR cR))):=yO D.k_R.cl zlS (zcc · T D af ap bh bi bj bm);have bp:=zT P w base zl3 (YS · T wq u8 u5 u4 wt wg wj wk aa ad);have bq:=zT P w base zl2 (YT · T ww wx wy ur wz xc uu wu);have bt:=zT P w base zl5 (YU · T ae w9 wm wn wo);have c7:=zT P w base zl6 (Vq · T ut uq u4 af bp bq bt);have w8:=zT P w base zmg (Jj · T);have am:=zT P w base zl8 (Jm · T D zlt zll zlw zlr c7 w8);have zlj:CalT P w K mg base 1 "do" cD (zb K sNoDo):=yO k_Deed zlI (zao · T);have zlk:CalT P w K mg base 1 "signs" cD (zb K sNoSigns):=yO k_Deed zlJ (Vn · T);exact zjI zli T D cg aq ci ai cj ck cm cn zlu zlm zlx zls cp zlp am n_Deed zlj zlk w8
theorem mn(X:K.In h)(G:h.Ns mainGlobals mg)(a:W.nsIn K mainGlobals x=some none:=by k_is):mg x=none:=W.mg_none_of X G a
theorem mv{v:Value}(X:K.In h)(G:h.Ns mainGlobals mg)(a:W.nsIn K mainGlobals x=some (some v):=by k_is):mg x=some v:=W.mg_of X G a
theorem na(a:W.findIn K (.ref C) x=some none:=by k_is):NoAttr K C x:=a
theorem cls_mk(pg:W.plainGet K C Str.empty=true:=by k_is)(hd:W.hasDictIn K C=true:=by k_is)(po:W.plainOver K C=true:=by k_is)(sa:W.findIn K (.ref C) "__setattr__" =some (some (.builtin "object.__setattr__")):=by k_is):Cls K C:=⟨pg,hd,po,sa⟩
theorem isk_mk(pg:W.plainGet K C Str.empty=true:=by k_is)(hd:W.hasDictIn K C=true:=by k_is)(po:W.plainOver K C=true:=by k_is)(sa:W.findIn K (.ref C) "__setattr__" =some (some (.builtin "object.__setattr__")):=by k_is)(ha:W.findIn K (.ref C) "__class__" =some (some (.builtin "object.__class__")):=by k_is)(hn:W.specialIn K (.builtin "object.__class__") "__get__" =some (some (.builtin "getset_descriptor.__get__")):=by k_is)(tk:W.takesIn K (.builtin "object.__class__")=some true:=by k_is)(hm:W.mroIn K C (.type "object")=some true:=by k_is):IsK K C:=⟨⟨pg,hd,po,sa⟩,ha,hn,tk,hm⟩
theorem caln_mk(X:K.In h)(G:h.Ns mainGlobals mg)(a:W.nsIn K mainGlobals x=some (some (.ref C)):=by k_is)(mk:W.makesIn K C=true:=by k_is)(a1:W.findIn K (.ref C) "__init__" =some (some (.builtin "object.__init__")):=by k_is)(kc:W.keepIn K (.ref C)=true:=by k_is):CalN K mg x C:=⟨⟨mk,a1,kc⟩,W.mg_of X G a⟩
end K21
namespace PySem.W.Fast
def tw16153733519853274837:=()
def tw1400156463565168879:=()
def tw4121511943781159447:=()
def tw2694525497228587049:=()
def tw4008977791488053163:=()
def tw8159515205184135267:=()
def tw15987205501075586377:=()
def tw9283780055943916165:=()
def tw5162708836805678058:=()
def tw64624005299336405:=()
def tw11695435789747900183:=()
def tw2409168260817833998:=()
def tw10545018363508407937:=()
def tw15714645084731811261:=()
def tw15694823725023636461:=()
def tw18340341928682048291:=()
def tw16831671965622922159:=()
def tw18100423880489900151:=()
def tw3936874011487495419:=()
def tw14536385197075446099:=()
def tw1528208453600834252:=()
def tw10810233493203948628:=()
def tw15222336404554905745:=()
def tw11521036972909338602:=()
def tw16796802770406710946:=()
def tw1392679146152364920:=()
def tw4343968789641678323:=()
def tw10305312156986992982:=()
def tw6531130993491745271:=()
def tw4352772269886212008:=()
def tw5942333213542334032:=()
def tw5409381162596061575:=()
def tw8832930702561764410:=()
def tw11525377126924460937:=()
def tw4890924024657310741:=()
def tw9417738155867314958:=()
def tw13987021068940454086:=()
def tw5209526646893581946:=()
def tw12050227929371091968:=()
def tw6823050214287984672:=()
def tw15343409999798534661:=()
def tw14544060102661625505:=()
def tw13275297795445373862:=()
def tw17859039427399101048:=()
def tw16216949715778333164:=()
def tw8481272784901695950:=()
def tw276710458343078357:=()
def tw13459250399007811814:=()
def tw11555853936486120983:=()
def tw15675193927770674386:=()
def tw15572435685145910583:=()
def tw13889226120625304946:=()
def tw5330794351961505059:=()
def tw3532635816617838286:=()
def tw7304459253304067218:=()
def tw4043110016529854997:=()
def tw644098947311901276:=()
def tw463427997276562550:=()
def tw7225191721069237412:=()
def tw6649410638688035464:=()
def tw9407421481111059158:=()
def tw130073871162835826:=()
def tw16735422346797253198:=()
def tw6726503497186586933:=()
def tw9740440067626735120:=()
def tw12221446616583737073:=()
def tw6477907226918136254:=()
def tw7759894447840045825:=()
def tw17093812310397147474:=()
def tw9525463883990499829:=()
def tw15888640521831948057:=()
def tw17127260262441274285:=()
def tw8590792652073767546:=()
def tw828246825354869872:=()
def tw14180192517563909131:=()
def tw17812335110092064877:=()
def tw7445381217287683640:=()
def tw17146357508994973946:=()
def tw1821348555899408552:=()
def tw3466131509907925442:=()
def tw8574432109478485553:=()
def tw402995414914174276:=()
def tw792205180042519406:=()
def tw13402580960673536788:=()
def tw689038710121019116:=()
def tw11187823484167322649:=()
def tw2090260630785621576:=()
def tw910363166961747909:=()
def tw7454014276330329682:=()
def tw15700231173393839890:=()
def tw1477809355940306351:=()
def tw3409296810623339534:=()
def tw14599166886245174750:=()
def tw10768920342201415636:=()
def tw9881353311772866237:=()
def tw16855597194440746201:=()
def tw5039261111334897392:=()
def tw5268532088705693951:=()
def tw1679213429771609768:=()
def tw280458561608921242:=()
def tw4752206943521230179:=()
def tw15307075938717177541:=()
def tw9106641057764581712:=()
def tw5870475277224353464:=()
def tw15031450799010829213:=()
def tw6828591044062578737:=()
def tw6913669746173383822:=()
def tw14213136712996474052:=()
def tw15489132075959268320:=()
def tw12305259059739236783:=()
def tw7102852236476737150:=()
def tw4906950586124692450:=()
def tw6174218525011201151:=()
def tw6789188147731907863:=()
def tw8411460864419459074:=()
def tw14432784756577771793:=()
def tw13217660542223084293:=()
def tw16600724324685457880:=()
def tw15187601906747298221:=()
def tw6375539806473928410:=()
def tw8282423012292368363:=()
def tw10335183822011093716:=()
def tw1972914948811104339:=()
def tw14672810945041875969:=()
def tw16461675300782320265:=()
def tw6602578382516016409:=()
def tw420013927199122443:=()
def tw14662848127671573562:=()
def tw6195652574480053041:=()
def tw5594868130457949671:=()
def tw11851241692411442253:=()
def tw6488128722604521231:=()
def tw12655161013175816819:=()
def tw3478032827747201691:=()
def tw5660235466765165639:=()
def tw12667771080808027791:=()
def tw2699204343755030888:=()
def tw7352833567347998849:=()
def tw11239501529294439323:=()
def tw12871415639292394147:=()
def tw4376438664147625501:=()
def tw15454155900701169063:=()
def tw6980661739187112154:=()
def tw1705807119354284545:=()
def tw17028796744843690173:=()
def tw11578155905128220084:=()
def tw6517080437978586506:=()
def tw15326040189980879874:=()
def tw12394683980755690736:=()
def tw10047253273876495811:=()
def tw727233916787575518:=()
def tw2349680728031549624:=()
def tw13701553831481128861:=()
def tw17967370418025696252:=()
def tw8071285910781580920:=()
def tw15314831386073368057:=()
def tw4870287769184547758:=()
def tw7634302508008321838:=()
def tw8047477431653156665:=()
def tw9189535187444578662:=()
def tw521700225881604885:=()
def tw17601861063021786708:=()
def tw244704479115352264:=()
def tw9074545956974973436:=()
def tw18187851096558192312:=()
def tw18365516756542456507:=()
def tw17614217370700885888:=()
def tw6360684972359817466:=()
def tw10778546519869222075:=()
def tw378377937245649962:=()
def tw9149044292012282226:=()
def tw1824605511885229379:=()
def tw10277270292264875443:=()
def tw6391954004720783542:=()
def tw14996924641999743433:=()
def tw9706139784722259598:=()
def tw5446162162880484859:=()
def tw8748331588206828627:=()
def tw16071371752145199970:=()
def tw5964090761442797391:=()
def tw14670441632296987207:=()
def tw8532523379097186926:=()
def tw15292198772964689130:=()
def tw12719459981267102659:=()
def tw12549813021319448979:=()
def tw18310337306236418604:=()
def tw3686481590146006514:=()
def tw17357298079555578817:=()
def tw4822945006116104566:=()
def tw419074258284030471:=()
def tw13558559126091141685:=()
def tw1039724694912113955:=()
def tw2502406961311639254:=()
def tw12308243354555229252:=()
def tw4529129163558048025:=()
def tw9529902478156386664:=()
def tw16467697223713664924:=()
def tw1382690040435083112:=()
def tw12029434430638951858:=()
def tw16211271401370787254:=()
def tw5069221817932173628:=()
def tw14340321686504473066:=()
def tw2857467005363340056:=()
def tw1451858080618461716:=()
def tw3845940588518683570:=()
def tw1257791559910928487:=()
def tw5885951750675216742:=()
def tw2082181350671620935:=()
def tw5542350203098607876:=()
def tw1247026843951941693:=()
def tw2133772305554544784:=()
def tw3688525288024396494:=()
def tw2594895690334782456:=()
def tw6680450115383619708:=()
def tw7500215855687910686:=()
def tw2035629346289679286:=()
def tw12699672853489264379:=()
def tw14579449595330028822:=()
def tw7822662919021932388:=()
def tw5559308442084306833:=()
def tw13977591861679617488:=()
def tw3736551426044571607:=()
def tw13197600632680656410:=()
def tw1851737309645357960:=()
def tw12922138553298623638:=()
def tw6030782902683011289:=()
def tw2951088438218201089:=()
def tw15717286616139300352:=()
def tw17992543966786818533:=()
def tw14960845693428140149:=()
def tw2948021573671984973:=()
def tw15004992436216846452:=()
def tw12346951390598389505:=()
def tw17613715462749349096:=()
def tw17837216869975062048:=()
def tw5767942365653254929:=()
def tw16193496548292103835:=()
def tw5761481277158259441:=()
def tw16396372856768079041:=()
def tw3864787379746570569:=()
def tw13032268847071207156:=()
def tw10245541962996488489:=()
def tw4079460232549348538:=()
def tw18199364883058673141:=()
def tw16921661503351071190:=()
def tw4974508243171184907:=()
def tw12514767517177772365:=()
def tw1739112705876516096:=()
def tw7473160606391336783:=()
def tw17008794621323029168:=()
def tw7493787186185372410:=()
def tw2861929772982789679:=()
def tw1631483177694305499:=()
def tw12129749714382021395:=()
def tw7966700169909551168:=()
def tw17653607880761778663:=()
def tw1012767968565086782:=()
def tw2466944170448479571:=()
def tw6821272253379834231:=()
def tw8068684759134732780:=()
def tw15651294818215735462:=()
def tw14863293996973259183:=()
def tw9195306980865623512:=()
def tw3798774383706290047:=()
def tw13549073834188784999:=()
def tw10314098600320429068:=()
def tw11050163931944755411:=()
def tw11910043288215461852:=()
def tw4412202401607536838:=()
def tw11494253424433458909:=()
def tw18222099233600143021:=()
def tw6141096967013422436:=()
def tw3034379356960930107:=()
def tw2388067864020290480:=()
def tw10634887270856781641:=()
def tw4520769827140087711:=()
def tw11045549012829471680:=()
def tw6125859727174834547:=()
def tw10287503881739035324:=()
def tw13467040392315105977:=()
def tw12479335339899231950:=()
def tw12911730356421718658:=()
def tw5532404260806324004:=()
def tw718343159057949466:=()
def tw10160791306572328491:=()
def tw334896284290653882:=()
def tw14960666274194458165:=()
def tw4389974193589376641:=()
def tw6249103140438738533:=()
def tw7326208342866203338:=()
def tw8323669340481494727:=()
def tw264092575557810909:=()
def tw15629384718918194447:=()
def tw6912168571785958892:=()
def tw3843076940305584469:=()
def tw18149908236744610899:=()
def tw18252669533766678958:=()
def tw13347866787044946574:=()
def tw12736914501294968171:=()
def tw13994070207616757261:=()
def tw2100689631632803405:=()
def tw13392598578078390645:=()
def tw10685780510557052082:=()
def tw11415061230879638144:=()
def tw3925489400465995683:=()
def tw4556936473312412255:=()
def tw6427794670623900700:=()
def tw1320947681761521761:=()
def tw13693028479742234256:=()
def tw13327337460149516944:=()
def tw16086923375387806958:=()
def tw15966795355326135619:=()
def tw17988402578898366195:=()
def tw7608307410873837986:=()
def tw727927299548076209:=()
def tw7806467320128076806:=()
def tw469254016086447595:=()
def tw8836142276054818923:=()
def tw16509658497862545433:=()
def tw12654550212928782633:=()
def tw2504484001774554862:=()
def tw4361367625884995627:=()
def tw7832471957663077494:=()
def tw7882044509475311763:=()
def tw15387753268770275725:=()
def tw14792957335062741601:=()
def tw9059522347707356779:=()
def tw16248685714966242601:=()
def tw1157631829398240886:=()
def tw11524696572506080569:=()
def tw5154583504306673654:=()
def tw10952989337908539301:=()
def tw4335131443197124350:=()
def tw6418710098223271798:=()
def tw15364649535991025202:=()
def tw2545181568487495509:=()
def tw16863725492562887018:=()
def tw8688296351729145848:=()
def tw7341295876415060869:=()
def tw9769432595585740125:=()
def tw13570912093042005658:=()
def tw15573125602751737237:=()
def tw2744979785131872991:=()
def tw10700374049706727613:=()
def tw18398885969277834575:=()
def tw9178676636418491790:=()
def tw13078533115208806764:=()
def tw14990084743792742269:=()
def tw16100513521865364368:=()
def tw12206922117185859859:=()
def tw7112542280861835072:=()
def tw1882153338537777836:=()
def tw10867829138275569868:=()
def tw11154544455253495662:=()
def tw11410492698671784783:=()
def tw7531369615664549246:=()
def tw13412906629990147465:=()
def tw14133316437504029546:=()
def tw12574501552058406452:=()
def tw13647618742582651071:=()
def tw7676107887283355644:=()
def tw7492754232786849152:=()
def tw1603254982951159646:=()
def tw12972309018646381083:=()
def tw16775917257669544947:=()
def tw2740475684216048426:=()
def tw2176272456869447424:=()
def tw3481427765996859080:=()
def tw4041421453397141902:=()
def tw10387247057150364777:=()
def tw8018597355944848078:=()
def tw3347683474212510198:=()
def tw9832187374430723036:=()
def tw14971404712010342620:=()
def tw4398502620017103254:=()
def tw7570269317628496644:=()
def tw8088188431622332271:=()
def tw5195380270699782897:=()
def tw3525335047390980491:=()
def tw18433157834944480438:=()
def tw18263364915715573604:=()
def tw13693134978387242489:=()
def tw946254271419577139:=()
def tw10784718219649033194:=()
def tw689852176971863079:=()
def tw5114574783396253742:=()
def tw3556366880419559324:=()
def tw15508869689583134756:=()
def tw6143758806995867161:=()
def tw13397020397640468316:=()
def tw6639506161724124415:=()
def tw13801486923680439326:=()
def tw10452154214722962071:=()
def tw3140359251738281053:=()
def tw16857850994163243429:=()
def tw4640863563187880691:=()
def tw1509588537948028356:=()
def tw2932256914259737402:=()
def tw14628428878223602408:=()
def tw12447064272770579911:=()
def tw480301142650312095:=()
def tw11340261731830233110:=()
def tw17914503506328227297:=()
def tw15357191146362174696:=()
def tw16364335780644222996:=()
def tw10711554901037018340:=()
def tw15866455434701725125:=()
def tw691992238851647686:=()
def tw15494828361286239601:=()
def tw9290185199204316720:=()
def tw16683585781286125208:=()
def tw17448641918533188668:=()
def tw7846640456312535621:=()
def tw12434968315957997699:=()
def tw14584728989052394485:=()
def tw17981829138996518561:=()
def tw14910804475333015603:=()
def tw14660931695274894975:=()
def tw8050102556760638066:=()
def tw11260227860978584012:=()
def tw14733385502497246313:=()
def tw12817418042881437659:=()
def tw6769140448287868071:=()
def tw3779994440735213240:=()
def tw9543904017740745863:=()
def tw17597130007652208041:=()
def tw7840223034910735007:=()
def tw4929401864350105470:=()
def tw118992875511929206:=()
def tw3209896696006894333:=()
def tw18098181195057074417:=()
def tw13906324494357625737:=()
def tw10037595857187192759:=()
def tw8774055905642814608:=()
def tw18016020094526499704:=()
def tw14429046046257197891:=()
def tw2518104895361180767:=()
def tw941352058136074751:=()
def tw13869162371660290534:=()
def tw12530153872054250533:=()
def tw3969890748840166627:=()
def tw2989728505778000036:=()
def tw11629036052726322994:=()
def tw52530004059886502:=()
def tw17653746049535914400:=()
def tw14461113828242704567:=()
end PySem.W.Fast
open PySem PySem.W PyProof.Rows
set_option maxRecDepth 100000 in
set_option maxHeartbeats 0 in
theorem PySem.Challenge.cw_signscreen_k21_deeds_and_their_signs_holds : PySem.Challenge.rw_signscreen_k21_deeds_and_their_signs.Holds := by
 w_on;o_law;k_head;(case hw=>w_witness2)
 k_fill
 refine L2.walkW (l:=PySem.Challenge.rw_signscreen_k21_deeds_and_their_signs) (n:=63) (k:=10) (x:="_law_script") (s:=K21.sLaw21) rfl (by decide) rfl ⟨rfl,by decide,by decide,rfl⟩ (fun w h Y=>PySem.W.kIn_of Y) ?F (fun ns O R hl hb hR=>⟨ns,rfl,hl,hR⟩)
 case F=>
  intro w mg fa h KX G hmg
  refine' K21.all_mk ?T ?TR ?D ?n_Line ?n_Tab ?n_Deed ?k_Deed hmg ?_ ?_ ?_ ?_ ?_ ?_ ?_ ?_ ?_ ?_ ?_ ?_ ?_ ?_ ?_ ?_ ?_ ?_ ?_ ?_ ?_ ?_ ?_ ?_ ?_ ?_ ?_ ?_ ?_ ?_ ?_ ?_ ?_ ?_ ?_ ?_ ?_ ?_ ?_ ?_ ?_ ?_ ?_ ?_ ?_ ?_ ?_ ?_ ?_ ?_ ?_ ?_ ?_ ?_ ?_ ?_ ?_ ?_ ?_ ?_ ?_ ?_ ?_ ?_ ?_ ?_ ?_ ?_ ?_ ?_ ?_ ?_ ?_ ?_ ?_ ?_ ?_ ?_ ?_ ?_ ?_ ?_ ?_ ?_ ?_ ?_ ?_ ?_ ?_ ?_ ?_ ?_ ?_ ?_ ?_ ?_ ?_ ?_ ?_ ?_ ?_ ?_
  (case T=>exact⟨K21.mn KX G,K21.mn KX G,K21.mn KX G,K21.mn KX G,K21.mn KX G,K21.mn KX G,K21.mn KX G,K21.mn KX G,K21.mn KX G,K21.mn KX G,K21.mn KX G,K21.mn KX G,K21.mn KX G,K21.mn KX G,K21.mn KX G,⟨_,K21.mv KX G⟩,⟨_,K21.mv KX G⟩,⟨_,K21.mv KX G⟩,⟨_,K21.mv KX G⟩,⟨_,K21.mv KX G⟩,⟨_,K21.mv KX G,by rfl⟩,K21.mv KX G,L2.DS.of (by kernel_rfl) (by decide +kernel) (by kernel_rfl),K21.mv KX G,⟨K21.cls_mk,K21.na,K21.na,K21.na,K21.na,K21.na,K21.na,K21.na,K21.na,K21.na,K21.na,K21.na,K21.na,K21.na,K21.na,K21.na,K21.na,K21.na⟩⟩)
  (case TR=>exact⟨K21.mn KX G,K21.mn KX G,K21.mn KX G,K21.mn KX G,⟨_,K21.mv KX G⟩,⟨_,K21.mv KX G⟩,⟨_,K21.mv KX G⟩,K21.mv KX G,⟨K21.cls_mk,K21.na⟩⟩)
  (case D=>exact⟨K21.mv KX G,K21.mv KX G,K21.mv KX G,K21.mv KX G,K21.mv KX G,K21.isk_mk,K21.isk_mk,K21.isk_mk,K21.isk_mk,K21.na,K21.na,K21.na,by kit_is,by kit_is,by kit_is,by kit_is,by kit_is,by kit_is,by kit_is,by kit_is,by kit_is,by kit_is,by kit_is,by kit_is,by kit_is,by kit_is,by kit_is,by kit_is,by kit_is,by kit_is,by kit_is,by kit_is⟩)
  (case n_Line=>exact K21.caln_mk KX G)
  (case n_Tab=>exact K21.caln_mk KX G)
  (case n_Deed=>exact K21.caln_mk KX G)
  (case k_Deed=>exact K21.cls_mk)
  exact K21.em_mk
  exact K21.ei_mk
  exact K21.ei_mk
  exact K21.ei_mk
  exact K21.em_mk
  exact K21.em_mk
  exact K21.em_mk
  exact K21.em_mk
  exact K21.ei_mk
  exact K21.em_mk
  exact K21.em_mk
  exact K21.em_mk
  exact K21.em_mk
  exact K21.em_mk
  exact K21.em_mk
  exact K21.em_mk
  exact K21.em_mk
  exact K21.em_mk
  exact K21.em_mk
  exact⟨_,K21.fkD KX G⟩
  exact⟨_,K21.fkD KX G⟩
  exact⟨_,K21.fkD KX G⟩
  all_goals exact K21.fk KX G
end
